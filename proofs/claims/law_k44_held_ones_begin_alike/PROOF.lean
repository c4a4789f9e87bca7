import PyProof.Rows.All
import Wide.All
import OpenK.AllK
import KE.KRevSl
import KE.KDictOf
import KE.KSortTup
import KE.KDictList
import KE.KPairComp
import KE.BitLaws
import PySem.Challenge.RW_gatepapers_k44_held_ones_begin_alike
set_option Elab.async false
set_option linter.all false
set_option maxRecDepth 100000
set_option autoImplicit true
set_option relaxedAutoImplicit true
set_option genInjectivity false
set_option genSizeOf false
set_option bootstrap.genMatcherCode false
set_option genSizeOfSpec false
set_option maxHeartbeats 4000000
noncomputable section
open PySem.W renaming Frag->Np,nsIn->Oa,findIn->Ol,keepIn->Om,emptyDict->On,fnOf->Oq,instObj->OB,kitOne->OR,codeIn->O9,plainGet->Pg,kia_one->Pp,plainGet_of->Ps,lookIn->Pu,callWith_K->Py,hasDictIn->PL,takerIn->P1,cellsFrom_some->P5,isFn->Qg,plainOver->Qr,handedIn->Qv,makesIn->QD
open List renaming getElem?_eq_some_iff->Nq,length_map->Nt,getElem?_map->Nu,mem_append_right->Nx,size_toArray->Nz,mem_cons->NB,getElem?_eq_getElem->NC,mem_cons_of_mem->NE,mem_singleton->NF,mem_append_left->NG,mem_append->NH,mem_cons_self->NJ,length_append->NK,map_append->NM,map_map->NN,mem_of_getElem?->NO,range->NP,not_mem_nil->NQ,mem_map->NR,map_cons->NS,nodup_cons->NU,getElem?_set_ne->NW,lookup_cons->NX,getElem?_set_self->NY,length_take->N0,replicate->N1,filterMap_cons->N2,length_cons->N3,findIdx?_cons->N4,all_eq_true->N5,getElem?_eq_none->N6,getElem?_append_left->N7,drop_eq_getElem_cons->N8,append_nil->N9,map_congr_left->Oc,mem_range->Od,append_assoc->Of,nodup_append->Og,take_length->Oh,getElem?_append_right->Oi,getD_eq_getElem?_getD->Oj,getElem?_range->Oo,lookup->Ou,length_range->Ox,replicate_succ->Oy,all_cons->Oz,getElem?_zipIdx->OC,cons_append->OE,nil_append->OG,find?_cons->OH,mem_iff_getElem?->OI,ext_getElem?->OL,getElem?_eq_none_iff->OM,length_eq_zero_iff->OT,zip_cons_cons->OU,findIdx?_map->OX,mem_zipIdx_iff_getElem?->OY,length->O3,mergeSort_perm->O4,length_set->O5,take_zero->Pa,flatten_cons->Pb,take_add_one->Pd,drop_of_length_le->Pe,filter_eq_nil_iff->Pf,map->Ph,length_singleton->Pj,take_append_drop->Pm,eraseIdxIfInBounds_toArray->Pn,mem_filter->Po,mem_filterMap->Px,set_cons_succ->Pz,map_singleton->PC,any_cons->PJ,take_sublist->PM,getElem?_take_of_lt->PQ,getElem_mem->PU,nodup_range->PV,getElem?_replicate->PZ,getElem?_cons_succ->P0,of_mem_zip->P2,length_replicate->P7,nodup_nil->P8,drop_zero->P9,dropLast_eq_take->Qa,countP_le_length->Qb,foldl->Qd,mem_iff_getElem->Qe,map_nil->Qh,length_zipIdx->Qn,any_eq_false->Qq,all_eq_false->Qs,getElem?_inj->Qt,length_drop->Qw,drop_length->Qy,getElem_map->QA,countP_cons->QC,length_nil->QE,zipIdx_map->QF,range_succ->QG
open Bool renaming and_eq_true->Nr,false_ne_true->NV,false_eq_true->Oe,or_eq_true->Op,not_eq_true'->OK,or_eq_false_iff->O0,not_true->O1,eq_iff_iff->O6,and_false->Pv,true_and->PK,and_eq_true_iff->Qf,true->QJ,false->QL
open PySem.Heap renaming get?_push_of_some->Nw,lt_size->NA,get?_push_size->NI,size_push->OQ,get?_update_other->OV,get?_update_self->Pi,get?_push_ne->Qu,size_update->QB
open Nat renaming le_refl->Ny,lt_of_lt_of_le->ND,ne_of_lt->NL,le_trans->NT,zero_le->NZ,lt_of_le_of_lt->Os,lt_irrefl->Ot,lt_succ_self->OD,ne_of_gt->OF,pow_le_pow_right->OO,le_succ->OP,lt_succ_of_lt->OW,le_add_right->OZ,le_of_lt->O7,lt_trans->O8,add_le_add_left->Pt,add_sub_cancel->PD,add_assoc->PF,le_of_succ_le->PN,le_succ_of_le->PP,sub_self->PY,two_pow_pos->P4,sub_zero->Qj,zero_add->Qk,lt_of_not_le->Qx
open Option renaming bind_some->Ob,isSome_map->Pc,getD_none->PR,map_some->P3,map_eq_some_iff->P6,isSome_some->Qi,some->QH,none->QI
open Int renaming toNat_natCast->Ov,natCast_inj->Pq,fdiv_eq_ediv_of_nonneg->PH,lt_trans->PX,ofNat_lt->Ql,natAbs_natCast->Qm,emod_lt_of_pos->Qo,ofNat_le->Qp
open Array renaming getElem?_toList->OA,getElem?_eq_none_iff->OJ,getElem?_eq_getElem->ON,length_toList->OS,perm_iff_toList_perm->O2,forIn_toList->Pw,getD_eq_getD_getElem?->PB,mem_toList_iff->Qc,toList_inj->Qz
open PySem renaming Value->QK,wpAny_bind->QM,Expr->QN,Addr->QO,Shared->QP,wpAny_pure->QQ,wpAny->QR,model->QS,Program->QT,starEach->QU,Stmt->QV,World->QW,Around->QX,Heap->QY,mainGlobals->QZ,Scope->Q0,Operator->Q1,cellsFrom->Q2,FuncData->Q3,assignEach->Q4,wpAny_newObj_type->Q5,NameKind->Q6,wpAny_holding->Q7,wpAny_truthy_bool->Q8,behindInMarks->Q9,wpAny_call_entry->Ra,wpAny_passesOwn->Rb,CmpOp->Rc,rawInt->Re,wpAny_pyIter_list->Rf
local macro_rules|`(tactic|let $d:letDecl)=>`(tactic|have $d:letDecl)|`(tactic|show $e)=>`(tactic|refine $e)|`(tactic|nofun)=>`(tactic|decide +kernel)|`(tactic|ext $[$x:ident]*)=>`(tactic|rename_i $[$x:ident]*)
theorem W0w:PySem.Challenge.rw_gatepapers_k44_held_ones_begin_alike.wellSaid=true:=by kernel_rfl
namespace PySem
open Sem (wp)
section
variable {prog:QT} {w:QW} {K:Type} [DecidableEq K] (knd:KeyKind prog w K)
inductive Its2 (h:Heap):Nat->List (K ⊕ List K)->List Value->Prop
 |nil {m:Nat}:Its2 h m [] []
 |key {m:Nat} {k:K} {v:QK} {xs:List (K ⊕ List K)} {vs:List QK}:m%2=0->knd.is k v=QJ->Its2 h (m / 2) xs vs->Its2 h m (.inl k::xs) (v::vs)
 |tup {m:Nat} {ks:List K} {b:QO} {xs:List (K ⊕ List K)} {vs:List QK}:m%2=1->IsTupleKey knd h ks b->Its2 h (m / 2) xs vs->Its2 h m (.inr ks::xs) (.ref b::vs)
def IsDeep(m:Nat)(h:QY)(xs:List (K ⊕ List K))(a:QO):Prop:=∃o q n,h.get? a=QH o/\o.cls=.type "tuple"/\o.data=.seq q n/\Its2 knd h m xs q.toList
noncomputable def c7:K ⊕ List K->Int
 |.inl k=>knd.hash k
 |.inr ks=>tupleKeyHash knd ks
noncomputable def cq:K ⊕ List K->Nat
 |.inl _=>1
 |.inr ks=>ks.length+1
def kg(xs:List (K ⊕ List K)):Int:=reduceHash (Builtin.Tuple.tupleHashOf (xs.map (c7 knd)))
variable {knd}
theorem Its2.inj(g:Its2 knd h m x vs)(f:Its2 knd h m y vs):x=y:=by
 induction g generalizing y with
 |nil=>cases f;rfl
 |key e c _ b=>
  cases f with
  |key _ a d=>rw[knd.inj _ _ _ c a,b d]
  |tup e2 _ _=>lia
 |tup e c _ b=>
  cases f with
  |key e2 _ _=>lia
  |tup _ a d=>rw[c.inj a,b d]
theorem Its2.keeps(k:∀ks b,IsTupleKey knd h ks b->IsTupleKey knd h' ks b)(d:Its2 knd h m x vs):Its2 knd h' m x vs:=by
 induction d with
 |nil=>show .nil
 |key e c _ a=>show .key e c a
 |tup e c _ a=>show .tup e (k _ _ c) a
theorem IsDeep.ty{s:QP}(x:IsDeep knd m s.heap xs a):s.TypeIs (.ref a) "tuple":=by
 unfold IsDeep at x;rcases x with⟨o,_,_,g,c,_⟩;show⟨o,g,c⟩
theorem IsDeep.one(p:IsDeep knd m h x a)(q:IsDeep knd m h y a):x=y:=by
 unfold IsDeep at p q;rcases p with⟨o,i,n,g,_,d,r⟩;rcases q with⟨j,f,k,b,_,c,e⟩;cases g.symm.trans b;cases d.symm.trans c;show r.inj e
theorem IsDeep.stay{h h':QY}{o:Obj}{es ep}(x:IsDeep knd m h xs a)(g:h.get? d=QH o)(e:o.data=.dict es ep)(q:Heap.SameBut d h h'):IsDeep knd m h' xs a:=by
 unfold IsDeep at x⊢;rcases x with⟨k,i,n,f,c,j,r⟩;show⟨k,i,n,?_,c,j,r.keeps λl b z=>z.keeps g e q⟩;show(q.2 a λz=>?_).trans f;rw[z,g] at f;cases f;rw[e] at j;cases j
variable {A:QX} {E:QK->QP->Prop} {s:QP}
theorem gJ{xs:List (K ⊕ List K)}{Q:Int->QP->Prop}(S:A.units+8<cLine)(hk:IsDeep knd m s.heap xs a)(h:Q (kg knd xs) { s with toks:=s.toks+((xs.map cq).sum+1) }) :
  QR (QS prog w) A (pyHash (.ref a)) Q E s:=by
 let B:=hk.ty;let N:=F.slot_tuple_hash.lookup;rcases hk with⟨o,O,n,g,c,d,r⟩
 let t:∀(rest:List QK) (b:Array Int) (z:QP) (v:QK),(∃f left l,xs=f++left/\Its2 knd s.heap l left (v::rest)/\b.toList=f.map (c7 knd)/\z={ s with toks:=s.toks+(f.map cq).sum })->
   ∃i k,(∀(A:QX) (R:Int->QP->Prop),A.units<cLine->R i { z with toks:=z.toks+k }->QR (QS prog w) A (pyHash v) R E z)/\∃f left l,xs=f++left/\Its2 knd s.heap l left rest/\(b.push i).toList=f.map (c7 knd)/\{ z with toks:=z.toks+k }={ s with toks:=s.toks+(f.map cq).sum }:=by
  rintro rest b z v ⟨f,left,l,e,it,C,rfl⟩
  cases it with
  |@key _ k _ j _ _ H p=>
   show⟨knd.hash k,1,λA R _ q=>knd.pyHash H q,f++[.inl k],j,l / 2,by simp[e],p,by simp[C,c7],by simp[cq,PF]⟩
  |@tup _ M _ j _ _ H p=>
   show⟨tupleKeyHash knd M,M.length+1,λA R u q=>wpAny_pyHash_tuple u H q,f++[.inr M],j,l / 2,by simp[e],p,by simp[C,c7],by simp[cq,PF]⟩
 unfold pyHash
 first|unfold pyHashByItsType|skip
 first|show QM (wpAny_cRoomFor_or (.inr (by lia)) ?_)|skip
 show QM (wpAny_specialOf B N ((if_neg (show ¬(QH (Value.builtin "tuple.__hash__")==QH Value.none)=QJ by rw[beq_builtin_none];show NV)).symm▸QM (wpAny_specialOf B N (QM (wpAny_callSpecialIfBoundUnlessNone?_slot B F.slot_tuple_hash (Ra F.slot_tuple_hash B F.entry_tuple_hash (show QR _ _ (Builtin.Tuple.tupleItemsOf (.ref a) >>= _) _ _ s from QM (wpAny_tupleItemsOf g d (QM ?_))) (F.args_tuple_hash_1 _)))))));rw[<- Pw];show wpAny_forIn_list _ (λrest (b:Array Int) z=>∃f left l,xs=f++left/\Its2 knd s.heap l left rest/\b.toList=f.map (c7 knd)/\z={ s with toks:=s.toks+(f.map cq).sum }) _ (λv rest b z I=>?_) (λb z I=>?_) _ _ ⟨[],xs,m,rfl,r,rfl,rfl⟩
 ·obtain⟨i,k,D,x⟩:=t rest b z v I
  show QM (D _ _ (by first|lia|(change _+1<_;lia)) (by first|show QQ x|show QM (QQ (QQ x))))
 ·obtain⟨f,left,l,e,it,C,rfl⟩:=I;cases it;let P:f=xs:=by rw[e,N9]
  subst P;change QR _ _ (retInt (Builtin.Tuple.tupleHashOf b.toList)) _ _ _;rw[C];show wpAny_ret_mkInt ?_;unfold kg reduceHash at h;generalize Builtin.Tuple.tupleHashOf (f.map (c7 knd))=y at h⊢
  change QR _ _ (if(decide (-(2:Int)^63<=y)&&decide (y<2^63))=QJ then _ else _) Q E _
  split
  ·ext L;rw[if_pos L] at h;show QQ (by simpa[PF] using h)
  ·ext L;rw[if_neg L] at h;show QM (wpAny_rule (QQ (by simpa[PF] using h)))
theorem Its2.two{h:QY}{us vs:List QK}(p:Its2 knd h m x us)(q:Its2 knd h m y vs)(z:(u,v)::rest=us.zip vs) :
  ∃(i j:K ⊕ List K) (c b:List (K ⊕ List K)) (us2 a:List QK),x=i::c/\y=j::b/\us=u::us2/\vs=v::a/\Its2 knd h (m / 2) c us2/\Its2 knd h (m / 2) b a/\rest=us2.zip a/\
   ∀(A:QX) (E:QK->QP->Prop) (s:QP) (Q:Bool->QP->Prop),s.heap=h->A.units<cLine->Q (decide (i=j)) s->QR (QS prog w) A (eqBool u v) Q E s:=by
 cases p with
 |nil=>cases z
 |@key _ r B c us2 e f l=>
  cases q with
  |nil=>cases z
  |@key _ o t b a e2 g d=>
   cases z;show⟨_,_,_,_,_,_,rfl,rfl,rfl,rfl,l,d,rfl,λA E s Q k u n=>knd.eqBool f g (by simpa using n)⟩
  |tup e2 _ _=>lia
 |@tup _ r b1 c us2 e f l=>
  cases q with
  |nil=>cases z
  |key e2 _ _=>lia
  |@tup _ o b2 b a e2 g d=>
   cases z;show⟨_,_,_,_,_,_,rfl,rfl,rfl,rfl,l,d,rfl,λA E s Q k u n=>wpAny_eqBool_tuple u (k▸f) (k▸g) (by simpa using n)⟩
theorem Its2.ends{us vs:List QK}(p:Its2 knd h m x us)(q:Its2 knd h m y vs)(z:us.zip vs=[]):(us.length==vs.length)=decide (x=y):=by
 cases p<;>cases q<;>first|rfl|(simp at z;done)|simp
theorem mW{P:Fin->QP->Prop}(hu:A.units+4<cLine)(hx:IsDeep knd m s.heap x a)(O:IsDeep knd m s.heap y b)(h:P (.done (.ret (.bool (decide (x=y))))) s) :
  QR (QS prog w) A (Builtin.«tuple.__eq__» ⟨[.ref a,.ref b],[]⟩) P E s:=by
 let W:=O.ty;rcases hx with⟨o,D,n,g,c,d,p⟩;rcases O with⟨o2,M,n2,U,c2,V,q⟩;show(show QR _ _ (isInstance (.ref b) (.type "tuple") >>= _) _ _ s from QM (wpAny_isInstance W isSubtype_tuple_tuple ?_));simp only[O1,Oe,if_false];show QM (wpAny_tupleItemsOf g d (QM (wpAny_tupleItemsOf U V (QM ?_))));show wpAny_forIn_list _ (λrest r z=>r.1=QI/\z=s/\∃l B C f k,rest=List.zip f k/\Its2 knd s.heap l B f/\Its2 knd s.heap l C k/\decide (B=C)=decide (x=y)/\(f.length==k.length)=(D.size==M.size))
  _ (λY rest r z H=>?_) (λr z H=>?_) _ _ ⟨rfl,rfl,m,x,y,D.toList,M.toList,rfl,p,q,rfl,by simp⟩
 ·obtain⟨u,v⟩:=Y;obtain⟨Q,rfl,l,B,C,f,k,e,N,I,t,K⟩:=H;obtain⟨i,j,Z,S,us2,L,rfl,rfl,rfl,rfl,X,R,rfl,F⟩:=N.two I e;show QM (F _ _ _ _ rfl (by lia) ?_)
  cases hk:decide (i=j) with
  |true=>
   let hk:=of_decide_eq_true hk;subst hk;simp only[O1,Oe,if_false];show QQ ⟨rfl,rfl,l / 2,Z,S,us2,L,rfl,X,R,t▸by simp,by simpa using K⟩
  |false=>
   let hk:=of_decide_eq_false hk;simp only[Bool.not_false,if_true];let T:decide (x=y)=QL:=t▸by simp[hk]
   show QM (QQ (QQ (QQ (T▸h))))
 ·obtain⟨r1,r2⟩:=r;obtain⟨Q,rfl,l,B,C,f,k,e,N,I,t,K⟩:=H;cases(Q);show QQ ?_;change P (.done (.ret (.bool (D.size==M.size)))) z;rw[<- K,N.ends I e.symm,t];show h
theorem gM{Q:Bool->QP->Prop}(k:A.units+8<cLine)(d:IsDeep knd m s.heap x a)(i:IsDeep knd m s.heap y b)(h:Q (decide (x=y)) s) :
  QR (QS prog w) A (eqBool (.ref a) (.ref b)) Q E s:=by
 unfold eqBool
 try with_reducible show Q7 ?_
 show(?_);split
 ·ext f;cases eq_of_beq f;cases d.one i;show QM (wpAny_rule (QQ (by simpa using h)))
 ·let c:=mW (E:=E) (A:=A.in1) (P:=λg j=>∃v,g=Fin.done (Flow.ret v)/\v≠.notImplemented/\QR (QS prog w) A (truthOfDropped v) Q E j) (by change A.units+1+4<cLine;lia) d i ⟨_,rfl,(λe=>nomatch e),Q8 h⟩
  show QM (wpAny_richCompare_same_room d.ty i.ty F.slot_tuple_eq (Ra F.slot_tuple_eq d.ty F.entry_tuple_eq c (F.args_tuple_eq_2 _ _)) (by lia))
theorem oy{n:Nat}{o:Obj}{b:Array QK}{Q:Bool->QP->Prop}(g:s.heap.get? a=QH o)(c:o.cls=.type "tuple")(d:o.data=.seq b ep)(hi:∀v∈b.toList,∀R:Bool->QP->Prop,R QJ s->QR (QS prog w) A (eqIsQuiet n v) R E s)(q:Q QJ s) :
  QR (QS prog w) A (eqIsQuiet (n+1) (.ref a)) Q E s:=by
 let f:s.TypeIs (.ref a) "tuple":=⟨o,g,c⟩;unfold eqIsQuiet;show QM (wpAny_specialOf f F.slot_tuple_eq.lookup (QM (wpAny_isInstance f isSubtype_tuple_tuple ?_)));simp only[O1,Oe,if_false];show QM (wpAny_seqItems g d (QM (?_)));rw[<- Pw];show wpAny_forIn_list _ (λrest r z=>r.1=QI/\z=s/\∀v∈rest,v∈b.toList) _ (λv rest r z e=>?_) (λr z e=>?_) _ _ ⟨rfl,rfl,λv k=>k⟩
 ·obtain⟨i,rfl,h⟩:=e;show QM (hi v (h v NJ) _ ?_);simp only[O1,Oe,if_false];show QQ ⟨rfl,rfl,λu j=>h u (NE _ j)⟩
 ·obtain⟨l,m⟩:=r;obtain⟨i,rfl,_⟩:=e;cases(i);show QQ q
theorem Its2.items{vs:List QK}(p:Its2 knd h m x vs):∀v∈vs,(∃k,knd.is k v=QJ)\/∃ks b,v=.ref b/\IsTupleKey knd h ks b:=by
 induction p with
 |nil=>intro v a;cases a
 |key _ d _ c=>intro v a;show(NB.mp a).elim (λe=>.inl ⟨_,e▸d⟩) (c v)
 |tup _ d _ c=>intro v a;show(NB.mp a).elim (λe=>.inr ⟨_,_,e,d⟩) (c v)
theorem qA{Q:Bool->QP->Prop}(hk:IsDeep knd m s.heap xs a)(h:Q QJ s):QR (QS prog w) A (eqIsQuiet 8 (.ref a)) Q E s:=by
 rcases hk with⟨o,l,n,g,c,d,r⟩;show oy g c d (λv f R q=>?_) h;rcases r.items v f with⟨k,e⟩|⟨z,b,rfl,x,i,y,p,j,t,u⟩
 ·rw[eqIsQuiet_byValue _ (knd.byValue _ _ e)];show QQ q
 ·show oy p j t (λv f R q=>?_) q;rw[eqIsQuiet_byValue _ (u.byValue v f)];show QQ q
end
def bH{prog:QT}{w:QW}{K:Type}[DecidableEq K](m:Nat)(knd:KeyKind prog w K):HeapKind prog w (List (K ⊕ List K)) where
 is:=IsDeep knd m
 hash:=kg knd
 draws:=λxs=>(xs.map cq).sum+1
 room:=λA=>A.units+8<cLine
 inj:=λp q=>p.one q
 keeps:=λx g e q=>x.stay g e q
 pyHash:=λB hk h=>gJ B hk h
 eqBool:=λB O R h=>gM B O R h
 quiet:=λhk h=>qA hk h
end PySem
open PySem PySem.Spec
namespace L2
open PyProof.Rows
abbrev aN:=Sum Int Str
noncomputable def lW:aN->QK->Bool
 |.inl k,v=>Value.isInt k v
 |.inr x,v=>Value.isStrOf x v
noncomputable def Kw(w:QW):aN->Int
 |.inl k=>hashInt k
 |.inr x=>hashStr w x
theorem bb:∀{k:aN} {v:QK},lW k v=QJ->(∃i t,k=Sum.inl i/\v=Value.int i t)\/(∃x t,k=Sum.inr x/\v=Value.str x t)
 |.inl i,v,h=>by
  obtain⟨t,e⟩:=Value.isInt_shape (k:=i) (v:=v) h;show .inl ⟨i,t,rfl,e⟩
 |.inr x,v,h=>by
  obtain⟨t,e⟩:=Value.isStrOf_shape (x:=x) (v:=v) h;show .inr ⟨x,t,rfl,e⟩
theorem vj(i:Int)(t:Tok):lW (.inl i) (.int i t)=QJ:=by simp[lW,Value.isInt]
theorem vm(x:Str)(t:Tok):lW (.inr x) (.str x t)=QJ:=by simp[lW,Value.isStrOf]
theorem DE(a b:Int):decide ((Sum.inl a:aN)=Sum.inl b)=(a==b):=by
 by_cases e:a=b
 ·subst e;simp
 ·let h:¬(Sum.inl a:aN)=Sum.inl b:=λq=>e (Sum.inl.inj q);rw[decide_eq_false h];show(beq_eq_false_iff_ne.mpr e).symm
theorem DF(a b:Str):decide ((Sum.inr a:aN)=Sum.inr b)=decide (a=b):=by
 by_cases e:a=b
 ·subst e;simp
 ·let h:¬(Sum.inr a:aN)=Sum.inr b:=λq=>e (Sum.inr.inj q);rw[decide_eq_false h,decide_eq_false e]
theorem DG(a:Int)(b:Str):decide ((Sum.inl a:aN)=Sum.inr b)=QL:=decide_eq_false (λq=>nomatch q)
theorem DH(a:Str)(b:Int):decide ((Sum.inr a:aN)=Sum.inl b)=QL:=decide_eq_false (λq=>nomatch q)
def aH(prog:QT)(w:QW):PySem.KeyKind prog w aN where
 is:=lW
 hash:=Kw w
 inj:=λv a b O B=>by
  rcases bb O with⟨i,t,rfl,rfl⟩|⟨x,t,rfl,rfl⟩
  ·rcases bb B with⟨j,u,rfl,e⟩|⟨y,u,rfl,e⟩
   ·injection e with e1 _;rw[e1]
   ·show nomatch e
  ·rcases bb B with⟨j,u,rfl,e⟩|⟨y,u,rfl,e⟩
   ·show nomatch e
   ·injection e with e1 _;rw[e1]
 byValue:=λk v h=>by
  rcases bb h with⟨i,t,rfl,rfl⟩|⟨x,t,rfl,rfl⟩<;>rfl
 pyHash:=λq h=>by
  rcases bb q with⟨i,t,rfl,rfl⟩|⟨x,t,rfl,rfl⟩
  ·show wpAny_pyHash_int h
  ·show wpAny_pyHash_str h
 eqBool:=λR q h=>by
  rcases bb R with⟨i,t,rfl,rfl⟩|⟨x,t,rfl,rfl⟩
  ·rcases bb q with⟨j,u,rfl,rfl⟩|⟨y,u,rfl,rfl⟩
   ·rw[DE] at h;show wpAny_eqBool_int h
   ·rw[DG] at h;show SeqAt.EqAt.int_str i t y u _ _ _ _ h
  ·rcases bb q with⟨j,u,rfl,rfl⟩|⟨y,u,rfl,rfl⟩
   ·rw[DH] at h;show SeqAt.EqAt.str_int x t j u _ _ _ _ h
   ·rw[DF] at h;show wpAny_eqBool_str h
 «strs»:=λk x t v h=>by
  rcases bb h with⟨i,u,rfl,e⟩|⟨y,u,rfl,e⟩
  ·show nomatch e
  ·injection e with e1 _;subst e1
   cases v<;>rfl
theorem oz(prog:QT)(w:QW)(i:Int)(t:Tok):(aH prog w).is (.inl i) (.int i t)=QJ:=vj i t
theorem oA(prog:QT)(w:QW)(x:Str)(t:Tok):(aH prog w).is (.inr x) (.str x t)=QJ:=vm x t
inductive V where
 |non|bl (b:Bool)|int (i:Int)|str (x:Str)|byt (b:Array UInt8)|flt (b:UInt64)|ref (a:QO)|ty (n:String)
 deriving DecidableEq
def RelV:V->QK->Prop
 |.non,u=>u=Value.none
 |.bl b,u=>u=Value.bool b
 |.int i,u=>∃t,u=Value.int i t
 |.str x,u=>∃t,u=Value.str x t
 |.byt b,u=>∃t,u=Value.bytes b t
 |.flt b,u=>∃t,u=Value.float b t
 |.ref a,u=>u=Value.ref a
 |.ty n,u=>u=Value.type n
abbrev Vals:List V->List QK->Prop:=Paired RelV
theorem Vals.length{xs:List V}{us:List QK}(r:Vals xs us):xs.length=us.length:=Paired.length r
theorem Vals.get:∀{xs:List V} {us:List QK} {i:Nat} {x:V},Vals xs us->xs[i]?=QH x->∃u,us[i]?=QH u/\RelV x u
 |_,_,_,_,.nil,e=>by simp at e
 |_,_,0,_,.cons r _,e=>by simp at e;subst e;show⟨_,rfl,r⟩
 |_,_,i+1,x,.cons _ t,e=>by
  obtain⟨u,b,a⟩:=Vals.get (i:=i) (x:=x) t (by simpa using e);show⟨u,by simpa using b,a⟩
theorem Vals.set(r:RelV x u):∀{xs:List V} {us:List QK} (i:Nat),Vals xs us->Vals (xs.set i x) (us.set i u)
 |_,_,_,.nil=>.nil
 |_,_,0,.cons _ t=>.cons r t
 |_,_,i+1,.cons q t=>.cons q (Vals.set r i t)
theorem Vals.append:∀{xs ys:List V} {us ws:List QK},Vals xs us->Vals ys ws->Vals (xs++ys) (us++ws)
 |_,_,_,_,.nil,s=>s
 |_,_,_,_,.cons r t,s=>.cons r (Vals.append t s)
theorem Vals.take:∀{xs:List V} {us:List QK} (n:Nat),Vals xs us->Vals (xs.take n) (us.take n)
 |_,_,0,_=>.nil
 |_,_,_+1,.nil=>.nil
 |_,_,n+1,.cons r t=>.cons r (Vals.take n t)
theorem Vals.drop:∀{xs:List V} {us:List QK} (n:Nat),Vals xs us->Vals (xs.drop n) (us.drop n)
 |_,_,0,r=>r
 |_,_,_+1,.nil=>.nil
 |_,_,n+1,.cons _ t=>Vals.drop n t
theorem Vals.none_of:∀{xs:List V} {us:List QK} {i:Nat},Vals xs us->xs[i]?=QI->us[i]?=QI:=λ{xs us i} r e=>by
 let b:=r.length;let a:xs.length<=i:=OM.mp e;show OM.mpr (by lia)
def RelO:Option V->Option QK->Prop
 |some v,QH u=>RelV v u
 |none,QI=>True
 |_,_=>False
def KV{κ:Type}:List (κ×V)->List (κ×QK)->Prop:=Paired λ(p:κ×V) (q:κ×QK)=>p.1=q.1/\RelV p.2 q.2
noncomputable def kV:aN->V
 |.inl i=>.int i
 |.inr x=>.str x
inductive HO where
 |lst (xs:List V)
 |tup (xs:List V)
 |dK (kvs:List (aN×V))|dT (m ep:Nat) (kvs:List (List (aN ⊕ List aN)×V))
 |ins (C dx:QO) (fs:List (Str×V))
 |own (x:QO)
 |frz (o:Obj) (u:HO)
 |tbl (ps:Array QK)
 |ext (B:QY->Prop)
abbrev Hp:=QO->Option HO
noncomputable def upd(H:Hp)(a:QO)(o:HO):Hp:=λb=>if b=a then QH o else H b
theorem ak:upd H a o a=QH o:=by unfold upd;rw[if_pos rfl]
theorem ae{H:Hp}(h:b≠a):upd H a o b=H b:=by unfold upd;rw[if_neg h]
theorem Cj{H:Hp}{a b:QO}{o u:HO}(h:H a=QH o)(h':H b=QH u)(d:o≠u):a≠b:=by
 intro e;subst e;rw[h] at h';show d (Option.some.inj h')
theorem aA{H:Hp}{a b:QO}{o:HO}(h:H a=QH o)(h':H b=QI):a≠b:=by
 intro e;subst e;rw[h] at h';cases h'
def TkIts(H:Hp):Nat->List (aN ⊕ List aN)->List V->Prop
 |_,[],vs=>vs=[]
 |m,.inl k::xs,vs=>∃r,vs=kV k::r/\m%2=0/\TkIts H (m / 2) xs r
 |m,.inr ks::xs,vs=>∃b r,vs=.ref b::r/\m%2=1/\H b=QH (.tup (ks.map kV))/\TkIts H (m / 2) xs r
def TkAt(H:Hp)(m:Nat)(ks:List (aN ⊕ List aN))(b:QO):Prop:=∃vs,H b=QH (.tup vs)/\TkIts H m ks vs
theorem TkIts.keep{H H':Hp}(a:∀b xs,H b=QH (.tup xs)->H' b=QH (.tup xs)):∀{m:Nat} {ks:List (aN ⊕ List aN)} {vs:List V},TkIts H m ks vs->TkIts H' m ks vs
 |_,[],_,h=>h
 |m,.inl k::xs,vs,h=>by obtain⟨r,e,z,t⟩:=h;show⟨r,e,z,t.keep a⟩
 |m,.inr ks::xs,vs,h=>by obtain⟨b,r,e,z,g,t⟩:=h;show⟨b,r,e,z,a _ _ g,t.keep a⟩
theorem TkAt.keep{H H':Hp}{b:QO}(x:TkAt H m ks b)(a:∀b xs,H b=QH (.tup xs)->H' b=QH (.tup xs)):TkAt H' m ks b:=by
 obtain⟨c,g,r⟩:=x;show⟨c,a _ _ g,r.keep a⟩
section
variable (P:QT) (w:QW)
def ObjOk(H:Hp)(h:QY)(a:QO):HO->Prop
 |.lst xs=>xs.length<=sizeLine/\∃(O:List QK) (n:Nat),Vals xs O/\h.get? a=QH { cls:=.type "list",data:=.seq O.toArray n }
 |.tup xs=>xs.length<=sizeLine/\∃O:List QK,Vals xs O/\IsTup h a O.toArray
 |.dK kvs=>kvs.length<=sizeLine/\(a==sysModules)=QL/\∃vs,KV kvs vs/\h.DictOf (aH P w) a vs
 |.dT m ep kvs=>kvs.length<=sizeLine/\(a==sysModules)=QL/\∃xs:List (List (aN ⊕ List aN)×QO×QK),
   Paired (λ(p:List (aN ⊕ List aN)×V) (q:List (aN ⊕ List aN)×QO×QK)=>p.1=q.1/\TkAt H m p.1 q.2.1/\RelV p.2 q.2.2) kvs xs/\
   ∃o es,h.get? a=QH o/\o.ExactDict/\o.data=.dict es ep/\es.toList=xs.map (entryOfKey (bH m (aH P w)))/\(xs.map (·.1)).Nodup
 |.ins C dx fs=>H dx=QH (.own a)/\fs.length<=1000/\dx≠a/\h.get? a=QH (OB C dx)/\
   ∃mA,h.Ns1 dx mA/\(∀f,RelO (fs.lookup f) (mA f))/\PySem.Within mA (fs.map (·.1))
 |.own _=>∃o,h.get? a=QH o
 |.frz o u=>h.get? a=QH o/\ObjOk H h a u
 |.tbl ps=>h.get? a=QH { cls:=.none,data:=.fields ps }
 |.ext B=>B h/\(∃o,h.get? a=QH o)/\∀h1 h2:QY,B h1->(∀o,h1.get? a=QH o->h2.get? a=QH o)->B h2
def HOk(H:Hp)(h:QY):Prop:=∀a o,H a=QH o->ObjOk P w H h a o
end
section
variable {P:QT} {w:QW} {H H':Hp} {h h':QY} {a:QO} {o:HO}
theorem ObjOk.lt(x:ObjOk P w H h a o):a<h.objs.size:=by
 cases o with
 |lst c=>obtain⟨_,_,_,_,e⟩:=x;show NA e
 |tup c=>obtain⟨_,_,_,p⟩:=x;show p.lt
 |dK b=>obtain⟨_,_,_,_,o,_,_,e,_⟩:=x;show NA e
 |dT m j b=>obtain⟨_,_,_,_,o,_,e,_⟩:=x;show NA e
 |ins C f i=>obtain⟨_,_,_,e,_⟩:=x;show NA e
 |own y=>obtain⟨_,e⟩:=x;show NA e
 |frz d u=>obtain⟨e,_⟩:=x;show NA e
 |tbl g=>show NA (show h.get? a=QH _ from x)
 |ext B=>obtain⟨_,⟨_,e⟩,_⟩:=x;show NA e
theorem Paired.mapP{α β:Type}{F G:α->β->Prop}:∀{l₁:List α} {c:List β},Paired F l₁ c->(∀a b,F a b->G a b)->Paired G l₁ c
 |_,_,.nil,_=>.nil
 |_,_,.cons r t,f=>.cons (f _ _ r) (Paired.mapP t f)
theorem ObjOk.stay(x:ObjOk P w H h a o)(k:∀b u,(b=a\/H b=QH (.own a))->h.get? b=QH u->h'.get? b=QH u)
  (ho:∀b,H b=QH (.own a)->H' b=QH (.own a)) (ht:∀b i,H b=QH (.tup i)->H' b=QH (.tup i)):ObjOk P w H' h' a o:=by
 induction o with
 |lst i=>obtain⟨z,g,n,r,e⟩:=x;show⟨z,g,n,r,k _ _ (.inl rfl) e⟩
 |tup i=>obtain⟨z,g,r,f,e,c⟩:=x;show⟨z,g,r,f,k _ _ (.inl rfl) e,c⟩
 |dK s=>obtain⟨z,y,I,r,f,j,l,e,c⟩:=x;show⟨z,y,I,r,f,j,l,k _ _ (.inl rfl) e,c⟩
 |dT m l s=>
  obtain⟨z,y,i,r,f,j,e,c⟩:=x;show⟨z,y,i,Paired.mapP r λp q z=>⟨z.1,z.2.1.keep ht,z.2.2⟩,f,j,k _ _ (.inl rfl) e,c⟩
 |ins C K L=>
  obtain⟨d,z,A,e,E,⟨D,j,l,e2,c⟩,r⟩:=x;show⟨ho _ d,z,A,k _ _ (.inl rfl) e,E,⟨D,j,l,k _ _ (.inr d) e2,c⟩,r⟩
 |own y=>obtain⟨f,e⟩:=x;show⟨f,k _ _ (.inl rfl) e⟩
 |frz f u F=>obtain⟨e,q⟩:=x;show⟨k _ _ (.inl rfl) e,F q⟩
 |tbl v=>
  let e:h.get? a=QH { cls:=.none,data:=.fields v }:=x;change h'.get? a=QH { cls:=.none,data:=.fields v };show k a _ (.inl rfl) e
 |ext B=>obtain⟨p,⟨o,e⟩,t⟩:=x;show⟨t _ _ p λo q=>k _ _ (.inl rfl) q,⟨o,k _ _ (.inl rfl) e⟩,t⟩
theorem HOk.lt(x:HOk P w H h)(e:H a=QH o):a<h.objs.size:=(x a o e).lt
theorem HOk.fresh(x:HOk P w H h)(e:h.objs.size<=a):H a=QI:=by
 cases q:H a with
 |none=>rfl
 |some u=>show absurd (ND (x.lt q) e) (Ot _)
theorem HOk.kept(x:HOk P w H h)(k:∀b u,h.get? b=QH u->h'.get? b=QH u):HOk P w H h':=λa o e=>
 (x a o e).stay (λb u _ q=>k b u q) (λ_ q=>q) λ_ _ q=>q
theorem HOk.laid(x:HOk P w H h)(k:∀b u,h.get? b=QH u->h'.get? b=QH u)(i:h.objs.size<=a)(d:ObjOk P w (upd H a o) h' a o):HOk P w (upd H a o) h':=λb u e=>by
 let g:=x.fresh i;by_cases f:b=a
 ·subst f;rw[ak] at e;cases e;show d
 ·rw[ae f] at e;show(x b u e).stay (λc v _ q=>k c v q) (λc q=>by rw[ae (aA q g)];show q) λc j q=>by rw[ae (aA q g)];show q
end
def Rd(H:Hp)(a:QO)(u:HO):Prop:=H a=QH u\/∃o,H a=QH (.frz o u)
theorem Rd.ok(r:Rd H a u)(x:HOk P w H h):ObjOk P w H h a u:=by
 rcases r with r|⟨o,r⟩
 ·show x a u r
 ·obtain⟨_,q⟩:=x a _ r;show q
def G0:Option HO->Prop
 |some (.lst _)=>True
 |some (.dK _)=>True
 |some (.dT _ _ _)=>True
 |some (.ins _ _ _)=>True
 |some (.ext _)=>True
 |_=>False
section
variable {P:QT} {w:QW} {H:Hp} {h h':QY} {x e:QO} {o':HO}
theorem HOk.write(p:HOk P w H h)(i:G0 (H x))(n:e=x\/H e=QH (.own x))(k:∀b u,b≠e->h.get? b=QH u->h'.get? b=QH u)(m:∃u,h'.get? e=QH u)
  (new:ObjOk P w (upd H x o') h' x o'):HOk P w (upd H x o') h':=λb u q=>by
 let d:∀c y,H c=QH (.own y)->c≠x:=λc y r z=>by subst z;rw[r] at i;show i
 let f:∀c l,H c=QH (.tup l)->c≠x:=λc l r z=>by subst z;rw[r] at i;show i
 by_cases g:b=x
 ·subst g;rw[ak] at q;cases q;show new
 ·rw[ae g] at q;by_cases a:b=e
  ·let o:H b=QH (.own x):=by
    rcases n with z|z
    ·show absurd (a.trans z) g
    ·rw[a];show z
   rw[q] at o;cases o;obtain⟨v,s⟩:=m;show⟨v,by rw[a];show s⟩
  ·show(p b u q).stay (λc v j r=>k c v ?_ r) (λc r=>by rw[ae (d c b r)];show r) λc l r=>by rw[ae (f c l r)];show r
   rcases j with rfl|j
   ·show a
   ·rintro rfl
    rcases n with z|z
    ·show d c b j z
    ·rw[j] at z;cases z;show g rfl
end
structure Un(fs ex:List Addr)(H H':Hp)(h h':Heap):Prop where
 keep:∀b o,h.get? b=QH o->H b=QI->b∉fs->b∉ex->h'.get? b=QH o
 slot:∀b o,h.get? b=QH o->H b=QI->b∈fs->b∉ex->∃sl,h'.get? b=QH { o with slots:=sl }
 free:∀b o,h.get? b=QH o->H b=QI->b∉ex->H' b=QI
 there:∀b o,h.get? b=QH o->b∉ex->∃o',h'.get? b=QH o'
 tups:∀b xs,H b=QH (.tup xs)->H' b=QH (.tup xs)
 frzs:∀b o u,H b=QH (.frz o u)->H' b=QH (.frz o u)
 tbls:∀b ps,H b=QH (.tbl ps)->∃more,H' b=QH (.tbl (ps++more))
section
variable {fs fs' ex ex':List QO} {H H1 H2:Hp} {h h1 h2 h':QY} {a x e:QO} {o:HO}
theorem Un.any(u:Un fs ex H H1 h h1)(q:h.get? b=QH ob)(n:H b=QI)(c:b∉ex):∃d,h1.get? b=QH { ob with slots:=d }:=by
 by_cases a:b∈fs
 ·show u.slot b ob q n a c
 ·show⟨ob.slots,u.keep b ob q n a c⟩
theorem Un.kept(k:∀b u,h.get? b=QH u->h'.get? b=QH u):Un fs ex H H h h':=
 ⟨λb a q _ _ _=>k b a q,λb a q _ _ _=>⟨a.slots,k b a q⟩,λ_ _ _ n _=>n,λb a q _=>⟨a,k b a q⟩,λ_ _ q=>q,λ_ _ _ q=>q,λ_ c q=>⟨#[],by rw[q];simp⟩⟩
theorem Un.refl:Un fs ex H H h h:=Un.kept λ_ _ q=>q
theorem Un.laid(k:∀b u,h.get? b=QH u->h'.get? b=QH u)(d:h.objs.size<=a)(c:H a=QI):Un fs ex H (upd H a o) h h' where
 keep:=λb u q _ _ _=>k b u q
 slot:=λb u q _ _ _=>⟨u.slots,k b u q⟩
 free:=λb u q n _=>by rw[ae (NL (ND (NA q) d))];show n
 there:=λb u q _=>⟨u,k b u q⟩
 tups:=λb e q=>by rw[ae (aA q c)];show q
 frzs:=λb u e q=>by rw[ae (aA q c)];show q
 tbls:=λb f q=>⟨#[],by rw[ae (aA q c),q];simp⟩
theorem Un.write(c:G0 (H x))(j:e=x\/H e=QH (.own x))(k:∀b u,b≠e->h.get? b=QH u->h'.get? b=QH u)(f:∃u,h'.get? e=QH u):Un fs ex H (upd H x o) h h':=by
 let i:∀b,H b=QI->b≠x:=λb n z=>by subst z;rw[n] at c;show c
 let g:∀b,H b=QI->b≠e:=λb n z=>by
  subst z;rcases j with r|r
  ·show i b n r
  ·rw[n] at r;cases r
 let d:∀b u,H b=QH u->¬G0 (QH u)->b≠x:=λb u q l z=>by subst z;rw[q] at c;show l c
 show⟨λb u q n _ _=>k b u (g b n) q,λb u q n _ _=>⟨u.slots,k b u (g b n) q⟩,λb u q n _=>by rw[ae (i b n)];show n,λb u q _=>?_,
  λb m q=>by rw[ae (d b _ q λz=>z)];show q,λb u m q=>by rw[ae (d b _ q λz=>z)];show q,λb p q=>⟨#[],by rw[ae (d b _ q λz=>z),q];simp⟩⟩
 by_cases a:b=e
 ·subst a;show f
 ·show⟨u,k b u a q⟩
end
noncomputable def JU(h:QY)(H:Hp):List QO:=(NP h.objs.size).filter λa=>(H a).isSome
def mX(h:QY)(H:Hp):QY:=PySem.W.hideAll h (JU h H)
theorem vn(h:QY)(H:Hp):(mX h H).objs.size=h.objs.size:=PySem.W.hideAll_size _ _
theorem wM{h:QY}{H:Hp}(e:h.get? b=QH o)(n:H b=QI):(mX h H).get? b=QH o:=
 PySem.W.hideAll_get _ e λa=>by
  let q:(H b).isSome=QJ:=(Po.mp a).2;rw[n] at q;simp at q
theorem Ag{h:QY}{H:Hp}(e:(mX h H).get? b=QH o):h.get? b=QH o/\H b=QI:=by
 let a:h.get? b=QH o:=PySem.W.of_hideAll (JU h H) e;show⟨a,?_⟩
 cases q:H b with
 |none=>rfl
 |some x=>
  let c:b∈JU h H:=Po.mpr ⟨Od.mpr (NA a),by simp[q]⟩;let z:(mX h H).get? b=QI:=PySem.W.hideAll_none (JU h H) c;rw[z] at e;cases e
def Ah(g h:QY)(L:QO):List (QO×Obj):=(NP h.objs.size).filterMap λa=>if a=L\/(g.get? a).isSome=QJ then QI else(h.get? a).map λo=>(a,o)
def rest(g h:QY)(L d:QO):List (QO×Obj):=(Ah g h L).filter λp=>decide (p.1≠d)
structure Mod(K:Np)(mg:Str->Option Value)(base:Heap):Prop where
 kin:K.In base
 glob:base.Ns QZ mg
 blt:∃mb,base.Ns builtinsNs mb/\∀x:Str,x≠"__name__"->mb x=bootBuiltins x
 nolimit:base.NoLimit
structure Cx where
 prog:QT
 w:QW
 K:Np
 mg:Str->Option QK
 base:QY
 A:QX
 N:List Str
 s₀:QP
 H₀:Hp
 env:Env
 outer:List Env
 stack:List Env
 ex:List QO
 fn:Str->Bool
 calm:Bool
 pn:List (QO×Obj)
 xe:QK->QP->Prop
noncomputable def wC(l:List Env):List QO:=l.filterMap (·.frame)
abbrev Cx.fs(X:Cx):List QO:=wC X.outer
def G3(q:Q0)(x:Str):Prop:=q.names.lookup x=QH .local\/q.names.lookup x=QH .cell\/q.names.lookup x=QH .free
def Ck(q:Q0)(x:Str):Prop:=q.names.lookup x=QH .local\/q.names.lookup x=QH .cell
def Kx(env:Env)(h:QY)(m:Str->Option QK)(x:Str)(u:QK):Prop:=
 (env.kindOf x=QH .local/\m x=QH u)\/((env.kindOf x=QH .cell\/env.kindOf x=QH .free)/\∃c,env.cells.lookup x=QH c/\h.IsCell c (QH u))
structure Cx.Ok(X:Cx):Prop where
 mod:Mod X.K X.mg X.base
 kind:X.env.scope.kind=.function
 glob:X.env.globals=QZ
 blt:X.env.builtins=builtinsNs
 above:X.s₀.heap.objs.size<=X.env.locals
 inj:∀x y c,X.env.cells.lookup x=QH c->X.env.cells.lookup y=QH c->x=y
 has:∀x,(X.env.kindOf x=QH .cell\/X.env.kindOf x=QH .free)->∃c,X.env.cells.lookup x=QH c
 cab:∀x c,X.fn x=QJ->X.env.cells.lookup x=QH c->X.s₀.heap.objs.size<=c
 hd:X.calm=QJ->X.A.handled=QI
 frames:X.A.frames=QH X.stack
 stk:X.stack=X.outer\/(X.stack=X.env::X.outer/\X.env.frame=QH X.env.locals)
 exf:∀b∈X.ex,b≠X.env.locals/\∀x c,X.env.cells.lookup x=QH c->c≠b
 bs:∀b o,X.base.get? b=QH o->X.s₀.heap.get? b=QH o/\X.H₀ b=QI
 bsz:X.base.objs.size<=X.s₀.heap.objs.size
 noex:∀b o,X.base.get? b=QH o->b∉X.ex
 exfs:∀b∈X.ex,b∉X.fs
 funs:X.s₀.heap.FunFrames X.base X.outer
 frf:∀b∈X.fs,X.H₀ b=QI
structure Inv(X:Cx)(pins:List (Addr×Obj))(Y:List (Option V))(H:Hp)(s:Shared):Prop where
 ok:X.Ok
 os:s.os=X.s₀.os
 bare:AllBare s.gens
 base:Un X.fs X.ex X.H₀ H X.s₀.heap s.heap
 loc:∃m,s.heap.Ns X.env.locals m/\∀(i:Nat) (x:Str) (v:V),X.N[i]?=QH x->Y[i]?=QH (QH v)->G3 X.env.scope x->∃u,RelV v u/\Kx X.env s.heap m x u
 cell:∀x c,X.env.cells.lookup x=QH c->∃v,s.heap.IsCell c v
 free:H X.env.locals=QI
 freeC:∀x c,X.env.cells.lookup x=QH c->H c=QI
 pin:∀p∈X.pn++pins,s.heap.get? p.1=QH p.2/\H p.1=QI/\p.1≠X.env.locals/\p.1∉X.fs/\∀v,p.2.data≠.cell v
 hok:HOk X.prog X.w H s.heap
 len:Y.length=X.N.length
section
variable {X:Cx} {pins:List (QO×Obj)} {Y:List (Option V)} {H H':Hp} {s:QP} {h':QY}
theorem Cx.Ok.nofr(c:X.Ok)(e:X.base.get? b=QH o):b∉X.fs:=λa=>by
 have:=(c.funs.mem a).1;rw[e] at this;cases this
theorem Inv.bs(I:Inv X pins Y H s):∀b o,X.base.get? b=QH o->s.heap.get? b=QH o/\H b=QI:=λb o e=>
 ⟨I.base.keep b o (I.ok.bs b o e).1 (I.ok.bs b o e).2 (I.ok.nofr e) (I.ok.noex b o e),I.base.free b o (I.ok.bs b o e).1 (I.ok.bs b o e).2 (I.ok.noex b o e)⟩
theorem Inv.bk(I:Inv X pins Y H s):∀b o,X.base.get? b=QH o->s.heap.get? b=QH o:=λb o e=>(I.bs b o e).1
theorem Inv.mod(I:Inv X pins Y H s):Mod X.K X.mg X.base:=I.ok.mod
theorem Inv.kIn(I:Inv X pins Y H s):X.K.In s.heap:=I.ok.mod.kin.keeps I.bk
theorem Inv.lt(I:Inv X pins Y H s):X.env.locals<s.heap.objs.size:=let ⟨_,hn,_⟩:=I.loc;hn.lt
theorem Inv.sz(I:Inv X pins Y H s):X.s₀.heap.objs.size<=s.heap.objs.size:=NT I.ok.above (O7 I.lt)
theorem Inv.nofs(I:Inv X pins Y H s)(h:s.heap.objs.size<=a):a∉X.fs:=λb=>by
 obtain⟨_,o,c,_⟩:=I.ok.funs.mem b;show absurd (ND (NA c) (NT I.sz h)) (Ot _)
theorem Inv.cne(I:Inv X pins Y H s):∀x c,X.env.cells.lookup x=QH c->c≠X.env.locals:=λx c e z=>by
 obtain⟨v,o,f,d⟩:=I.cell x c e;obtain⟨m,⟨h,g,i,b,a,_⟩,_⟩:=I.loc;rw[z,b] at f;cases f;rw[a] at d;cases d
theorem Inv.funs(I:Inv X pins Y H s):s.heap.FunFrames X.base X.outer:=by
 let c:∀(l:List Env),(∀b∈wC l,b∈X.fs)->X.s₀.heap.FunFrames X.base l->s.heap.FunFrames X.base l:=by
  intro l
  induction l with
  |nil=>intro _ _;trivial
  |cons h r m=>
   intro g n;obtain⟨hk,⟨L,o,a,j,k,i⟩,p⟩:=n;let d:L∈X.fs:=g L (by unfold wC;rw[N2,a];show NJ);obtain⟨q,e⟩:=I.base.slot L o k (I.ok.frf L d) d λz=>I.ok.exfs L z d;show⟨hk,⟨L,_,a,j,e,i⟩,m (λb f=>g b (by unfold wC;rw[N2,a];show NE _ f)) p⟩
 show c X.outer (λ_ f=>f) I.ok.funs
theorem Inv.stack(I:Inv X pins Y H s):s.heap.FunFrames X.base X.stack:=by
 rcases I.ok.stk with e|⟨e,b⟩
 ·rw[e];show I.funs
 ·rw[e];obtain⟨m,a,_⟩:=I.loc;show .cons (by rw[I.ok.kind];decide) b a ?_ I.funs;show Heap.get?_none_of_le (NT I.ok.bsz I.ok.above)
theorem Inv.stkSub(I:Inv X pins Y H s):∀b∈wC X.stack,b∈X.env.locals::X.fs:=λb a=>by
 rcases I.ok.stk with e|⟨e,c⟩
 ·rw[e] at a;show NE _ a
 ·rw[e] at a;unfold wC at a;rw[N2,c] at a;show a
theorem Inv.stkFree(I:Inv X pins Y H s):∀b∈wC X.stack,H b=QI:=λb a=>by
 rcases NB.mp (I.stkSub b a) with e|a
 ·rw[e];show I.free
 ·obtain⟨_,o,c,_⟩:=I.ok.funs.mem a;show I.base.free b o c (I.ok.frf b a) λz=>I.ok.exfs b z a
theorem Inv.step{t':Nat}{ch:List QO}(I:Inv X pins Y H s)(h:∀b∈ch,(b∈X.ex\/X.s₀.heap.objs.size<=b)/\b≠X.env.locals/\(∀x c,X.env.cells.lookup x=QH c->c≠b)/\∀p∈X.pn++pins,p.1≠b)(g:∀b o,b≠X.env.locals->b∉X.fs->b∉ch->s.heap.get? b=QH o->H b=QI->h'.get? b=QH o)(A:∀b o,b≠X.env.locals->b∈X.fs->b∉ch->s.heap.get? b=QH o->H b=QI->∃Q,h'.get? b=QH { o with slots:=Q })(f:∀b o,b∉ch->s.heap.get? b=QH o->H b=QI->H' b=QI)(B:∀b o,b∉ch->s.heap.get? b=QH o->∃o',h'.get? b=QH o')(F:∀b xs,H b=QH (.tup xs)->H' b=QH (.tup xs))(M:∀b o u,H b=QH (.frz o u)->H' b=QH (.frz o u))(L:∀b ps,H b=QH (.tbl ps)->∃K,H' b=QH (.tbl (ps++K)))(ns:∀m,s.heap.Ns X.env.locals m->h'.Ns X.env.locals m)(P:HOk X.prog X.w H' h')(V:AllBare g') :
  Inv X pins Y H' { s with heap:=h',gens:=g',drawn:=d',toks:=t' }:=by
 let E:∀b o,X.s₀.heap.get? b=QH o->b≠X.env.locals:=λb o e=>NL (ND (NA e) I.ok.above)
 let y:∀b o,X.s₀.heap.get? b=QH o->b∉X.ex->b∉ch:=λb o e a C=>by
  rcases(h b C).1 with z|z
  ·show a z
  ·show absurd (ND (NA e) z) (Ot _)
 let j:∀x c,X.env.cells.lookup x=QH c->∀v,s.heap.IsCell c v->h'.IsCell c v:=λx c e v ⟨o,D,N⟩=>by
  let t:c∉ch:=λz=>(h c z).2.2.1 x c e rfl;by_cases U:c∈X.fs
  ·obtain⟨Q,q⟩:=A c o (I.cne x c e) U t D (I.freeC x c e);show⟨_,q,N⟩
  ·show⟨o,g c o (I.cne x c e) U t D (I.freeC x c e),N⟩
 show⟨I.ok,I.os,V,⟨λb o e n C a=>?_,λb o e n C a=>?_,λb o e n a=>?_,λb o e a=>?_,λb xs e=>F b xs (I.base.tups b xs e),λb o xs e=>M b o xs (I.base.frzs b o xs e),λb ps e=>?_⟩,?_,λx c e=>?_,?_,λx c e=>?_,λp R=>?_,P,I.len⟩
 ·show g b o (E b o e) C (y b o e a) (I.base.keep b o e n C a) (I.base.free b o e n a)
 ·obtain⟨Q,e1⟩:=I.base.slot b o e n C a;obtain⟨O,e2⟩:=A b _ (E b o e) C (y b o e a) e1 (I.base.free b o e n a);show⟨O,e2⟩
 ·obtain⟨o',e1⟩:=I.base.there b o e a;show f b o' (y b o e a) e1 (I.base.free b o e n a)
 ·obtain⟨o',e1⟩:=I.base.there b o e a;show B b o' (y b o e a) e1
 ·obtain⟨Z,e1⟩:=I.base.tbls b ps e;obtain⟨m2,e2⟩:=L b _ e1;show⟨Z++m2,by rw[e2,Array.append_assoc]⟩
 ·obtain⟨m,W,hl⟩:=I.loc;show⟨m,ns m W,λi x v e1 e2 e3=>?_⟩;obtain⟨u,r,l⟩:=hl i x v e1 e2 e3;show⟨u,r,?_⟩;rcases l with l|⟨k,c,e,z⟩
  ·show .inl l
  ·show .inr ⟨k,c,e,j x c e _ z⟩
 ·obtain⟨v,z⟩:=I.cell x c e;show⟨v,j x c e v z⟩
 ·obtain⟨m,⟨o,_,_,D,_⟩,_⟩:=I.loc;show f _ o (λz=>(h _ z).2.1 rfl) D I.free
 ·obtain⟨v,o,D,N⟩:=I.cell x c e;show f c o (λz=>(h c z).2.2.1 x c e rfl) D (I.freeC x c e)
 ·obtain⟨e,n,S,T,d⟩:=I.pin p R;let t:p.1∉ch:=λz=>(h p.1 z).2.2.2 p R rfl;show⟨g p.1 p.2 S T t e n,f p.1 p.2 t e n,S,T,d⟩
theorem Inv.un{t':Nat}(I:Inv X pins Y H s)(u:Un X.fs [] H H' s.heap h')(f:HOk X.prog X.w H' h'):Inv X pins Y H' { s with heap:=h',toks:=t' }:=by
 obtain⟨m,⟨o,l,t,h,r⟩,_⟩:=id I.loc;obtain⟨q,j⟩:=u.any h I.free (by simp)
 show I.step (g':=s.gens) (d':=s.drawn) (ch:=[]) (λ_ z=>nomatch z) (λb o _ g _ e n=>u.keep b o e n g (by simp)) (λb o _ g _ e n=>u.slot b o e n g (by simp)) (λb o _ e n=>u.free b o e n (by simp)) (λb o _ e=>u.there b o e (by simp)) u.tups u.frzs u.tbls (λv i=>by
  obtain⟨p,d,c,a,k⟩:=i;rw[h] at a;cases a;show⟨_,d,c,j,k⟩) f I.bare
theorem Inv.call{t':Nat}{ch:List QO}(I:Inv X pins Y H s)(u:Un (wC X.stack) ch H H' s.heap h')(j:HOk X.prog X.w H' h')(q:AllBare g')(f:∀b∈ch,(b∈X.ex\/X.s₀.heap.objs.size<=b)/\b≠X.env.locals/\(∀x c,X.env.cells.lookup x=QH c->c≠b)/\∀p∈X.pn++pins,p.1≠b) :
  Inv X pins Y H' { s with heap:=h',gens:=g',drawn:=d',toks:=t' }:=by
 obtain⟨m,⟨o,y,D,k,r⟩,_⟩:=id I.loc;obtain⟨C,h⟩:=u.any k I.free λz=>(f _ z).2.1 rfl
 show I.step (ch:=ch) f (λb o h l a e n=>u.keep b o e n (λz=>(NB.mp (I.stkSub b z)).elim h l) a) (λb o _ _ a e n=>u.any e n a) (λb o a e n=>u.free b o e n a) (λb o a e=>u.there b o e a) u.tups u.frzs u.tbls (λA t=>by
  obtain⟨B,i,g,d,v⟩:=t;rw[k] at d;cases d;show⟨_,i,g,h,v⟩) j q
theorem Inv.turned{t':Nat}{it:QO}(I:Inv X pins Y H s)(k:∀b o,b≠it->s.heap.get? b=QH o->h'.get? b=QH o)(h:H it=QI)(f:it≠X.env.locals)
  (h1:it∈X.ex\/X.s₀.heap.objs.size<=it) (h2:∀x c,X.env.cells.lookup x=QH c->c≠it) (h3:∀p∈X.pn++pins,p.1≠it):Inv X pins Y H { s with heap:=h',toks:=t' }:=by
 let d:∀b u,H b=QH u->b≠it:=λb u e z=>by rw[z,h] at e;cases e
 show I.step (g':=s.gens) (d':=s.drawn) (ch:=[it]) (λb l=>?_) (λb o _ _ a e _=>k b o (λz=>a (by simp[z])) e) (λb o _ _ a e _=>⟨o.slots,k b o (λz=>a (by simp[z])) e⟩) (λ_ _ _ _ n=>n)
  (λb o a e=>⟨o,k b o (λz=>a (by simp[z])) e⟩) (λ_ _ e=>e) (λ_ _ _ e=>e) (λb w e=>⟨#[],by rw[e];simp⟩) (λm i=>?_) (λb u e=>?_) I.bare
 ·let e:b=it:=by simpa using l
  subst e;show⟨h1,f,h2,h3⟩
 ·obtain⟨o,g,t,j,r⟩:=i;show⟨o,g,t,k _ o (Ne.symm f) j,r⟩
 ·show(I.hok b u e).stay (λc v a q=>k c v ?_ q) (λ_ q=>q) λ_ _ q=>q;rcases a with z|z
  ·rw[z];show d b u e
  ·show d c _ z
theorem Inv.tok(I:Inv X pins Y H s)(t:Nat):Inv X pins Y H { s with toks:=t }:=I.un (h':=s.heap) (t':=t) Un.refl I.hok
theorem Inv.kept{t':Nat}(I:Inv X pins Y H s)(k:∀b u,s.heap.get? b=QH u->h'.get? b=QH u):Inv X pins Y H { s with heap:=h',toks:=t' }:=I.un (Un.kept k) (I.hok.kept k)
theorem Inv.laid{t':Nat}(I:Inv X pins Y H s)(k:∀b u,s.heap.get? b=QH u->h'.get? b=QH u)(c:s.heap.objs.size<=a)(d:ObjOk X.prog X.w (upd H a o) h' a o) :
  Inv X pins Y (upd H a o) { s with heap:=h',toks:=t' }:=I.un (Un.laid k c (I.hok.fresh c)) (I.hok.laid k c d)
theorem Inv.write{x e:QO}{t':Nat}(I:Inv X pins Y H s)(f:G0 (H x))(d:e=x\/H e=QH (.own x))(k:∀b u,b≠e->s.heap.get? b=QH u->h'.get? b=QH u)(a:∃u,h'.get? e=QH u)(c:ObjOk X.prog X.w (upd H x o) h' x o):Inv X pins Y (upd H x o) { s with heap:=h',toks:=t' }:=I.un (Un.write f d k a) (I.hok.write f d k a c)
theorem Inv.pins_of{a:List (QO×Obj)}(I:Inv X pins Y H s)(h:∀p∈a,s.heap.get? p.1=QH p.2/\H p.1=QI/\p.1≠X.env.locals/\p.1∉X.fs/\∀v,p.2.data≠.cell v):Inv X a Y H s:=
 ⟨I.ok,I.os,I.bare,I.base,I.loc,I.cell,I.free,I.freeC,λp b=>(NH.mp b).elim (λz=>I.pin p (NG _ z)) (h p),I.hok,I.len⟩
theorem oB{N:List Str}(c:N.Nodup){i j:Nat}(a:N[i]?=QH x)(b:N[j]?=QH x):i=j:=by
 obtain⟨e,e1⟩:=Nq.mp a;obtain⟨d,e2⟩:=Nq.mp b;show(List.getElem_inj c).mp (e1.trans e2.symm)
theorem iI{i:Nat}{Q:Unit->QP->Prop}(I:Inv X pins Y H s)(hN:X.N.Nodup)(hi:X.N[i]?=QH x)(t:Ck X.env.scope x)(r:RelV v u)(h:∀s',Inv X pins (Y.set i (QH v)) H s'->(∃a,Heap.SameBut a s.heap s'.heap/\(a=X.env.locals\/X.env.cells.lookup x=QH a))->Q () s')(hf:X.fn x=QJ\/X.env.scope.names.lookup x=QH .local:=by first|show .inl rfl|show .inr rfl|assumption):QR M A (storeName X.env x u) Q E s:=by
 obtain⟨m,hn,hl⟩:=id I.loc;let S:(X.env.scope.kind==.class||(X.env.scope.kind==.module&&X.env.locals != X.env.globals))=QL:=by rw[I.ok.kind];rfl
 let O:i<Y.length:=by rw[I.len];show(Nq.mp hi).1
 let C:=I.cne
 let g:∀{a:QO} {L:QY},(∃o,s.heap.get? a=QH o/\H a=QI)->Heap.SameBut a s.heap L->HOk X.prog X.w H L:=λ{a L} ha f b ob e=>by
  obtain⟨_,_,B⟩:=ha;show(I.hok b ob e).stay (λc W l q=>(f.2 c ?_).trans q) (λ_ q=>q) λ_ _ q=>q
  rintro rfl
  rcases l with rfl|l
  ·rw[B] at e;cases e
  ·rw[B] at l;cases l
 rcases t with hk|hk
 ·show wpAny_storeName_local hk hn (λL hd f=>?_) S;obtain⟨oL,_,_,he,_⟩:=id hn;show h _ ⟨I.ok,I.os,I.bare,⟨λb o e n F t=>?_,λb o e n F t=>?_,I.base.free,λb o e t=>?_,I.base.tups,I.base.frzs,I.base.tbls⟩,⟨_,hd,λj y v' e1 e2 e3=>?_⟩,λy c e=>?_,I.free,I.freeC,λp hp=>?_,g ⟨oL,he,I.free⟩ f,by simpa using I.len⟩ ⟨_,f,.inl rfl⟩
  ·show(f.2 b (NL (ND (NA e) I.ok.above))).trans (I.base.keep b o e n F t)
  ·obtain⟨sl,e1⟩:=I.base.slot b o e n F t;show⟨sl,(f.2 b (NL (ND (NA e) I.ok.above))).trans e1⟩
  ·obtain⟨o',e1⟩:=I.base.there b o e t;show⟨o',(f.2 b (NL (ND (NA e) I.ok.above))).trans e1⟩
  ·by_cases D:j=i
   ·subst D;rw[hi] at e1;cases e1;rw[NY O] at e2;cases e2;show⟨u,r,.inl ⟨hk,by simp⟩⟩
   ·rw[NW (Ne.symm D)] at e2;obtain⟨u',r',q⟩:=hl j y v' e1 e2 e3;show⟨u',r',?_⟩;rcases q with⟨k,e⟩|⟨k,c,e,z⟩
    ·show .inl ⟨k,?_⟩;have:y≠x:=λe=>D (oB hN e1 (e▸hi));simp[this,e]
    ·show .inr ⟨k,c,e,z.sameBut f (C y c e)⟩
  ·obtain⟨W,z⟩:=I.cell y c e;show⟨W,z.sameBut f (C y c e)⟩
  ·obtain⟨e,n,V,nf,d⟩:=I.pin p hp;show⟨(f.2 p.1 V).trans e,n,V,nf,d⟩
 ·let K:X.fn x=QJ:=by
   rcases hf with z|z
   ·show z
   ·rw[z] at hk;cases hk
  obtain⟨c,l⟩:=I.ok.has x (.inl hk);obtain⟨W,z⟩:=I.cell x c l;show wpAny_storeName_cell I.ok.kind hk l z (λL U f=>?_);obtain⟨oc,R,T⟩:=id z;show h { s with heap:=L } ⟨I.ok,I.os,I.bare,⟨λb o e n F t=>?_,λb o e n F t=>?_,I.base.free,λb o e t=>?_,I.base.tups,I.base.frzs,I.base.tbls⟩,⟨m,hn.sameBut f (Ne.symm (C x c l)),λj y v' e1 e2 e3=>?_⟩,λy Z e=>?_,I.free,I.freeC,λp hp=>?_,g ⟨oc,R,I.freeC x c l⟩ f,by simpa using I.len⟩ ⟨c,f,.inr l⟩
  ·show(f.2 b (NL (ND (NA e) (I.ok.cab x c K l)))).trans (I.base.keep b o e n F t)
  ·obtain⟨sl,e1⟩:=I.base.slot b o e n F t;show⟨sl,(f.2 b (NL (ND (NA e) (I.ok.cab x c K l)))).trans e1⟩
  ·obtain⟨o',e1⟩:=I.base.there b o e t;show⟨o',(f.2 b (NL (ND (NA e) (I.ok.cab x c K l)))).trans e1⟩
  ·by_cases D:j=i
   ·subst D;rw[hi] at e1;cases e1;rw[NY O] at e2;cases e2;show⟨u,r,.inr ⟨.inl hk,c,l,U⟩⟩
   ·rw[NW (Ne.symm D)] at e2;obtain⟨u',r',q⟩:=hl j y v' e1 e2 e3;show⟨u',r',?_⟩;rcases q with q|⟨k,Z,e,z'⟩
    ·show .inl q
    ·show .inr ⟨k,Z,e,z'.sameBut f ?_⟩
     rintro rfl
     show D (oB hN e1 (I.ok.inj _ _ _ e l▸hi))
  ·by_cases P:Z=c
   ·subst P;show⟨_,U⟩
   ·obtain⟨w2,z2⟩:=I.cell y Z e;show⟨w2,z2.sameBut f P⟩
  ·obtain⟨e,n,V,nf,d⟩:=I.pin p hp;show⟨(f.2 p.1 ?_).trans e,n,V,nf,d⟩;intro q;rw[q,R] at e;let q':oc=p.2:=Option.some.inj e;show d W (by rw[<- q'];show T)
theorem kh{i:Nat}{Q:Unit->QP->Prop}(I:Inv X pins Y H s)(c:X.N.Nodup)(hi:X.N[i]?=QH x)(b:Ck X.env.scope x)(r:RelV v u)(h:∀s',Inv X pins (Y.set i (QH v)) H s'->Q () s')(d:X.fn x=QJ\/X.env.scope.names.lookup x=QH .local:=by first|show .inl rfl|show .inr rfl|assumption):QR M A (storeName X.env x u) Q E s:=
 iI I c hi b r (λs' a _=>h s' a) d
theorem Inv.call'{s':QP}{ch:List QO}(I:Inv X pins Y H s)(g:s'.os=s.os)(u:Un (wC X.stack) ch H H' s.heap s'.heap)(a:HOk X.prog X.w H' s'.heap)(f:AllBare s'.gens)
  (hch:∀b∈ch,(b∈X.ex\/X.s₀.heap.objs.size<=b)/\b≠X.env.locals/\(∀x c,X.env.cells.lookup x=QH c->c≠b)/\∀p∈X.pn++pins,p.1≠b):Inv X pins Y H' s':=by
 obtain⟨h,g',d',t',d⟩:=s';let e:d=s.os:=g;subst e;show I.call (g':=g') (t':=t') (d':=d') u a f hch
end
abbrev XK:=QK->Option QO->Hp->Prop
abbrev St:=List (Option V)
abbrev VK:=V->Hp->Prop
abbrev TE:=St->Hp->VK->Prop
abbrev TT:=St->Hp->(Bool->Hp->Prop)->Prop
abbrev TA:=St->Hp->(List V->Hp->Prop)->Prop
structure iJ where
 nx:St->Hp->Prop
 rt:VK
 bk:St->Hp->Prop:=λ_ _=>False
 ct:St->Hp->Prop:=λ_ _=>False
abbrev TS:=iJ->St->Hp->Prop
def EP(X:Cx)(pins:List (QO×Obj))(Y:St)(Q:VK)(u:QK)(s':QP):Prop:=∃v H',Inv X pins Y H' s'/\RelV v u/\Q v H'
def TP(X:Cx)(pins:List (QO×Obj))(Y:St)(Q:Bool->Hp->Prop)(b:Bool)(s':QP):Prop:=∃H',Inv X pins Y H' s'/\Q b H'
def AP(X:Cx)(pins:List (QO×Obj))(Y:St)(Q:List V->Hp->Prop)(us:List QK)(s':QP):Prop:=∃vs H',Inv X pins Y H' s'/\Vals vs us/\Q vs H'
def SP(X:Cx)(pins:List (QO×Obj))(D:iJ)(f:Flow)(s':QP):Prop:=
 match f with
 |.next=>∃Y' H',Inv X pins Y' H' s'/\D.nx Y' H'
 |.brk=>∃Y' H',Inv X pins Y' H' s'/\D.bk Y' H'
 |.cont=>∃Y' H',Inv X pins Y' H' s'/\D.ct Y' H'
 |.ret u=>∃v Y' H',Inv X pins Y' H' s'/\RelV v u/\D.rt v H'
def PE(X:Cx)(e:QN)(t:TE):Prop:=
 ∀(pins:List (QO×Obj)) (s:QP) (Y:St) (H:Hp) (Q:VK),Inv X pins Y H s->t Y H Q->QR (QS X.prog X.w) X.A (eval e X.env) (EP X pins Y Q) X.xe s
def PT(X:Cx)(e:QN)(t:TT):Prop:=
 ∀(pins:List (QO×Obj)) (s:QP) (Y:St) (H:Hp) (Q:Bool->Hp->Prop),Inv X pins Y H s->t Y H Q->QR (QS X.prog X.w) X.A (isTrue e X.env (eval e X.env)) (TP X pins Y Q) X.xe s
def PW(X:Cx)(e:QN)(t:TT):Prop:=
 ∀(q:Sem QK) (pins:List (QO×Obj)) (s:QP) (Y:St) (H:Hp) (Q:Bool->Hp->Prop),Inv X pins Y H s->t Y H Q->QR (QS X.prog X.w) X.A (isTrue e X.env q) (TP X pins Y Q) X.xe s
def PA(X:Cx)(es:List QN)(t:TA):Prop:=
 ∀(pos:Pos) (pins:List (QO×Obj)) (s:QP) (Y:St) (H:Hp) (Q:List V->Hp->Prop),Inv X pins Y H s->t Y H Q->QR (QS X.prog X.w) X.A (spliced (backTo pos (QU es X.env))) (AP X pins Y Q) X.xe s
def PS(X:Cx)(st:QV)(t:TS):Prop:=
 ∀(pins:List (QO×Obj)) (s:QP) (Y:St) (H:Hp) (D:iJ),Inv X pins Y H s->t D Y H->QR (QS X.prog X.w) X.A (exec st X.env) (SP X pins D) X.xe s
def PSs(X:Cx)(st:List QV)(t:TS):Prop:=
 ∀(pins:List (QO×Obj)) (s:QP) (Y:St) (H:Hp) (D:iJ),Inv X pins Y H s->t D Y H->QR (QS X.prog X.w) X.A (execs st X.env) (SP X pins D) X.xe s
theorem aV{α:Type}{t:Sem α}{Q b:α->QP->Prop}{M:Model}{A:QX}{E:QK->QP->Prop}{s:QP}(h:QR M A t Q E s)(c:∀a s,Q a s->b a s):QR M A t b E s:=wpAny_mono h c λ_ _ x=>x
section
variable {X:Cx}
def Ky(i:Nat):TE:=λY H Q=>∃v,Y[i]?=QH (QH v)/\Q v H
def tC(v:V):TE:=λ_ H Q=>Q v H
theorem qB{i:Nat}(k:X.N[i]?=QH x)(o:G3 X.env.scope x)(hd:(x==("__debug__":Str))=QL:=by decide)(f:(x==("__classdict__":Str))=QL:=by decide):PE X (.Name x pos) (Ky i):=by
 intro d s Y H Q I h;obtain⟨v,e,h⟩:=h;obtain⟨m,j,p⟩:=I.loc;obtain⟨u,r,l⟩:=p i x v k e o;let b:EP X d Y Q u s:=⟨v,H,I,r,h⟩;rcases l with⟨hk,n⟩|⟨hk,c,g,a⟩
 ·show wpAny_Name (wpAny_loadName_local I.ok.kind hk j n b) hd
 ·rcases hk with hk|hk
  ·show wpAny_Name (wpAny_loadName_cell I.ok.kind hk g a b) hd
  ·show wpAny_Name (wpAny_loadName_free I.ok.kind hk g a b f) hd
theorem DI{i j pos}:PE X (.Constant (.int i) j pos) (tC (.int i)):=λ_ _ _ H _ I h=>wpAny_Constant_int ⟨.int i,H,I.tok _,⟨_,rfl⟩,h⟩
theorem G4{b j pos}:PE X (.Constant (.bool b) j pos) (tC (.bl b)):=λ_ _ _ H _ I h=>Constant_bool ⟨.bl b,H,I,rfl,h⟩
theorem DJ{j pos}:PE X (.Constant .none j pos) (tC .non):=λ_ _ _ H _ I h=>Constant_none ⟨.non,H,I,rfl,h⟩
theorem DL{x j pos}:PE X (.Constant (.str x) j pos) (tC (.str x)):=λ_ _ _ H _ I h=>Calls.Constant_str ⟨.str x,H,I.tok _,⟨_,rfl⟩,h⟩
def Gl(X:Cx)(x:Str):Prop:=X.env.kindOf x=QH .globalImplicit
theorem mY{Q:QK->QP->Prop}(I:Inv X pins Y H s)(a:Gl X x)(b:X.mg x=QH u)(h:Q u s)(hd:(x==("__debug__":Str))=QL:=by decide):QR (QS X.prog X.w) X.A (eval (.Name x pos) X.env) Q E s:=
 Calls.Name_function_global I.ok.kind a (Calls.loadGlobal_global (by rw[I.ok.glob];show I.mod.glob.keeps I.bk) b h) hd
theorem dM{Q:QK->QP->Prop}(I:Inv X pins Y H s)(e:Gl X x)(b:X.mg x=QI)(d:bootBuiltins x=QH u)(h:Q u s)(f:x≠"__name__":=by decide)(hd:(x==("__debug__":Str))=QL:=by decide):QR (QS X.prog X.w) X.A (eval (.Name x pos) X.env) Q E s:=by
 obtain⟨g,c,a⟩:=I.mod.blt;show Calls.Name_function_global I.ok.kind e (Calls.loadGlobal_builtin (by rw[I.ok.glob];show I.mod.glob.keeps I.bk) b (by rw[I.ok.blt];show c.keeps I.bk) ((a x f).trans d) h) hd
theorem Ai(a:Gl X x)(b:X.mg x=QH u)(r:RelV v u)(hd:(x==("__debug__":Str))=QL:=by decide):PE X (.Name x pos) (tC v):=
 λ_ _ _ H _ I h=>mY I a b ⟨v,H,I,r,h⟩ hd
theorem Aj(c:Gl X x)(a:X.mg x=QI)(b:bootBuiltins x=QH u)(r:RelV v u)(d:x≠"__name__":=by decide)(hd:(x==("__debug__":Str))=QL:=by decide):PE X (.Name x pos) (tC v):=
 λ_ _ _ H _ I h=>dM I c a b ⟨v,H,I,r,h⟩ d hd
variable {a b:QN} {ta tb:TE} {pos:Pos}
variable {tA tB':TT} {rest:List QN}
def Kz(t u:TT):TT:=λY H Q=>t Y H λc H1=>if c=QJ then u Y H1 Q else Q QL H1
def M7(t u:TT):TT:=λY H Q=>t Y H λc H1=>if c=QJ then Q QJ H1 else u Y H1 Q
def KA(t:TT):TT:=λY H Q=>t Y H λc H1=>Q (!c) H1
theorem Ak(d:PT X a tA):PW X (.BoolOp .And [a] pos) tA:=by
 intro f b s Y H Q I h;show isTrue_and (aV (d b s Y H Q I h) λc s1 e=>?_)
 cases c with
 |true=>show isTrue_and_nil e
 |false=>show e
theorem DM(d:PT X a tA):PW X (.BoolOp .Or [a] pos) tA:=by
 intro f b s Y H Q I h;show isTrue_or (aV (d b s Y H Q I h) λc s1 e=>?_)
 cases c with
 |false=>show isTrue_or_nil e
 |true=>show e
theorem wN(j:PT X a tA)(k:PW X (.BoolOp .And (b::rest) pos) tB'):PW X (.BoolOp .And (a::b::rest) pos) (Kz tA tB'):=by
 intro i d s Y H Q I h;show isTrue_and (aV (j d s Y H _ I h) λc s1 ⟨g,f,e⟩=>?_)
 cases c with
 |true=>show k i d s1 Y g Q f e
 |false=>show⟨g,f,e⟩
theorem Cm(j:PT X a tA)(k:PW X (.BoolOp .Or (b::rest) pos) tB'):PW X (.BoolOp .Or (a::b::rest) pos) (M7 tA tB'):=by
 intro i d s Y H Q I h;show isTrue_or (aV (j d s Y H _ I h) λc s1 ⟨g,f,e⟩=>?_)
 cases c with
 |true=>show⟨g,f,e⟩
 |false=>show k i d s1 Y g Q f e
theorem DN(e:PT X a tA):PT X (.UnaryOp .Not a pos) (KA tA):=by
 intro b s Y H Q I h;show isTrue_not (e b s Y H (λc d=>Q (!c) d) I h)
def G5(ta tb:TE):TE:=λY H Q=>ta Y H λx H1=>∃c,x=.bl c/\if c=QJ then tb Y H1 Q else Q (.bl QL) H1
def KB(ta tb:TE):TE:=λY H Q=>ta Y H λx H1=>∃c,x=.bl c/\if c=QJ then Q (.bl QJ) H1 else tb Y H1 Q
theorem DO{op}(h:PE X a t):PE X (.BoolOp op [a] pos) t:=λb s Y H Q I c=>BoolOp_one (h b s Y H Q I c)
theorem wP(j:PE X a ta)(k:PE X (.BoolOp .And (b::rest) pos) tb):PE X (.BoolOp .And (a::b::rest) pos) (G5 ta tb):=by
 intro d s Y H Q I h;show BoolOp_and (aV (j d s Y H _ I h) λv s1 ⟨x,g,f,i,e⟩=>?_);obtain⟨c,rfl,e⟩:=e;cases i;show Q8 ?_
 cases c with
 |true=>show k d s1 Y g Q f e
 |false=>show⟨.bl QL,g,f,rfl,e⟩
theorem Co(j:PE X a ta)(k:PE X (.BoolOp .Or (b::rest) pos) tb):PE X (.BoolOp .Or (a::b::rest) pos) (KB ta tb):=by
 intro d s Y H Q I h;show BoolOp_or (aV (j d s Y H _ I h) λv s1 ⟨x,g,f,i,e⟩=>?_);obtain⟨c,rfl,e⟩:=e;cases i;show Q8 ?_
 cases c with
 |false=>show k d s1 Y g Q f e
 |true=>show⟨.bl QJ,g,f,rfl,e⟩
def M8(t:TT)(ta tb:TE):TE:=λY H Q=>t Y H λc H1=>if c=QJ then ta Y H1 Q else tb Y H1 Q
theorem oC{c:QN}(j:PT X c tA)(k:PE X a ta)(l:PE X b tb):PE X (.IfExp c a b pos) (M8 tA ta tb):=by
 intro e s Y H Q I h;show wpAny_IfExp (aV (j e s Y H _ I h) λd s1 ⟨i,g,f⟩=>?_)
 cases d with
 |true=>show k e s1 Y i Q g f
 |false=>show l e s1 Y i Q g f
end
def SqL(K:Np)(H:Hp)(a:QO)(xs:List V):Prop:=
 Rd H a (.lst xs)\/
  ∃(o:Obj) (q:Array QK) (n:Nat),K.lookup a=QH o/\o.cls=.type "list"/\o.dict=QI/\o.data=.seq q n/\q.size<=sizeLine/\Vals xs q.toList
def SqT(K:Np)(H:Hp)(a:QO)(xs:List V):Prop:=
 Rd H a (.tup xs)\/
  ∃(o:Obj) (q:Array QK) (n:Nat),K.lookup a=QH o/\o.cls=.type "tuple"/\o.data=.seq q n/\q.size<=sizeLine/\Vals xs q.toList
noncomputable def KC:QK->Option V
 |.none=>QH .non
 |.bool b=>QH (.bl b)
 |.int i _=>QH (.int i)
 |.str x _=>QH (.str x)
 |.bytes b _=>QH (.byt b)
 |.float b _=>QH (.flt b)
 |.ref a=>QH (.ref a)
 |.type n=>QH (.ty n)
 |_=>QI
theorem RelV.abs(r:RelV x u):KC u=QH x:=by
 cases x with
 |non=>cases r;rfl
 |bl _=>cases r;rfl
 |int _=>obtain⟨t,rfl⟩:=r;rfl
 |str _=>obtain⟨t,rfl⟩:=r;rfl
 |byt _=>obtain⟨t,rfl⟩:=r;rfl
 |flt _=>obtain⟨t,rfl⟩:=r;rfl
 |ref _=>cases r;rfl
 |ty _=>cases r;rfl
theorem RelV.inj(r:RelV x u)(q:RelV y u):x=y:=Option.some.inj (r.abs.symm.trans q.abs)
theorem Vals.inj(h:Vals xs us)(k:Vals ys us):xs=ys:=by
 induction h generalizing ys with
 |nil=>cases k;rfl
 |cons r t a=>cases k with
  |cons b c=>rw[r.inj b,a c]
section
variable {X:Cx} {pins:List (QO×Obj)} {Y:St} {H:Hp} {s:QP} {a:QO} {xs ys:List V}
theorem SqL.of{K:Np}(h:H a=QH (.lst xs)):SqL K H a xs:=.inl (.inl h)
theorem SqT.of{K:Np}(h:H a=QH (.tup xs)):SqT K H a xs:=.inl (.inl h)
theorem Inv.list(I:Inv X pins Y H s)(h:SqL X.K H a xs):∃b:List QK,Vals xs b/\PlainL s.heap a b.toArray/\xs.length<=sizeLine:=by
 rcases h with h|⟨o,b,n,hk,c,f,d,g,r⟩
 ·obtain⟨z,b,n,r,e⟩:=h.ok I.hok;show⟨b,r,⟨_,n,e,rfl,rfl,rfl⟩,z⟩
 ·show⟨b.toList,r,⟨o,n,I.kIn a o hk,c,f,by simpa using d⟩,?_⟩;let e:=r.length;simp only[OS] at e
  lia
theorem Inv.tuple(I:Inv X pins Y H s)(h:SqT X.K H a xs):∃b:List QK,Vals xs b/\IsTup s.heap a b.toArray/\xs.length<=sizeLine:=by
 rcases h with h|⟨o,b,n,hk,c,d,f,r⟩
 ·obtain⟨z,b,r,p⟩:=h.ok I.hok;show⟨b,r,p,z⟩
 ·show⟨b.toList,r,⟨o,I.kIn a o hk,c,n,by simpa using d⟩,?_⟩;let e:=r.length;simp only[OS] at e
  lia
theorem Inv.list_inj(I:Inv X pins Y H s)(h:SqL X.K H a xs)(h':SqL X.K H a ys):xs=ys:=by
 obtain⟨c,r,⟨o,n,e,_,_,d⟩,_⟩:=I.list h;obtain⟨b,i,⟨j,k,f,_,_,g⟩,_⟩:=I.list h';rw[e] at f;cases f;rw[d] at g;injection g with d1 _;have:c=b:=by simpa using congrArg Array.toList d1
 subst this;show r.inj i
theorem Inv.tuple_inj(I:Inv X pins Y H s)(h:SqT X.K H a xs)(h':SqT X.K H a ys):xs=ys:=by
 obtain⟨c,r,⟨o,e,_,n,d⟩,_⟩:=I.tuple h;obtain⟨b,i,⟨j,f,_,k,g⟩,_⟩:=I.tuple h';rw[e] at f;cases f;rw[d] at g;injection g with d1 _;have:c=b:=by simpa using congrArg Array.toList d1
 subst this;show r.inj i
end
noncomputable abbrev Cx.wish(X:Cx)(E:QK->QP->Prop):Cx:={ X with xe:=E }
abbrev Cx.nox(X:Cx):Cx:=X.wish λ_ _=>False
theorem Cx.Ok.wish{X:Cx}(a:X.Ok)(E:QK->QP->Prop):(X.wish E).Ok:=
 ⟨a.mod,a.kind,a.glob,a.blt,a.above,a.inj,a.has,a.cab,a.hd,a.frames,a.stk,a.exf,a.bs,a.bsz,a.noex,a.exfs,a.funs,a.frf⟩
theorem Cx.Ok.unwish{X:Cx}(a:(X.wish E).Ok):X.Ok:=
 ⟨a.mod,a.kind,a.glob,a.blt,a.above,a.inj,a.has,a.cab,a.hd,a.frames,a.stk,a.exf,a.bs,a.bsz,a.noex,a.exfs,a.funs,a.frf⟩
section
variable {X:Cx} {pins:List (QO×Obj)} {Y:St} {H:Hp} {s:QP} {E:QK->QP->Prop}
theorem Inv.wish(I:Inv X pins Y H s)(E:QK->QP->Prop):Inv (X.wish E) pins Y H s:=⟨I.ok.wish E,I.os,I.bare,I.base,I.loc,I.cell,I.free,I.freeC,I.pin,I.hok,I.len⟩
theorem Inv.unwish(I:Inv (X.wish E) pins Y H s):Inv X pins Y H s:=⟨I.ok.unwish,I.os,I.bare,I.base,I.loc,I.cell,I.free,I.freeC,I.pin,I.hok,I.len⟩
theorem SP.unwish(h:SP (X.wish E) pins D f s'):SP X pins D f s':=by
 cases f with
 |next=>obtain⟨b,a,I,q⟩:=h;show⟨b,a,I.unwish,q⟩
 |brk=>obtain⟨b,a,I,q⟩:=h;show⟨b,a,I.unwish,q⟩
 |cont=>obtain⟨b,a,I,q⟩:=h;show⟨b,a,I.unwish,q⟩
 |ret u=>obtain⟨v,b,a,I,r,q⟩:=h;show⟨v,b,a,I.unwish,r,q⟩
theorem PSs.nox{st:List QV}{t:TS}(h:PSs X.nox st t):PSs X st t:=λa s Y H D I b=>
 wpAny_mono (h a s Y H D (I.wish _) b) (λ_ _ q=>q.unwish) λ_ _ z=>False.elim z
end
section
variable {X:Cx} {st:QV} {rest:List QV} {t u:TS} {e:QN} {te:TE} {pos:Pos}
def wQ:TS:=λD Y H=>D.nx Y H
def KF(t u:TS):TS:=λD Y H=>t { D with nx:=u D } Y H
theorem Al:PSs X [] wQ:=λ_ _ Y H _ I h=>wpAny_execs_nil ⟨Y,H,I,h⟩
theorem wR(h1:PS X st t)(h2:PSs X rest u):PSs X (st::rest) (KF t u):=by
 intro a s Y H D I h;show wpAny_execs_cons (aV (h1 a s Y H { D with nx:=u D } I h) λf s1 q=>?_)
 cases f with
 |next=>
  obtain⟨d,b,c,q⟩:=q;show h2 a s1 d b D c q
 |ret v=>show q
 |brk=>show q
 |cont=>show q
theorem Am(h1:PS X st t):PSs X [st] t:=by
 intro a s Y H D I h;show wpAny_execs_cons (aV (h1 a s Y H D I h) λf s1 q=>?_)
 cases f with
 |next=>show wpAny_execs_nil q
 |ret v=>show q
 |brk=>show q
 |cont=>show q
theorem Ao:PS X (.Pass pos) wQ:=λ_ _ Y H _ I h=>wpAny_Pass ⟨Y,H,I,h⟩
theorem Inv.quiet(I:Inv X pins Y H s):interactive X.env=QL:=by simp[interactive,I.ok.kind]
theorem DP{x j pos pos'}:PS X (.Expr (.Constant (.str x) j pos) pos') wQ:=λ_ s Y H _ I h=>wpAny_Expr (Calls.Constant_str (show SP X _ _ .next { s with toks:=s.toks+1 } from⟨Y,H,I.tok _,h⟩)) I.quiet
def G6(te:TE):TS:=λD Y H=>te Y H λ_ H1=>D.nx Y H1
theorem Ap(b:PE X e te)(f:swapsWith e QI pos.line X.env=pure QL:=by rfl):PS X (.Expr e pos) (G6 te):=by
 intro a s Y H D I h;show wpAny_Expr_any (aV (b a s Y H _ I h) λv s1 ⟨x,g,c,i,d⟩=>⟨Y,g,c,d⟩) I.quiet f
def KH(te:TE):TS:=λD Y H=>te Y H D.rt
theorem DQ(b:PE X e te):PS X (.Return (QH e) pos) (KH te):=by
 intro a s Y H D I h;show wpAny_Return_some (aV (b a s Y H _ I h) λv s1 ⟨x,g,c,f,d⟩=>⟨x,Y,g,c,f,d⟩)
def KI(c:TT)(t u:TS):TS:=λD Y H=>c Y H λb H1=>if b=QJ then t D Y H1 else u D Y H1
theorem Cp{c:QN}{a b:List QV}{tc:TT}(k:PT X c tc)(j:PSs X a t)(l:PSs X b u):PS X (.If c a b pos) (KI tc t u):=by
 intro e s Y H D I h;show wpAny_If (aV (k e s Y H _ I h) λd s1 ⟨i,g,f⟩=>?_)
 cases d with
 |true=>show j e s1 Y i D g f
 |false=>show l e s1 Y i D g f
end
abbrev TG:=V->St->Hp->(St->Hp->Prop)->Prop
abbrev wS:=List V->St->Hp->(St->Hp->Prop)->Prop
def PG(X:Cx)(q:QN)(t:TG):Prop:=
 ∀(pins:List (QO×Obj)) (s:QP) (Y:St) (H:Hp) (v:V) (u:QK) (Q:St->Hp->Prop),Inv X pins Y H s->RelV v u->t v Y H Q->
  QR (QS X.prog X.w) X.A (assign q X.env u) (λ_ s'=>∃Y' H',Inv X pins Y' H' s'/\Q Y' H') X.xe s
def DR(X:Cx)(q:List QN)(t:wS):Prop:=
 ∀(pins:List (QO×Obj)) (s:QP) (Y:St) (H:Hp) (vs:List V) (us:List QK) (Q:St->Hp->Prop),Inv X pins Y H s->Vals vs us->t vs Y H Q->
  QR (QS X.prog X.w) X.A (assignInOrder ((Q4 q X.env).map (·.2)) us) (λ_ s'=>∃Y' H',Inv X pins Y' H' s'/\Q Y' H') X.xe s
abbrev DS:=V->V->V->Hp->(Hp->Prop)->Prop
def G7(X:Cx)(t:DS):Prop:=
 ∀(pins:List (QO×Obj)) (s:QP) (Y:St) (H:Hp) (o i v:V) (B q u:QK) (Q:Hp->Prop),Inv X pins Y H s->RelV o B->RelV i q->RelV v u->t o i v H Q->
  QR (QS X.prog X.w) X.A (setItem B q u) (λ_ s'=>∃H',Inv X pins Y H' s'/\Q H') X.xe s
abbrev KJ:=V->V->Hp->VK->Prop
def MC(X:Cx)(op:Q1)(t:KJ):Prop:=
 ∀(pins:List (QO×Obj)) (s:QP) (Y:St) (H:Hp) (x y:V) (v u:QK) (Q:VK),Inv X pins Y H s->RelV x v->RelV y u->t x y H Q->
  QR (QS X.prog X.w) X.A (inplaceOp op v u) (EP X pins Y Q) X.xe s
section
variable {X:Cx} {pos:Pos}
def gN(i:Nat):TG:=λv Y H Q=>Q (Y.set i (QH v)) H
theorem sU{i:Nat}(b:X.N.Nodup)(hi:X.N[i]?=QH x)(e:Ck X.env.scope x)(c:X.fn x=QJ\/X.env.scope.names.lookup x=QH .local:=by first|show .inl rfl|show .inr rfl|assumption):PG X (.Name x pos) (gN i):=by
 intro a s Y H v u Q I r h;show wpAny_assign_Name (kh I b hi e r (λf d=>⟨_,H,d,h⟩) c)
def DT:wS:=λvs Y H Q=>vs=[]/\Q Y H
def wU(t:TG)(u:wS):wS:=λvs Y H Q=>∃v r,vs=v::r/\t v Y H λY' H'=>u r Y' H' Q
theorem sV:DR X [] DT:=by
 intro a s Y H c b Q I r h;obtain⟨e,h⟩:=h;subst e;cases r;show assignInOrder_nil ⟨Y,H,I,h⟩
theorem oE{e:QN}{es:List QN}{t:TG}{u:wS}(h1:PG X e t)(h2:DR X es u)
  (hs:(Q4 (e::es) X.env).map (·.2)=assign e X.env::(Q4 es X.env).map (·.2):=by rfl):DR X (e::es) (wU t u):=by
 intro a s Y H k i Q I r h;obtain⟨v,j,e1,h⟩:=h;subst e1
 cases r with
 |cons r b=>
  rw[hs];show assignInOrder_cons (aV (h1 a s Y H _ _ _ I r h) λ_ s1 ⟨d,g,f,c⟩=>?_);show h2 a s1 d g _ _ Q f b c
def G8(K:Np)(n:Nat)(t:wS):TG:=λv Y H Q=>∃a xs,v=.ref a/\SqT K H a xs/\xs.length=n/\t xs Y H Q
theorem wV(p:X.calm=QJ)(h:DR X es t)(j:(Q4 es X.env).length=n:=by rfl)(d:(Q4 es X.env).findIdx? (·.1)=QI:=by rfl):PG X (.Tuple es k pos) (G8 X.K n t):=by
 intro c s Y H v u Q I r f;obtain⟨a,y,e1,hq,x,f⟩:=f;subst e1;cases r;obtain⟨q,g,i,z⟩:=I.tuple hq;show assign_Tuple_tuple (I.ok.hd p) i (by simp[j,<- x,g.length]) d λl w=>?_;let m:Inv X c Y H { s with heap:=l }:=I.kept (t':=s.toks) λb o e=>w b o (NL (NA e)) e;show h c _ Y H y _ Q m (by simpa using g) f
def KL(to B:TE)(t:DS):TG:=λv Y H Q=>to Y H λo H1=>B Y H1 λi H2=>t o i v H2 λq=>Q Y q
theorem DU{o i:QN}{to d:TE}{t:DS}(w:PE X o to)(hi:PE X i d)(p:G7 X t)
  (ha:∀v,assign (.Subscript o i pos) X.env v=(do
   let b <- holding [v] (eval o X.env);let c <- holding [v,b] (eval i X.env)
   standAt pos
   holding [v,b,c] (setItem b c v)
   release [v,b,c] []):=by intro _;rfl):PG X (.Subscript o i pos) (KL to d t):=by
 intro a s Y H v u Q I r h;rw[ha];show QM (Q7 (aV (w a s Y H _ I h) λb s1 ⟨x,k,z,q,n⟩=>?_));show QM (Q7 (aV (hi a s1 Y k _ z n) λc s2 ⟨y,j,A,l,e⟩=>?_));show QM (wpAny_standAt (QM (Q7 (aV (p a s2 Y j x y v b c u _ A q l r e) λ_ s3 ⟨f,g,m⟩=>?_))));show wpAny_release ⟨Y,f,g,m⟩
def Aq(te:TE)(g:TG):TS:=λD Y H=>te Y H λx H1=>g x Y H1 D.nx
theorem qC{tg e:QN}{te:TE}{g:TG}(j:PE X e te)(f:PG X tg g)(c:swapsWithSole [tg] e pos.line X.env=pure QL:=by rfl)(i:swappedStores [tg] e X.env=pure QI:=by rfl)
  (h1:(Q4 [tg] X.env).map (·.2)=[assign tg X.env]:=by rfl):PS X (.Assign [tg] e pos) (Aq te g):=by
 intro a s Y H D I h;show wpAny_Assign_stores (aV (j a s Y H _ I h) λv s1 ⟨x,l,k,d,b⟩=>?_) c i;rw[h1];show aV (f a s1 Y l x v _ k d b) λ_ s2 q=>q
theorem qD{i:Nat}{x:Str}{e:QN}{te:TE}{pos':Pos}(f:X.N.Nodup)(hi:X.N[i]?=QH x)(l:Ck X.env.scope x)(j:PE X e te)(c:swapsWith e (QH (.Name x pos')) pos.line X.env=pure QL:=by rfl)(g:X.fn x=QJ\/X.env.scope.names.lookup x=QH .local:=by first|show .inl rfl|show .inr rfl|assumption) :
  PS X (.Assign [.Name x pos'] e pos) (Aq te (gN i)):=by
 intro a s Y H D I h;show wpAny_Assign_Name (aV (j a s Y H _ I h) λv s1 ⟨y,m,k,d,b⟩=>?_) c;show kh k f hi l d (λs2 n=>⟨_,m,n,b⟩) g
def KM(i:Nat)(te:TE)(q:KJ):TS:=λD Y H=>∃x,Y[i]?=QH (QH x)/\te Y H λy H1=>q x y H1 λz H2=>D.nx (Y.set i (QH z)) H2
theorem DV{i:Nat}{x:Str}{e:QN}{te:TE}{op:Q1}{j:KJ}{pos':Pos}(p:X.N.Nodup)(hi:X.N[i]?=QH x)(f:Ck X.env.scope x)(B:PE X e te)(Q:MC X op j)(q:X.fn x=QJ\/X.env.scope.names.lookup x=QH .local:=by first|show .inl rfl|show .inr rfl|assumption) :
  PS X (.AugAssign (.Name x pos') op e pos) (KM i te j):=by
 intro a s Y H D I h;obtain⟨v,e1,h⟩:=h;obtain⟨m,t,E⟩:=I.loc;let d:G3 X.env.scope x:=by rcases f with k|k;show .inl k;show .inr (.inl k)
 obtain⟨u,r,l⟩:=E i x v hi e1 d;show wpAny_AugAssign_Name ?_
 let g:QR (QS X.prog X.w) X.A (eval e X.env) (λw O=>QR (QS X.prog X.w) X.A (inplaceOp op u w) (λr T=>QR (QS X.prog X.w) X.A (storeName X.env x r) (λ_=>SP X a D .next) X.xe T) X.xe O) X.xe s:=by
  show aV (B a s Y H _ I h) λw s1 ⟨y,F,R,M,L⟩=>?_;show aV (Q a s1 Y F v y u w _ R r M L) λz s2 ⟨V,C,U,K,n⟩=>?_;show kh U p hi f K (λs3 o=>⟨_,C,o,n⟩) q
 rcases l with⟨hk,P⟩|⟨hk,c,S,b⟩
 ·show wpAny_loadName_local I.ok.kind hk t P g
 ·rcases hk with hk|hk
  ·show wpAny_loadName_cell I.ok.kind hk S b g
  ·rcases f with k|k
   ·have:X.env.scope.names.lookup x=QH .free:=hk;rw[k] at this;cases this
   ·have:X.env.scope.names.lookup x=QH .free:=hk;rw[k] at this;cases this
def DW(c:TT)(tb:TS):TS:=λD Y H=>∃W:Nat->St->Hp->Prop,(∃m,W m Y H)/\∀m Y H,W m Y H->
 c Y H λb H1=>if b=QJ then ∃N:St->Hp->Prop,(∀Y' H',N Y' H'->∃q,q<m/\W q Y' H')/\tb { D with nx:=N,ct:=N,bk:=D.nx } Y H1 else D.nx Y H1
theorem wX{c:QN}{body:List QV}{tc:TT}{tb:TS}(r:PassesOwn (QS X.prog X.w) X.A X.env X.xe)(K:PT X c tc)(L:PSs X body tb):PS X (.While c body [] pos) (DW tc tb):=by
 intro a s Y H D I h;obtain⟨W,⟨M,O⟩,d⟩:=h;show wpAny_While (codeAny_whileLoop (λn E=>∃u z,Inv X a u z E/\W n u z) ?_ M ⟨Y,H,I,O⟩)
 rintro n s1 ⟨k,y,F,C⟩
 show Rb r (aV (K a s1 k y _ F (d n k y C)) λb s2 ⟨x,B,i⟩=>?_)
 cases b with
 |true=>
  obtain⟨N,t,i⟩:=i;rw[if_pos rfl];show Rb r (aV (L a s2 k x _ B i) λf s3 j=>?_)
  cases f with
  |next=>
   obtain⟨g,e,l,o⟩:=j;obtain⟨m,p,q⟩:=t g e o;show⟨m,p,g,e,l,q⟩
  |cont=>
   obtain⟨g,e,l,o⟩:=j;obtain⟨m,p,q⟩:=t g e o;show⟨m,p,g,e,l,q⟩
  |brk=>show j
  |ret v=>show j
 |false=>
  rw[if_neg NV];show wpAny_execs_nil ⟨k,x,B,i⟩
end
structure It where
 go:Nat->Hp->Prop
 yld:Nat->Hp->V->Hp->Prop
 stop:Nat->Hp->Prop
def iK(X:Cx)(pins:List (QO×Obj))(H:Hp)(b:QO):Prop:=
 H b=QI/\b≠X.env.locals/\b∉X.fs/\(b∈X.ex\/X.s₀.heap.objs.size<=b)/\(∀x c,X.env.cells.lookup x=QH c->c≠b)/\∀p∈X.pn++pins,p.1≠b
theorem Inv.fpOk{H H':Hp}{s:QP}(I:Inv X pins Y H s)(a:s.heap.objs.size<=b)(f:H' b=QI):iK X pins H' b:=by
 show⟨f,OF (ND I.lt a),I.nofs a,.inr (NT I.sz a),λx c e z=>?_,λp d z=>?_⟩
 ·obtain⟨v,q⟩:=I.cell x c e;show absurd (ND q.lt (by rw[z];show a)) (Ot _)
 ·show absurd (ND (NA (I.pin p d).1) (by rw[z];show a)) (Ot _)
structure qG(P:Program)(w:World)(K:Np)(tg:Expr)(J:It)(fp:List Addr)(it:Addr)(tn:Nat->Heap->Prop):Prop where
 mem:it∈fp
 obj:∀i h,tn i h->∀b∈fp,∃o,h.get? b=QH o/\∀v,o.data≠.cell v
 keep:∀i h h',tn i h->(∀b∈fp,∀o,h.get? b=QH o->h'.get? b=QH o)->tn i h'
 item:∀(X:Cx),X.prog=P->X.w=w->X.K=K->X.calm=QJ->∀(i:Nat) (pins:List (QO×Obj)) (s:QP) (Y:St) (H:Hp) (E:QK->QP->Prop),Inv X pins Y H s->(∀b∈fp,iK X pins H b)->tn i s.heap->J.go i H->
  QR (QS P w) X.A (pyNext (.ref it)) (λr s1=>∃u,r=QH u/\
   QR (QS P w) X.A (letOwnedTupleGo tg (.ref it) u) (λ_ s2=>∃x H',Inv X pins Y H' s2/\RelV x u/\J.yld i H x H'/\tn (i+1) s2.heap/\∀b∈fp,H' b=QI) E s1) E s
 done:∀(X:Cx),X.prog=P->X.w=w->X.K=K->X.calm=QJ->∀(i:Nat) (pins:List (QO×Obj)) (s:QP) (Y:St) (H:Hp) (E:QK->QP->Prop),Inv X pins Y H s->(∀b∈fp,iK X pins H b)->tn i s.heap->J.stop i H->
  QR (QS P w) X.A (pyNext (.ref it)) (λr s1=>r=QI/\Inv X pins Y H s1) E s
 self:∀(A:QX) (i:Nat) (s:QP) (Q:QK->QP->Prop) (E:QK->QP->Prop),tn i s.heap->Q (.ref it) s->QR (QS P w) A (pyIter (.ref it)) Q E s
abbrev TI:=St->Hp->(It->Hp->Prop)->Prop
def KN(X:Cx)(pins:List (QO×Obj))(Y:St)(tg:QN)(R:It->Hp->Prop)(q:QK)(s2:QP):Prop:=
 ∃(it:QO) (O:List QO) (B:Nat->QY->Prop) (J:It) (H':Hp),q=.ref it/\Inv X pins Y H' s2/\qG X.prog X.w X.K tg J O it B/\B 0 s2.heap/\(∀b∈O,iK X pins H' b)/\R J H'
def PI(X:Cx)(tg iter:QN)(q:TI):Prop:=
 ∀(pins:List (QO×Obj)) (s:QP) (Y:St) (H:Hp) (R:It->Hp->Prop),Inv X pins Y H s->q Y H R->
  QR (QS X.prog X.w) X.A (eval iter X.env) (λv s1=>QR (QS X.prog X.w) X.A (pyIter v) (KN X pins Y tg R) X.xe s1) X.xe s
theorem wY{s:QP}{o:Obj}{n:String}{Q:Unit->QP->Prop}(d:s.heap.get? it=QH o)(b:o.cls=.type n)(hd:o.data=.fields vs)(c:["enumerate","zip","dict_itemiterator","dict_reverseitemiterator","odict_iterator","itertools.zip_longest","itertools.pairwise"].contains n=QL)(a:Q () s):QR M A (letOwnedTupleGo tg (.ref it) u) Q E s:=by
  unfold letOwnedTupleGo
  cases tg<;>first
    |show QQ a
    |(cases u<;>first
        |show QQ a
        | (show QM (wpAny_load d ?_)
           rw[b,hd]
           change QR M A (if(["enumerate","zip","dict_itemiterator","dict_reverseitemiterator","odict_iterator","itertools.zip_longest","itertools.pairwise"].contains n&&vs[0]?==QH (Re _))=QJ then _ else _) Q E s
           rw[if_neg (by intro h;rw[c,Bool.false_and] at h;cases h)];show QQ a))
noncomputable def GB(K:Np)(a:QO):It:=
 ⟨λi H=>∃xs x,SqL K H a xs/\xs[i]?=QH x,λi H x H'=>H'=H/\∀xs,SqL K H a xs->xs[i]?=QH x,λi H=>∃xs,SqL K H a xs/\xs.length<=i⟩
noncomputable def KO(K:Np)(a:QO):It:=
 ⟨λi H=>∃xs x,SqT K H a xs/\xs[i]?=QH x,λi H x H'=>H'=H/\∀xs,SqT K H a xs->xs[i]?=QH x,λi H=>∃xs,SqT K H a xs/\xs.length<=i⟩
noncomputable def G9(lo:Int)(n:Nat):It:=⟨λi _=>i<n,λi H x H'=>H'=H/\x=.int (lo+i),λi _=>n<=i⟩
theorem vo{P:QT}{w:QW}{K:Np}{tg:QN}(a it:QO):qG P w K tg (GB K a) [it] it (λi h=>h.IsListIter it a i) where
 mem:=by simp
 obj:=λi h f b j=>by
  let e:b=it:=by simpa using j
  subst e;obtain⟨o,e,c,d⟩:=f;show⟨o,e,λv z=>by rw[d] at z;cases z⟩
 keep:=λi h n f k=>f.at λo e=>k it (by simp) o e
 item:=by
  intro X t D hK N i g s Y H E I m f A;subst t D hK;obtain⟨V,x,hq,L⟩:=A;obtain⟨B,C,p,O⟩:=I.list hq;obtain⟨u,Q,R⟩:=C.get L;obtain⟨M,q,f2,F,r,y⟩:=m it (by simp);show wpAny_pyNext_list_item f p.isList (x:=u) (by simpa using Q) λn l T=>?_;let U:Inv X g Y H { s with heap:=n }:=I.turned (t':=s.toks) (λb o j e=>(T.2 b j).trans e) M q F r y;obtain⟨o,e,c,d⟩:=id l;show⟨u,rfl,wY (s:={ s with heap:=n }) e c d (by decide) ⟨x,H,U,R,⟨rfl,λys S=>by rw[I.list_inj S hq];show L⟩,l,λb j=>(m b j).1⟩⟩
 done:=by
  intro X t D hK N i g s Y H E I m f A;subst t D hK;obtain⟨V,hq,L⟩:=A;obtain⟨B,C,p,O⟩:=I.list hq;obtain⟨M,q,f2,F,r,y⟩:=m it (by simp);let Z:=C.length;show wpAny_pyNext_list_end (I.ok.hd N) f p.isList (by simp;lia) λn W=>⟨rfl,I.turned (t':=s.toks) (λb o j e=>W b o j e) M q F r y⟩
 self:=λ_ _ _ _ _ f h=>wpAny_pyIter_listiter f h
theorem qH{P:QT}{w:QW}{K:Np}{tg:QN}(a it:QO):qG P w K tg (KO K a) [it] it (λi h=>h.IsTupleIter it a i) where
 mem:=by simp
 obj:=λi h f b l=>by
  let e:b=it:=by simpa using l
  subst e;obtain⟨o,e,c,d⟩:=f;show⟨o,e,λv z=>by rw[d] at z;cases z⟩
 keep:=λi h q f k=>f.at λo e=>k it (by simp) o e
 item:=by
  intro X y D hK N i g s Y H E I n f B;subst y D hK;obtain⟨V,x,hq,L⟩:=B;obtain⟨j,C,p,O⟩:=I.tuple hq;obtain⟨u,Q,R⟩:=C.get L;obtain⟨M,r,f2,F,t,A⟩:=n it (by simp);show wpAny_pyNext_tuple_item f (show s.heap.IsTuple a j.toArray from p) (x:=u) (by simpa using Q) λq m T=>?_;let U:Inv X g Y H { s with heap:=q }:=I.turned (t':=s.toks) (λb o l e=>(T.2 b l).trans e) M r F t A;obtain⟨o,e,c,d⟩:=id m;show⟨u,rfl,wY (s:={ s with heap:=q }) e c d (by decide) ⟨x,H,U,R,⟨rfl,λys S=>by rw[I.tuple_inj S hq];show L⟩,m,λb l=>(n b l).1⟩⟩
 done:=by
  intro X y D hK N i g s Y H E I n f B;subst y D hK;obtain⟨V,hq,L⟩:=B;obtain⟨j,C,p,O⟩:=I.tuple hq;obtain⟨M,r,f2,F,t,A⟩:=n it (by simp);let Z:=C.length;show wpAny_pyNext_tuple_end (I.ok.hd N) f (show s.heap.IsTuple a j.toArray from p) (by simp;lia) λq W=>⟨rfl,I.turned (t':=s.toks) (λb o l e=>W b o l e) M r F t A⟩
 self:=λ_ _ _ _ _ f h=>wpAny_pyIter_tupleiter f h
theorem qI{P:QT}{w:QW}{K:Np}{tg:QN}(it:QO)(lo:Int)(n:Nat):qG P w K tg (G9 lo n) [it] it (λi h=>IsRangeIter h it (lo+(i:Nat)*1) ((n:Int)-(i:Nat)) 1) where
 mem:=by simp
 obj:=λi h a b d=>by
  let e:b=it:=by simpa using d
  subst e
  show⟨_,a,λv z=>by
   let F:Data.fields _=Data.cell v:=z;cases F⟩
 keep:=λi h j a k=>k it (by simp) _ a
 item:=by
  intro X q u hK x i c s Y H E I g a r;subst q u hK;obtain⟨A,l,f2,y,m,p⟩:=g it (by simp);let W:=Walks.range (prog:=X.prog) (w:=X.w) (I.ok.hd x) it lo 1 n;show W.item i s _ _ r a λv j B D f C=>?_;obtain⟨t,rfl⟩:=D;let L:Inv X c Y H { s with heap:=j,toks:=B }:=I.turned (λb o d e=>C b o (by simpa using d) e) A l y m p;show⟨_,rfl,wY (s:={ s with heap:=j,toks:=B }) (n:="range_iterator") f rfl rfl (by decide) ⟨.int (lo+i),H,L,⟨t,?_⟩,⟨rfl,rfl⟩,f,λb d=>(g b d).1⟩⟩;rw[Int.mul_one]
 done:=by
  intro X q u hK x i c s Y H E I g a r;subst q u hK;obtain⟨A,l,f2,y,m,p⟩:=g it (by simp);show wpAny_pyNext_range_end (I.ok.hd x) a (by have:n<=i:=r;lia) λj M=>⟨rfl,I.turned (t':=s.toks) (λb o d e=>M b o d e) A l y m p⟩
 self:=λ_ _ _ _ _ a h=>wpAny_pyIter_rangeiter a h
section
variable {X:Cx} {tg:QN}
def Ha(K:Np)(tl:TE):TI:=λY H R=>tl Y H λx H1=>∃a,x=.ref a/\(∃xs,SqL K H1 a xs)/\R (GB K a) H1
def KP(K:Np)(tl:TE):TI:=λY H R=>tl Y H λx H1=>∃a,x=.ref a/\(∃xs,SqT K H1 a xs)/\R (KO K a) H1
theorem Ar{l:QN}{tl:TE}(j:PE X l tl):PI X tg l (Ha X.K tl):=by
 intro c s Y H R I h;show aV (j c s Y H _ I h) λv s1 ⟨x,k,d,g,f⟩=>?_;obtain⟨a,e,⟨t,hq⟩,q⟩:=f;subst e;cases g;obtain⟨i,r,p,n⟩:=d.list hq;show Rf p.isList ?_;show⟨s1.heap.objs.size,[s1.heap.objs.size],_,_,k,rfl,d.kept (t':=s1.toks) λb o e=>Nw _ e,vo a _,⟨_,NI _ rfl,rfl,rfl⟩,λb m=>?_,q⟩;let e:b=s1.heap.objs.size:=by simpa using m
 subst e;show d.fpOk (Ny _) (d.hok.fresh (Ny _))
theorem DX{l:QN}{tl:TE}(j:PE X l tl):PI X tg l (KP X.K tl):=by
 intro c s Y H R I h;show aV (j c s Y H _ I h) λv s1 ⟨x,k,d,i,g⟩=>?_;obtain⟨a,e,⟨t,hq⟩,q⟩:=g;subst e;cases i;obtain⟨f,r,p,n⟩:=d.tuple hq;show wpAny_pyIter_tuple (show s1.heap.IsTuple a f.toArray from p) ?_;show⟨s1.heap.objs.size,[s1.heap.objs.size],_,_,k,rfl,d.kept (t':=s1.toks) λb o e=>Nw _ e,qH a _,⟨_,NI _ rfl,rfl,rfl⟩,λb m=>?_,q⟩;let e:b=s1.heap.objs.size:=by simpa using m
 subst e;show d.fpOk (Ny _) (d.hok.fresh (Ny _))
theorem oF{s:QP}{R:It->Hp->Prop}{lo hi:Int}{tk:Nat}(I:Inv X pins Y H s)(h1:-(2^62)<=lo)(h2:lo<2^62)(c:-(2^62)<=hi)(d:hi<2^62)(q:R (G9 lo (hi-lo).toNat) H):QR (QS X.prog X.w) X.A (pyIter (.ref s.heap.objs.size)) (KN X pins Y tg R) E { s with heap:=s.heap.push { cls:=.type "range",data:=.fields #[.int lo t,.int hi u,.int 1 v] },toks:=tk }:=by
 show wpAny_pyIter_range (IsRange.new ..) (small_one h1 h2 c d) ?_;let a:Inv X pins Y H { s with heap:=s.heap.push { cls:=.type "range",data:=.fields #[.int lo t,.int hi u,.int 1 v] },toks:=tk }:=I.kept λb o e=>Nw _ e
 show⟨(s.heap.push { cls:=.type "range",data:=.fields #[.int lo t,.int hi u,.int 1 v] }).objs.size,[(s.heap.push { cls:=.type "range",data:=.fields #[.int lo t,.int hi u,.int 1 v] }).objs.size],_,_,H,rfl,
  a.kept (t':=tk) λb o e=>Nw _ e,qI _ lo (hi-lo).toNat,?_,λb f=>?_,q⟩
 ·let e1:lo+((0:Nat):Int)*1=lo:=by simp
  let e2:(((hi-lo).toNat:Nat):Int)-((0:Nat):Int)=Builtin.Range.rangeSize lo hi 1:=by rw[rangeSize_one];split<;>lia
  change IsRangeIter _ _ (lo+((0:Nat):Int)*1) ((((hi-lo).toNat:Nat):Int)-((0:Nat):Int)) 1;rw[e1,e2];show NI _ rfl
 ·let e:b=(s.heap.push { cls:=.type "range",data:=.fields #[.int lo t,.int hi u,.int 1 v] }).objs.size:=by simpa using f
  subst e;show a.fpOk (Ny _) (a.hok.fresh (Ny _))
def Hb(ta:TA):TI:=λY H R=>ta Y H λvs H1=>∃j:Int,vs=[.int j]/\-(2^62)<=j/\j<2^62/\R (G9 0 j.toNat) H1
def Hc(ta:TA):TI:=λY H R=>ta Y H λvs H1=>∃i j:Int,vs=[.int i,.int j]/\(-(2^62)<=i/\i<2^62/\-(2^62)<=j/\j<2^62)/\R (G9 i (j-i).toNat) H1
theorem vp{a:QN}{ta:TA}{p pos:Pos}(k:Gl X "range")(m:X.mg "range" = QI)(l:PA X [a] ta)(g:QU [a] X.env=[(QL,eval a X.env)]:=by rfl):PI X tg (.Call (.Name "range" p) [a] [] pos) (Hb ta):=by
 intro b s Y H R I h;show Call_ (dM I k m boot_range (PyProof.Rows.callWith_type1 (aV (l pos b s Y H _ I h) λo s1 ⟨u,v,n,i,c⟩=>?_) g rfl));obtain⟨j,e,c,f,q⟩:=c;subst e
 cases i with
 |cons r d=>
  cases d;obtain⟨t,rfl⟩:=r;show call_range_1 (oF n (by lia) (by lia) c f (by simpa using q))
theorem vq{a b:QN}{ta:TA}{p pos:Pos}(k:Gl X "range")(u:X.mg "range" = QI)(l:PA X [a,b] ta)(n:QU [a,b] X.env=[(QL,eval a X.env),(QL,eval b X.env)]:=by rfl)(hs2:QU [b] X.env=[(QL,eval b X.env)]:=by rfl) :
  PI X tg (.Call (.Name "range" p) [a,b] [] pos) (Hc ta):=by
 intro c s Y H R I h;show Call_ (dM I k u boot_range (PyProof.Rows.callWith_type1 (aV (l pos c s Y H _ I h) λy s1 ⟨B,z,w,o,f⟩=>?_) (by rw[n,hs2]) (by rw[hs2];rfl)));obtain⟨i,j,e,⟨f,g,m,v⟩,q⟩:=f;subst e
 cases o with
 |cons r d=>
  cases d with
  |cons x d=>
   cases d;obtain⟨t,rfl⟩:=r;obtain⟨A,rfl⟩:=x;show call_range_2 (oF w f g m v q)
def KQ(B:TI)(g:TG)(tb:TS):TS:=λD Y H=>B Y H λJ H1=>∃W:Nat->Nat->St->Hp->Prop,(∃m,W 0 m Y H1)/\∀i m Y H,W i m Y H->
 (J.stop i H/\D.nx Y H)\/(J.go i H/\∃N:St->Hp->Prop,(∀Y' H',N Y' H'->∃q,q<m/\W (i+1) q Y' H')/\∀x H',J.yld i H x H'->g x Y H' λO H2=>tb { D with nx:=N,ct:=N,bk:=D.nx } O H2)
noncomputable def mZ(q:List QO)(h:QY):List (QO×Obj):=q.filterMap λb=>(h.get? b).map λo=>(b,o)
theorem bc{a:List QO}{h:QY}(c:b∈a)(e:h.get? b=QH o):(b,o)∈mZ a h:=Px.mpr ⟨b,c,by rw[e];rfl⟩
theorem vt{a:List QO}{h:QY}{p:QO×Obj}(c:p∈mZ a h):p.1∈a/\h.get? p.1=QH p.2:=by
 obtain⟨b,f,e⟩:=Px.mp c
 cases q:h.get? b with
 |none=>rw[q] at e;cases e
 |some o=>
  rw[q] at e;let d:(b,o)=p:=Option.some.inj e;subst d;show⟨f,q⟩
theorem Inv.pinned{pins:List (QO×Obj)}{s:QP}{a:List QO}(I:Inv X pins Y H s)(j:∀b∈a,iK X pins H b)(i:∀b∈a,∃o,s.heap.get? b=QH o/\∀v,o.data≠.cell v):Inv X (pins++mZ a s.heap) Y H s:=
 I.pins_of λp h=>(NH.mp h).elim (λz=>I.pin p (Nx _ z)) λz=>by
  obtain⟨f,e⟩:=vt z;obtain⟨k,g,f2,_⟩:=j p.1 f;obtain⟨o,c,d⟩:=i p.1 f;rw[e] at c;cases c;show⟨e,k,g,f2,d⟩
theorem Inv.unpinned{pins pl:List (QO×Obj)}(I:Inv X (pins++pl) Y H s):Inv X pins Y H s:=I.pins_of λp a=>I.pin p (Nx _ (NG _ a))
theorem DY{iter:QN}{body:List QV}{wi:TI}{g:TG}{tb:TS}{pos:Pos}(B:PassesOwn (QS X.prog X.w) X.A X.env X.xe)(hc:X.calm=QJ)(hi:PI X tg iter wi)(hg:PG X tg g)(q:PSs X body tb)
  (hs:∀x,foldedSetIterable iter X.env x=pure x:=by intro _;rfl):PS X (.For tg iter body [] pos) (KQ wi g tb):=by
 intro a s Y H D I h;show wpAny_For (aV (hi a s Y H _ I h) λv s1 h1=>aV h1 λha s2 h2=>?_) hs;obtain⟨it,K,tn,J,H2,e,I2,T,U,f2,W,⟨m0,w0⟩,L⟩:=h2;subst e
 -- what stays QJ of the iterator's objects through the loop
 let c:∀{t:Hp},(∀b∈K,t b=QI)->∀b∈K,iK X a t b:=λhn b q=>⟨hn b q,(f2 b q).2⟩;show codeAny_forLoop_any (λn s'=>∃i Q t,Inv X a Q t s'/\tn i s'.heap/\(∀b∈K,t b=QI)/\W i n Q t) ?_ m0 ⟨0,Y,H2,I2,U,λb q=>(f2 b q).1,w0⟩
 rintro n s3 ⟨i,P,R,I3,M,O,w3⟩
 rcases L i n P R w3 with⟨C,qn⟩|⟨go,N,hN,E⟩
 ·show Rb B (aV (T.done X rfl rfl rfl hc i a s3 P R X.xe I3 (c O) M C) λr s4 ⟨V,I4⟩=>?_);subst V;show wpAny_execs_nil ⟨P,R,I4,qn⟩
 ·show Rb B (aV (T.item X rfl rfl rfl hc i a s3 P R X.xe I3 (c O) M go) λr s4 ⟨u,V,h4⟩=>?_);subst V;show Rb B (aV h4 λ_ s5 ⟨x,H5,I5,r5,y5,z,S⟩=>?_);let Z:=I5.pinned (c S) (T.obj _ _ z);show Rb B (aV (hg _ s5 P H5 x u _ Z r5 (E x H5 y5)) λ_ s6 ⟨Y6,H6,I6,q6⟩=>?_);show Rb B (aV (q _ s6 Y6 H6 _ I6 q6) λf s7 y=>?_)
  let l:∀{p:St} {k:Hp},Inv X (a++mZ K s5.heap) p k s7->N p k->∃m,m<n/\∃i Q t,Inv X a Q t s7/\tn i s7.heap/\(∀b∈K,t b=QI)/\W i m Q t:=λ{p k} j F=>by
   obtain⟨m',hm,w7⟩:=hN p k F;show⟨m',hm,i+1,p,k,j.unpinned,T.keep _ _ _ z λb q o e=>(j.pin (b,o) (Nx _ (Nx _ (bc q e)))).1,λb q=>?_,w7⟩;obtain⟨o,e,d⟩:=T.obj _ _ z b q;show(j.pin (b,o) (Nx _ (Nx _ (bc q e)))).2.1
  cases f with
  |next=>obtain⟨p,k,j,F⟩:=y;show l j F
  |cont=>obtain⟨p,k,j,F⟩:=y;show l j F
  |brk=>obtain⟨p,k,j,y⟩:=y;show⟨p,k,j.unpinned,y⟩
  |ret v=>obtain⟨x7,p,k,j,r7,y⟩:=y;show⟨x7,p,k,j.unpinned,r7,y⟩
end
abbrev R2:=V->V->Hp->VK->Prop
def gu(X:Cx)(f:QK->QK->Sem QK)(r:R2):Prop:=
 ∀(pins:List (QO×Obj)) (s:QP) (Y:St) (H:Hp) (x y:V) (v u:QK) (Q:VK),Inv X pins Y H s->RelV x v->RelV y u->r x y H Q->
  QR (QS X.prog X.w) X.A (f v u) (EP X pins Y Q) X.xe s
def gO(X:Cx)(f:QK)(r:List V->Hp->VK->Prop):Prop:=
 ∀(pins:List (QO×Obj)) (s:QP) (Y:St) (H:Hp) (xs:List V) (us:List QK) (Q:VK),Inv X pins Y H s->Vals xs us->r xs H Q->
  QR (QS X.prog X.w) X.A (call f us) (EP X pins Y Q) X.xe s
def KR(X:Cx)(r:V->Hp->(Bool->Hp->Prop)->Prop):Prop:=
 ∀(pins:List (QO×Obj)) (s:QP) (Y:St) (H:Hp) (x:V) (v:QK) (Q:Bool->Hp->Prop),Inv X pins Y H s->RelV x v->r x H Q->
  QR (QS X.prog X.w) X.A (truthy v) (TP X pins Y Q) X.xe s
def JV(r:R2)(ta tb:TE):TE:=λY H Q=>ta Y H λx H1=>tb Y H1 λy H2=>r x y H2 Q
def rI(C:Int->Int->Prop)(g:Int->Int->V):R2:=λx y H Q=>∃i j,x=.int i/\y=.int j/\C i j/\Q (g i j) H
def sW(g:Int->Int->V):R2:=λx y H Q=>∃i j,x=.int i/\y=.int j/\Q (g i j) H
section
variable {X:Cx} {a b c:QN} {ta tb tc:TE} {pos:Pos}
theorem DZ(j:PE X a ta)(n:PE X b tb){pins:List (QO×Obj)}{s:QP}{Y:St}{H:Hp}{R:V->V->Hp->Prop}(I:Inv X pins Y H s)
  (h:ta Y H λx d=>tb Y d λy c=>R x y c) {Q:QK->QP->Prop} {f:QK->QK->Sem QK}
  (hf:∀v u s2 x y c,Inv X pins Y c s2->RelV x v->RelV y u->R x y c->QR (QS X.prog X.w) X.A (f v u) Q X.xe s2) :
  QR (QS X.prog X.w) X.A (eval a X.env) (λv o=>QR (QS X.prog X.w) X.A (eval b X.env) (λu k=>QR (QS X.prog X.w) X.A (f v u) Q X.xe k) X.xe o) X.xe s:=by
 show aV (j pins s Y H _ I h) λv s1 ⟨x,d,l,i,g⟩=>?_;show aV (n pins s1 Y d _ l g) λu s2 ⟨y,c,m,p,e⟩=>?_;show hf v u s2 x y c m i p e
theorem Cq(e:gu X (binaryOp op) r)(d:PE X a ta)(k:PE X b tb):PE X (.BinOp a op b pos) (JV r ta tb):=by
 intro c s Y H Q I h;show wpAny_BinOp (DZ d k I h λv u s2 x y g j i f q=>e c s2 Y g x y v u Q j i f q)
theorem GC{f:QK->QK->Sem QK}{C:Int->Int->Prop}{g:Int->Int->Int}
  (rule:∀(i j:Int) (t u:Tok) (s:QP) (Q:QK->QP->Prop) (E:QK->QP->Prop),C i j->Q (.int (g i j) s.toks) { s with toks:=s.toks+1 }->QR (QS X.prog X.w) X.A (f (.int i t) (.int j u)) Q E s) :
  gu X f (rI C λi j=>.int (g i j)):=by
 intro a s Y H x y v u Q I e c h;obtain⟨i,j,rfl,rfl,d,q⟩:=h;obtain⟨t,rfl⟩:=e;obtain⟨b,rfl⟩:=c;show rule i j t b s _ _ d ⟨.int (g i j),H,I.tok _,⟨_,rfl⟩,q⟩
theorem oG{f:QK->QK->Sem QK}{g:Int->Int->Int}
  (rule:∀(i j:Int) (t u:Tok) (s:QP) (Q:QK->QP->Prop) (E:QK->QP->Prop),Q (.int (g i j) s.toks) { s with toks:=s.toks+1 }->QR (QS X.prog X.w) X.A (f (.int i t) (.int j u)) Q E s) :
  gu X f (sW λi j=>.int (g i j)):=by
 intro a s Y H x y v u Q I d c h;obtain⟨i,j,rfl,rfl,q⟩:=h;obtain⟨t,rfl⟩:=d;obtain⟨b,rfl⟩:=c;show rule i j t b s _ _ ⟨.int (g i j),H,I.tok _,⟨_,rfl⟩,q⟩
theorem As{f:QK->QK->Sem QK}{g:Int->Int->Bool}
  (rule:∀(i j:Int) (t u:Tok) (s:QP) (Q:QK->QP->Prop) (E:QK->QP->Prop),Q (.bool (g i j)) s->QR (QS X.prog X.w) X.A (f (.int i t) (.int j u)) Q E s) :
  gu X f (sW λi j=>.bl (g i j)):=by
 intro a s Y H x y v u Q I d c h;obtain⟨i,j,rfl,rfl,q⟩:=h;obtain⟨t,rfl⟩:=d;obtain⟨b,rfl⟩:=c;show rule i j t b s _ _ ⟨.bl (g i j),H,I,rfl,q⟩
def KS(i j:Int):Prop:=0<=j/\j<=1000000/\i.natAbs<2^64
theorem qJ(k:Nat):(0:Int)<=2^k:=by
 rw[two_pow_cast];show Int.natCast_nonneg _
theorem D0:gu X (binaryOp .Add) (sW λi j=>.int (i+j)):=oG λ_ _ _ _ _ _ _ q=>add_int q
theorem D2:gu X (binaryOp .Sub) (sW λi j=>.int (i-j)):=oG λ_ _ _ _ _ _ _ q=>sub_int q
theorem D3:gu X (binaryOp .Mod) (rI (λ_ j=>0<j) λi j=>.int (i%j)):=GC λi j _ _ _ _ _ a q=>by
 let b:(0:Int)<j:=a;show mod_int' (by lia) (by rw[Int.fmod_eq_emod_of_nonneg i (by lia)];show q)
theorem D4:gu X (binaryOp .Pow) (rI KS λi j=>.int (i^j.toNat)):=GC λ_ _ _ _ _ _ _ a q=>pow_int_small a.1 a.2.1 a.2.2 q
theorem D5:gu X (binaryOp .RShift) (rI (λ_ j=>0<=j) λi j=>.int (i / 2^j.toNat)):=GC λi j _ _ _ _ _ a q=>
 rshift_int a (by rw[PH i (qJ _)];show q)
theorem D6:gu X (binaryOp .BitAnd) (sW λi j=>.int (Builtin.bitAnd i j)):=oG λ_ _ _ _ _ _ _ q=>and_int q
theorem He:gu X (binaryOp .BitOr) (sW λi j=>.int (Builtin.bitOr i j)):=oG λ_ _ _ _ _ _ _ q=>or_int q
theorem D7:gu X (binaryOp .BitXor) (sW λi j=>.int (Builtin.bitXor i j)):=oG λ_ _ _ _ _ _ _ q=>xor_int q
theorem At:gu X (inplaceOp .Add) (sW λi j=>.int (i+j)):=oG λ_ _ _ _ _ _ _ q=>iadd_int q
theorem Au:gu X (inplaceOp .BitAnd) (sW λi j=>.int (Builtin.bitAnd i j)):=oG λ_ _ _ _ _ _ _ q=>iand_int q
theorem D8:gu X (inplaceOp .BitOr) (sW λi j=>.int (Builtin.bitOr i j)):=oG λ_ _ _ _ _ _ _ q=>ior_int q
theorem Hf:gu X (compareOp .Lt) (sW λi j=>.bl (decide (i<j))):=As λ_ _ _ _ _ _ _ q=>lt_int q
theorem Hg:gu X (compareOp .LtE) (sW λi j=>.bl (decide (i<=j))):=As λ_ _ _ _ _ _ _ q=>le_int q
theorem Hh:gu X (compareOp .Gt) (sW λi j=>.bl (decide (j<i))):=As λ_ _ _ _ _ _ _ q=>gt_int q
theorem Hj:gu X (compareOp .GtE) (sW λi j=>.bl (decide (j<=i))):=As λ_ _ _ _ _ _ _ q=>ge_int q
theorem Av{op:Rc}{r:R2}(f:gu X (compareOp op) r)(d:PE X a ta)(l:PE X b tb)(e:Q9 op b=QL):PE X (.Compare a [op] [b] pos) (JV r ta tb):=by
 intro c s Y H Q I h;show wpAny_Compare1 (DZ d l I h λv u s2 x y i k j g q=>f c s2 Y i x y v u Q k j g q) e
def Hk(t:TE):TT:=λY H Q=>t Y H λx H'=>∃k,x=.bl k/\Q k H'
theorem Aw{op:Rc}(p:gu X (compareOp op) r)(n:PE X a ta)(C:PE X b tb)(o:Q9 op b=QL):PT X (.Compare a [op] [b] pos) (Hk (JV r ta tb)):=by
 intro d s Y H Q I h
 show wpAny_isTrue_Compare1 (aV (n d s Y H _ I h) λv s1 ⟨x,A,t,m,i⟩=>aV (C d s1 Y A _ t i) λu s2 ⟨y,w,B,D,f⟩=>
  aV (p d s2 Y w x y v u _ B m D f) λc s3 ⟨z,j,l,q,k,e,g⟩=>?_) o
 subst e;cases q;show Q8 ⟨j,l,g⟩
def wZ(r r':R2)(ta tb tc:TE):TE:=λY H Q=>ta Y H λx H1=>tb Y H1 λy H2=>r x y H2 λz q=>∃k,z=.bl k/\
 (if k=QJ then tc Y q λB O=>r' y B O Q else Q (.bl QL) q)
theorem w4(E:gu X (compareOp op) r)(g:gu X (compareOp op') r')(o:PE X a ta)(w:PE X b tb)(O:PE X c tc)(D:lastMarks [op,op'] [b,c]=QL:=by with_unfolding_all rfl):PE X (.Compare a [op,op'] [b,c] pos) (wZ r r' ta tb tc):=by
 intro f s Y H Q I h
 show Compare_chain (aV (o f s Y H _ I h) λv s1 ⟨x,t,M,B,A⟩=>chain_link (aV (w f s1 Y t _ M A) λu s2 ⟨y,q,R,l,n⟩=>
  aV (E f s2 Y q x y v u _ R B l n) λd s3 ⟨z,i,j,L,k,e,m⟩=>?_)) D
 subst e;cases L;show Q8 ?_
 cases k with
 |false=>show ite_ff ⟨.bl QL,i,j,rfl,m⟩
 |true=>show ite_tt (chain_last (aV (O f s3 Y i _ j m) λC s4 ⟨K,p,N,P,F⟩=>g f s4 Y p y K u C Q N l P F))
def Ax(K:Np)(x:V)(H:Hp)(k:Bool):Prop:=
 match x with
 |.non=>k=QL
 |.bl b=>k=b
 |.int i=>k=(i != 0)
 |.str y=>y.length<=sizeLine/\k=((y.length:Int) != 0)
 |.byt y=>y.size<=sizeLine/\k=((y.size:Int) != 0)
 |.ref p=>(∃xs,SqL K H p xs/\k=!xs.isEmpty)\/(∃xs,SqT K H p xs/\k=!xs.isEmpty)\/∃q,H p=QH (.dK q)/\k=!q.isEmpty
 |_=>False
theorem qK{κ:Type}{a:List (κ×V)}{vs:List (κ×QK)}(r:KV a vs):(!vs.isEmpty)=!a.isEmpty:=by
 cases r<;>rfl
theorem ki{xs:List V}{a:List QK}(r:Vals xs a):(!a.toArray.isEmpty)=!xs.isEmpty:=by
 cases r<;>simp
theorem iL:(sizeLine:Nat)<2^63:=by rw[sizeLine_eq];decide
theorem w5:KR X (λx H Q=>∃k,Ax X.K x H k/\Q k H):=by
 intro z s Y H x v Q I g h;obtain⟨k,e,q⟩:=h;let D:=iL;let C:sizeLine=16777216:=sizeLine_eq
 cases x with
 |non=>
  cases g;let a:k=QL:=e;subst a;show truthy_none ⟨H,I,q⟩
 |bl b=>
  cases g;let a:k=b:=e;subst a;show Q8 ⟨H,I,q⟩
 |int i=>
  obtain⟨t,rfl⟩:=g;let a:k=(i != 0):=e;subst a;show PySem.P.truthy_int ⟨H,I,q⟩
 |str y=>
  obtain⟨t,rfl⟩:=g;obtain⟨B,a⟩:y.length<=sizeLine/\k=((y.length:Int) != 0):=e;subst a;show PySem.P.truthy_str (by lia) ⟨H,I.tok _,q⟩
 |byt y=>
  obtain⟨t,rfl⟩:=g;obtain⟨B,a⟩:y.size<=sizeLine/\k=((y.size:Int) != 0):=e;subst a;show PySem.W.truthy_bytes (by lia) ⟨H,I.tok _,q⟩
 |ref p=>
  cases g;let a:(∃f,SqL X.K H p f/\k=!f.isEmpty)\/(∃f,SqT X.K H p f/\k=!f.isEmpty)\/∃c,H p=QH (.dK c)/\k=!c.isEmpty:=e;rcases a with⟨f,j,a⟩|⟨f,j,a⟩|⟨c,j,a⟩
  ·subst a;obtain⟨n,r,o,u⟩:=I.list j;let d:=r.length;show wpAny_truthy_list o.isList (by simp only[Nz];lia) ⟨H,I.tok _,by rw[ki r];show q⟩
  ·subst a;obtain⟨n,r,o,u⟩:=I.tuple j;let d:=r.length;show truthy_tuple o (by simp only[Nz];lia) ⟨H,I.tok _,by rw[ki r];show q⟩
  ·subst a;obtain⟨u,A,l,r,m⟩:c.length<=sizeLine/\(p==sysModules)=QL/\∃l,KV c l/\s.heap.DictOf (aH X.prog X.w) p l:=I.hok p _ j;let d:c.length=l.length:=Paired.length r;show wpAny_truthy_dict A m (by lia) ⟨H,I.tok _,by rw[qK r];show q⟩
 |_=>show(show False from e).elim
theorem w6(g:PE X a ta)(i:∀b,isTrue a X.env b=(do let v <- b;standAt a.pos;holding [v] (truthy v))) :
  PT X a (λY H Q=>ta Y H λx d=>∃k,Ax X.K x d k/\Q k d):=by
 intro c s Y H Q I h;show isTrue_plain (aV (g c s Y H _ I h) λv s1 ⟨x,l,j,f,e⟩=>w5 c s1 Y l x v Q j f e) (i _)
theorem kj{x:V}(r:Vals [x] us):∃u,us=[u]/\RelV x u:=by
 cases r with
 |cons a b=>cases b;show⟨_,rfl,a⟩
theorem Hl(r:Vals [x,y] us):∃u a,us=[u,a]/\RelV x u/\RelV y a:=by
 cases r with
 |cons b e=>
  cases e with
  |cons d c=>cases c;show⟨_,_,rfl,b,d⟩
theorem w8:gO X (.builtin "abs") (λxs H Q=>∃i,xs=[.int i]/\Q (.int (if i<0 then -i else i)) H):=by
 intro a s Y H xs b Q I r h;obtain⟨i,rfl,q⟩:=h;obtain⟨u,rfl,t,rfl⟩:=kj r
 show call_abs_int λu c=>⟨.int (if i<0 then -i else i),H,I.tok _,⟨_,rfl⟩,q⟩
end
structure ObjM(h:Heap)(x dx C:Addr)(mA:Str->Option Value):Prop where
 obj:h.get? x=QH (OB C dx)
 ns:h.Ns1 dx mA
 ne:dx≠x
theorem vA{h:QY}{mA:Str->Option QK}(n:h.Ns1 dx mA):∃d,h.get? dx=QH d/\∀name,Pu name d=QH (mA name):=by
 obtain⟨o,c,l,j,f,hk,_,i⟩:=n;show⟨o,j,λname=>?_⟩;let e:=i name;unfold nsFind findBy at e;rw[<- Array.find?_toList] at e;unfold Pu;rw[f];dsimp only;split
 ·ext y q;rw[q] at e;show congrArg QH e
 ·ext q;rw[q] at e
  let a:c.toList.any (·.refKey)=QL:=by
   rw[Qq];intro y k;obtain⟨z,t,b⟩:=hk y (Qc.mp k);simp[DictEntry.refKey,b]
  let g:¬c.toList.any (·.refKey)=QJ:=by rw[a];show NV
  rw[if_neg g];show congrArg QH e
theorem ObjM.look{mA:Str->Option QK}(I:ObjM h x dx C mA):∃a,PySem.W.InstAt h x (OB C dx) C (QH a)/\∀name,Pu name a=QH (mA name):=
 let ⟨a,ho,hl⟩:=vA I.ns
 ⟨a,⟨I.obj,rfl,rfl,ho⟩,hl⟩
section
variable {prog:QT} {w:QW} {A:QX} {E:QK->QP->Prop} {s:QP} {K:Np} {x dx C f:QO} {mA:Str->Option QK} {name:Str} {v:QK}
theorem Ay{Q:QK->QP->Prop}(X:K.In s.heap)(I:ObjM s.heap x dx C mA)(d:Pg K C name=QJ)(f:PL K C=QJ)(e:Ol K (.ref C) name=QH QI)(b:mA name=QH v)(a:Qv v=QJ)(h:Q v { s with toks:=s.toks+1 }) :
  QR (QS prog w) A (getAttr (.ref x) name expr) Q E s:=by
 obtain⟨g,J,c⟩:=I.look;show PySem.W.get_value X J (Ps d).1 (PySem.W.findObj_own f e rfl (by rw[c,b])) a h
theorem w9{Q:QK×List QK->QP->Prop}(X:K.In s.heap)(I:ObjM s.heap x dx C mA)(a:Pg K C name=QJ)(g:Ol K (.ref C) name=QH (QH (.ref f)))(e:Qg K (.ref f)=QJ)(c:mA name=QI)(h:Q (.ref f,[.ref x]) s) :
  QR (QS prog w) A (getMethod (.ref x) name pl) Q E s:=by
 obtain⟨b,J,d⟩:=I.look;show PySem.W.method_fn X J (Ps a).1 (Ps a).2 g (beq_iff_eq.mp e) (by change(Pu name b).map (·.isSome)=QH QL;rw[d,c];rfl) h
theorem Az{ns:List Str}{Q:Unit->QP->Prop}(X:K.In s.heap)(I:ObjM s.heap x dx C mA)
  (hs:Ol K (.ref C) "__setattr__" = QH (QH (.builtin "object.__setattr__"))) (hp:Qr K C=QJ) (ht:P1 K C name=QH QI) (hh:PL K C=QJ)
  (hw:PySem.Within mA ns) (hsz:ns.length<=sizeLine)
  (h:∀d,ObjM d x dx C (λy=>if y=name then QH v else mA y)->Heap.SameBut dx s.heap d->Q () { s with heap:=d,toks:=s.toks+2 }) :
  QR (QS prog w) A (setAttr (.ref x) name v) Q E s:=by
 obtain⟨n,J,p⟩:=I.look;show PySem.W.set_plain X J hs (PySem.W.osa_open (s:={ s with toks:=s.toks+1 }) (r:=QI) X J hp ht λb=>?_);obtain⟨q,k,e⟩:=PySem.W.any_some hh;let m:s.heap.get? x=QH ⟨.ref C,QH dx,.plain,#[]⟩:=I.obj;show QM (QQ (QM (QM (wpAny_loadPart m (QM (PySem.W.Looks.here (s:={ s with toks:=s.toks+1 }) (PySem.W.looks_clsIn X k) ?_))))));rw[e];show QQ (a:=QH dx) (QM (QQ (QM ?_)));show wpAny_nsSet1 (s:={ s with toks:=s.toks+1 }) I.ns λd c hs2=>?_;obtain⟨o,l,j,g,i,f⟩:=c.count (PySem.Within.cons name v hw);show QM (wpAny_lookBehind g (by rw[i];show pastItsLine_dict (NT f (by rw[N3];lia))) ?_);show QQ (h _ ⟨(hs2.2 _ (Ne.symm I.ne)).trans I.obj,c,I.ne⟩ hs2)
theorem xa(X:K.In s.heap)(b:QD K C=QJ)(hi:Ol K (.ref C) "__init__" = QH (QH (.ref f)))(c:PySem.W.typeIn K (.ref f)=QH (.type "function"))(h:codeAny (QS prog w) (A.under (.builtin "type.__call__" ⟨.ref C::vs,kw⟩)) (.call (.ref f) ⟨.ref (s.heap.objs.size+1)::vs,kw⟩) (PySem.W.InitBack (s.heap.objs.size+1) R)
   { s with heap:=(s.heap.push On).push (OB C s.heap.objs.size) }) :
  codeAny (QS prog w) A (.call (.ref C) ⟨vs,kw⟩) R s:=by
 obtain⟨i,g,d,t,e⟩:=s;show PySem.W.make_core (PySem.W.makes_of X b) (PySem.W.looks_findIn X hi) (λa=>PySem.W.bind_fn X a c) (.inl rfl) h
end
noncomputable def putF(f:Str)(v:V):List (Str×V)->List (Str×V)
 |[]=>[(f,v)]
 |(g,x)::r=>if g=f then(g,v)::r else(g,x)::putF f v r
theorem jz(f g:Str)(v:V):∀fs:List (Str×V),(putF f v fs).lookup g=if g=f then QH v else fs.lookup g
 |[]=>by
  change Ou g [(f,v)]=_;by_cases h:g=f
  ·let a:(g==f)=QJ:=beq_iff_eq.mpr h;simp only[Ou,a,if_pos h]
  ·let a:(g==f)=QL:=beq_eq_false_iff_ne.mpr h;simp only[Ou,a,if_neg h]
 |(k,x)::r=>by
  let b:=jz f g v r
  rw[show putF f v ((k,x)::r)=(if k=f then(k,v)::r else(k,x)::putF f v r) from rfl]
  by_cases hk:k=f
  ·rw[if_pos hk];by_cases h:g=k
   ·let a:(g==k)=QJ:=beq_iff_eq.mpr h;simp only[Ou,a,if_pos (h.trans hk)]
   ·let a:(g==k)=QL:=beq_eq_false_iff_ne.mpr h;simp only[Ou,a,if_neg (λe:g=f=>h (e.trans hk.symm))]
  ·rw[if_neg hk];by_cases h:g=k
   ·let a:(g==k)=QJ:=beq_iff_eq.mpr h;simp only[Ou,a,if_neg (λe:g=f=>hk (h.symm.trans e))]
   ·let a:(g==k)=QL:=beq_eq_false_iff_ne.mpr h;simp only[Ou,a];show b
theorem iM(f:Str)(v:V):∀fs:List (Str×V),f∈(putF f v fs).map (·.1)/\∀g,g∈fs.map (·.1)->g∈(putF f v fs).map (·.1)
 |[]=>⟨by simp[putF],λg h=>by simp at h⟩
 |(k,x)::r=>by
  obtain⟨b,a⟩:=iM f v r
  rw[show putF f v ((k,x)::r)=(if k=f then(k,v)::r else(k,x)::putF f v r) from rfl]
  by_cases hk:k=f
  ·rw[if_pos hk];subst hk;show⟨by simp,λg h=>by simpa using h⟩
  ·rw[if_neg hk];show⟨?_,λg h=>?_⟩
   ·rw[NS];show NE _ b
   ·rw[NS] at h⊢;rcases NB.mp h with e|e
    ·show NB.mpr (.inl e)
    ·show NE _ (a g e)
theorem jA(f:Str)(v:V):∀fs:List (Str×V),(putF f v fs).length<=fs.length+1
 |[]=>by simp[putF]
 |(k,x)::r=>by
  let a:=jA f v r
  rw[show putF f v ((k,x)::r)=(if k=f then(k,v)::r else(k,x)::putF f v r) from rfl]
  by_cases hk:k=f
  ·rw[if_pos hk,N3,N3];lia
  ·rw[if_neg hk,N3,N3];lia
theorem RelO.some_of(r:RelO (QH v) o):∃u,o=QH u/\RelV v u:=by
 cases o with
 |none=>show(show False from r).elim
 |some u=>show⟨u,rfl,r⟩
theorem RelO.none_of(r:RelO QI o):o=QI:=by
 cases o with
 |none=>rfl
 |some u=>show(show False from r).elim
theorem vB(r:RelV v u):Qv u=QJ:=by
 cases v with
 |non=>cases(show u=Value.none from r);rfl
 |bl b=>cases(show u=Value.bool b from r);rfl
 |int i=>obtain⟨t,e⟩:=(show ∃t,u=Value.int i t from r);cases e;rfl
 |str x=>obtain⟨t,e⟩:=(show ∃t,u=Value.str x t from r);cases e;rfl
 |byt b=>obtain⟨t,e⟩:=(show ∃t,u=Value.bytes b t from r);cases e;rfl
 |flt b=>obtain⟨t,e⟩:=(show ∃t,u=Value.float b t from r);cases e;rfl
 |ref a=>cases(show u=Value.ref a from r);rfl
 |ty n=>cases(show u=Value.type n from r);rfl
section
variable {P:QT} {w:QW} {H H':Hp} {h h':QY} {a C dx:QO} {fs fs':List (Str×V)}
theorem m3(b:HOk P w H h)(e:H a=QH (.ins C dx fs)):∃mA,ObjM h a dx C mA/\(∀f,RelO (fs.lookup f) (mA f))/\PySem.Within mA (fs.map (·.1))/\fs.length<=1000/\H dx=QH (.own a):=by
 obtain⟨d,z,c,g,mA,n,r,q⟩:=(show ObjOk P w H h a (.ins C dx fs) from b a _ e);show⟨mA,⟨g,n,c⟩,r,q,z,d⟩
end
structure Cls(K:Np)(C:Addr):Prop where
 pg:Pg K C Str.empty=QJ
 hd:PL K C=QJ
 po:Qr K C=QJ
 sa:Ol K (.ref C) "__setattr__" = QH (QH (.builtin "object.__setattr__"))
theorem Cls.get{K:Np}{C:QO}(c:Cls K C)(f:Str):Pg K C f=QJ:=c.pg
def NoAttr(K:Np)(C:QO)(f:Str):Prop:=Ol K (.ref C) f=QH QI
theorem NoAttr.taker{K:Np}{C:QO}{f:Str}(n:NoAttr K C f):P1 K C f=QH QI:=by
 unfold P1;rw[show Ol K (.ref C) f=QH QI from n];rfl
structure Nm(K:Np)(C:Addr)(f:Str)(v:V)(u:Value):Prop where
 at_:Ol K (.ref C) f=QH (QH u)
 rel:RelV v u
 get:PySem.W.specialIn K u "__get__" = QH QI
 cp:PySem.W.copiedNames.contains f=QL
structure oH(K:Np)(C:Addr)(m:Str)(f:Addr):Prop where
 at_:Ol K (.ref C) m=QH (QH (.ref f))
 fn:Qg K (.ref f)=QJ
 kp:Om K (.ref f)=QJ
section
variable {X:Cx} {pins:List (QO×Obj)} {Y:St} {H:Hp} {s:QP} {a C dx:QO} {fs:List (Str×V)} {f:Str} {v:V} {A:QX} {E:QK->QP->Prop}
theorem qL{Q:QK->QP->Prop}(I:Inv X pins Y H s)(e:H a=QH (.ins C dx fs))(c:Cls X.K C)(n:NoAttr X.K C f)(l:fs.lookup f=QH v)(h:∀u s',Inv X pins Y H s'->RelV v u->Q u s'):QR (QS X.prog X.w) A (getAttr (.ref a) f b) Q E s:=by
 obtain⟨g,O,r,_,_,_⟩:=m3 I.hok e;obtain⟨u,i,d⟩:=RelO.some_of (v:=v) (o:=g f) (by rw[<- l];show r f);show Ay I.kIn O (c.get f) c.hd n i (vB d) (h u _ (I.tok _) d)
theorem qM{Q:QK×List QK->QP->Prop}(I:Inv X pins Y H s)(e:H a=QH (.ins C dx fs))(c:Cls X.K C)(k:oH X.K C m g)(l:fs.lookup m=QI)(h:Q (.ref g,[.ref a]) s):QR (QS X.prog X.w) A (getMethod (.ref a) m pl) Q E s:=by
 obtain⟨b,O,r,_,_,_⟩:=m3 I.hok e;let d:b m=QI:=RelO.none_of (by rw[<- l];show r m);show w9 I.kIn O (c.get m) k.at_ k.fn d h
theorem qN{Q:Unit->QP->Prop}(I:Inv X pins Y H s)(e:H a=QH (.ins C dx fs))(c:Cls X.K C)(n:NoAttr X.K C f)(F:fs.length<1000)(v:RelV y u)(h:∀s',Inv X pins Y (upd H a (.ins C dx (putF f y fs))) s'->Q () s'):QR (QS X.prog X.w) A (setAttr (.ref a) f u) Q E s:=by
 obtain⟨i,O,r,k,_,j⟩:=m3 I.hok e;let l:(fs.map (·.1)).length<=sizeLine:=by rw[Nt,sizeLine_eq];lia
 show Az I.kIn O c.sa c.po n.taker c.hd k l λB d t=>h _ ?_;let m:∃o,B.get? dx=QH o:=let ⟨o,_,_,e',_⟩:=d.ns;⟨o,e'⟩;show I.write (x:=a) (e:=dx) (by rw[e];show True.intro) (.inr j) (λb q D z=>(t.2 b D).trans z) m ?_;show⟨by rw[ae O.ne];show j,?_,O.ne,d.obj,_,d.ns,λg=>?_,λg p=>?_⟩
 ·have:=jA f y fs;lia
 ·change RelO ((putF f y fs).lookup g) (if g=f then QH u else i g)
  rw[jz];by_cases q:g=f
  ·rw[if_pos q,if_pos q];show v
  ·rw[if_neg q,if_neg q];show r g
 ·by_cases q:g=f
  ·rw[q];show(iM f y fs).1
  ·show(iM f y fs).2 g (k g λz=>p ?_)
   change(if g=f then QH u else i g)=QI
   rw[if_neg q];show z
theorem Inv.made(I:Inv X pins Y H s):Inv X pins Y (upd (upd H s.heap.objs.size (.own (s.heap.objs.size+1))) (s.heap.objs.size+1) (.ins C s.heap.objs.size []))
  { s with heap:=(s.heap.push On).push (OB C s.heap.objs.size) }:=by
 let e1:(s.heap.push On).get? s.heap.objs.size=QH On:=NI s.heap rfl
 let e2:((s.heap.push On).push (OB C s.heap.objs.size)).get? (s.heap.objs.size+1)=QH (OB C s.heap.objs.size):=by
  have:=NI (s.heap.push On) (o:=OB C s.heap.objs.size) rfl;rwa [OQ] at this
 let e3:(s.heap.push On).Ns s.heap.objs.size (λ_=>QI):=⟨On,#[],_,e1,rfl,(λe d=>absurd d (by simp)),λ_=>rfl⟩;let f:=I.laid (a:=s.heap.objs.size) (o:=.own (s.heap.objs.size+1)) (h':=s.heap.push On) (t':=s.toks) (λb u q=>Nw _ q) (Ny _) ⟨_,e1⟩;show f.laid (a:=s.heap.objs.size+1) (o:=.ins C s.heap.objs.size []) (t':=s.toks) (λb u q=>Nw _ q) (Nat.le_of_eq (OQ _ _)) ?_;let c:s.heap.objs.size≠s.heap.objs.size+1:=NL (OD _);show⟨by rw[ae c,ak],NZ _,c,e2,λ_=>QI,(Heap.Ns1.of_empty e3).at λo q=>Nw _ q,λ_=>True.intro,λy g=>absurd rfl g⟩
theorem AA(a:attributeBase e f env (eval e env)=eval e env)(h:QR (QS prog w) A (eval e env) (λo b=>QR (QS prog w) A (getAttr o f QJ) Q E b) E s):QR (QS prog w) A (eval (.Attribute e f pos) env) Q E s:=
 Attribute_any_ h (by rw[arm_eval_Attribute,a])
end
def KU(K:Np)(ta:TE)(f:Str):TE:=λY H Q=>ta Y H λx H1=>∃a C dx fs v,x=.ref a/\H1 a=QH (.ins C dx fs)/\Cls K C/\NoAttr K C f/\fs.lookup f=QH v/\Q v H1
def KW(K:Np)(ta tv:TE)(f:Str):TS:=λD Y H=>tv Y H λy H1=>ta Y H1 λx H2=>∃a C dx fs,x=.ref a/\H2 a=QH (.ins C dx fs)/\Cls K C/\NoAttr K C f/\fs.length<1000/\
 D.nx Y (upd H2 a (.ins C dx (putF f y fs)))
section
variable {X:Cx} {o e value:QN} {f:Str} {pos pos' tpos:Pos} {ta tv:TE}
theorem xb(i:PE X e ta)(p:attributeBase e f X.env (eval e X.env)=eval e X.env):PE X (.Attribute e f pos) (KU X.K ta f):=by
 intro b s Y H Q I h;show AA p (aV (i b s Y H _ I h) λu s1 ⟨x,m,j,k,a,C,y,w,v,r,d,c,n,l,q⟩=>?_);subst r;obtain rfl:u=Value.ref a:=k;show qL j d c n l λt s2 o g=>⟨v,m,o,g,q⟩
theorem D9(k:PE X o ta)(r:PE X value tv)(i:swapsWith value (QH (.Attribute o f pos')) pos.line X.env=pure QL):PS X (.Assign [.Attribute o f pos'] value pos) (KW X.K ta tv f):=by
 intro b s Y H D I h;show plainObj_wpAny_Assign_Attribute (aV (r b s Y H _ I h) λu s1 ⟨y,v,p,m,q⟩=>aV (k b s1 Y v _ p q) λj s2 ⟨x,A,w,t,a,C,E,B,z,e,c,n,l,d⟩=>?_) i;subst z;obtain rfl:j=Value.ref a:=t;show qN w e c n l m λs3 g=>⟨Y,_,g,d⟩
end
section
variable {X:Cx} {pins:List (QO×Obj)} {Y:St} {H:Hp} {s:QP} {A:QX} {E:QK->QP->Prop} {Q:QK->QP->Prop} {c:QK} {b:Bool}
inductive qO (K:Np) (H:Hp):V->Value->Prop where
 |bl (x:Bool):qO K H (.bl x) (.type "bool")
 |int (i:Int):qO K H (.int i) (.type "int")
 |lst {a:QO} {xs:List V} (e:H a=QH (.lst xs)):qO K H (.ref a) (.type "list")
 |tup {a:QO} {xs:List V} (e:H a=QH (.tup xs)):qO K H (.ref a) (.type "tuple")
theorem vC(I:Inv X pins Y H s)(d:RelV x u)(ty:qO X.K H x t)(e:OR X.K t c=QH b)(h:∀tk,Q (.bool b) { s with toks:=tk }) :
  QR (QS X.prog X.w) A (call (.builtin "isinstance") [u,c]) Q E s:=by
 cases ty with
 |bl y=>cases(show u=Value.bool y from d);show Pp PySem.W.kitx_bool I.kIn True.intro e (λz=>nomatch z) h
 |int i=>obtain⟨t,q⟩:=(show ∃t,u=Value.int i t from d);cases q;show Pp PySem.W.kitx_int I.kIn True.intro e (λz=>nomatch z) h
 |@lst a j f=>
  cases(show u=Value.ref a from d);obtain⟨_,_,n,_,g⟩:=(show ObjOk X.prog X.w H s.heap a (.lst j) from I.hok a _ f)
  show Pp PySem.W.kitx_list I.kIn ⟨_,g,rfl⟩ e (λz=>nomatch z) h
 |@tup a j f=>
  cases(show u=Value.ref a from d);obtain⟨_,_,_,p⟩:=(show ObjOk X.prog X.w H s.heap a (.tup j) from I.hok a _ f);obtain⟨o,g,k,_⟩:=p
  show Pp PySem.W.kitx_tuple I.kIn ⟨o,g,k⟩ e (λz=>nomatch z) h
end
structure Room(k:Nat)(A:Around):Prop where
 hd:A.handled=QI
 dp:A.depth+3*k+5<recursionLimit
 un:A.units+16*k+200<cLine
 gd:A.guards=QH []
theorem Room.mono{j k:Nat}(r:Room k A)(h:j<=k):Room j A:=⟨r.hd,by have:=r.dp;lia,by have:=r.un;lia,r.gd⟩
theorem Room.deeper{k:Nat}{A:QX}(r:Room (k+1) A)(env:Env):Room k (A.deeper env):=
 ⟨r.hd,by have:=r.dp;change A.depth+1+3*k+5<_;lia,by have:=r.un;change A.units+3+16*k+200<_;lia,r.gd⟩
theorem qP{A:QX}:(A.under (.builtin "type.__call__" ⟨.ref C::us,kw⟩)).depth=A.depth+1:=by
 first|rfl|simp[Around.under,Code.weight,Code.isCreation,Code.isGuard,Code.isCaller,Code.frames,Code.isFrame,guardIds]
theorem qQ{A:QX}:(A.under (.builtin "type.__call__" ⟨.ref C::us,kw⟩)).units=A.units+1:=by
 first|rfl|simp[Around.under,Code.cUnits,Code.frames,Code.isFrame]
theorem oI{A:QX}:(A.under (.builtin "type.__call__" ⟨.ref C::us,kw⟩)).guards=A.guards:=by
 first|rfl|simp[Around.under,Code.weight,Code.isCreation,Code.isGuard,Code.isCaller,Code.frames,Code.isFrame,guardIds]
theorem Room.make{k:Nat}{A:QX}(r:Room (k+1) A)(C:QO)(us:List QK)(a:List (Str×QK)):Room k (A.under (.builtin "type.__call__" ⟨.ref C::us,a⟩)):=
 ⟨r.hd,by have:=r.dp;rw[qP];lia,by have:=r.un;rw[qQ];lia,by rw[oI];show r.gd⟩
theorem Room.depth{A:QX}(r:Room k A):A.depth<recursionLimit:=by have:=r.dp;lia
def KY:TA:=λ_ H Q=>Q [] H
def Hm(ta:TE)(q:TA):TA:=λY H Q=>ta Y H λx H1=>q Y H1 λxs H2=>Q (x::xs) H2
section
variable {X:Cx} {e:QN} {es:List QN} {te:TE} {t:TA} {pos:Pos}
theorem dO:PA X [] KY:=λ_ _ _ _ H Q I h=>Calls.spliced_nil ⟨[],H,I,.nil,h⟩
theorem bq(i:PE X e te)(m:PA X es t)(f:QU (e::es) X.env=(QL,eval e X.env)::QU es X.env:=by rfl):PA X (e::es) (Hm te t):=by
 intro b a s Y H Q I h;rw[f];change QR _ _ (spliced ((QL,eval e X.env)::backTo b (QU es X.env))) _ _ s;show Calls.spliced_cons (aV (i a s Y H _ I h) λu s1 ⟨x,l,j,g,d⟩=>?_);show aV (m b a s1 Y l _ j d) λq s2 ⟨o,k,n,p,c⟩=>⟨x::o,k,n,.cons g p,c⟩
def KZ(t:TA):TE:=λY H Q=>t Y H λxs H1=>xs.length<=sizeLine/\∀p,H1 p=QI->Q (.ref p) (upd H1 p (.tup xs))
def K0(t:TA):TE:=λY H Q=>t Y H λxs H1=>xs.length<=sizeLine/\∀p,H1 p=QI->Q (.ref p) (upd H1 p (.lst xs))
theorem m4{i}(h:PA X es t):PE X (.Tuple es i pos) (KZ t):=by
 intro a s Y H Q I hq;show wpAny_Tuple_spliced (aV (h pos a s Y H _ I hq) λf s1 ⟨j,d,c,r,z,q⟩=>⟨by rw[<- r.length];show z,?_⟩);let g:d s1.heap.objs.size=QI:=c.hok.fresh (Ny _);show⟨.ref s1.heap.objs.size,upd d s1.heap.objs.size (.tup j),c.laid (t':=s1.toks) (λb u e=>Nw _ e) (Ny _) ?_,rfl,q _ g⟩;show⟨z,f,r,⟨_,NI _ rfl,rfl,_,rfl⟩⟩
theorem Ea(h:PA X es t):PE X (.List es pos) (K0 t):=by
 intro a s Y H Q I hq;show wpAny_List_spliced (aV (h pos a s Y H _ I hq) λf s1 ⟨i,d,c,r,z,q⟩=>⟨by rw[<- r.length];show z,?_⟩);let g:d s1.heap.objs.size=QI:=c.hok.fresh (Ny _);show⟨.ref s1.heap.objs.size,upd d s1.heap.objs.size (.lst i),c.laid (t':=s1.toks) (λb u e=>Nw _ e) (Ny _) ?_,rfl,q _ g⟩;show⟨z,f,0,r,NI _ rfl⟩
end
abbrev Sp:=List V->Hp->VK->XK->Prop
abbrev vD:=List Env->Hp->QP->XK->QK->QP->Prop
structure Env0(P:Program)(w:World)(K:Np)(mg:Str->Option Value)(base:Heap)(A:Around)(outer:List Env)(s:Shared)(H:Hp):Prop where
 frames:A.frames=QH outer
 mod:Mod K mg base
 bs:∀b o,base.get? b=QH o->s.heap.get? b=QH o/\H b=QI
 bsz:base.objs.size<=s.heap.objs.size
 funs:s.heap.FunFrames base outer
 frf:∀b∈wC outer,H b=QI
 hok:HOk P w H s.heap
 bare:AllBare s.gens
def CE(q:List Env)(P:QT)(w:QW)(H:Hp)(s:QP)(Q:VK)(u:QK)(s':QP):Prop:=
 ∃v H',s'.os=s.os/\AllBare s'.gens/\Un (wC q) [] H H' s.heap s'.heap/\HOk P w H' s'.heap/\RelV v u/\Q v H'
def CR(CX:vD)(q:List Env)(P:QT)(w:QW)(H:Hp)(s:QP)(Q:VK)(E:XK)(r:Result)(s':QP):Prop:=
 match r with
 |.ok (.ret u)=>CE q P w H s Q u s'
 |.ok _=>False
 |.error e=>CX q H s E e s'
structure FnOk(P:Program)(w:World)(K:Np)(mg:Str->Option Value)(base:Heap)(CX:vD)(k:Nat)(f:Addr)(fd:FuncData)(ps:List Str)(sp:Sp):Prop where
 len:∀vs H Q E,sp vs H Q E->vs.length=ps.length
 run:∀(A:QX) (outer:List Env) (s:QP) (H:Hp) (args:Args) (us:List QK) (vs:List V) (Q:VK) (E:XK),Room k A->Env0 P w K mg base A outer s H->BindsTo s fd args (ps.zip us)->Vals vs us->sp vs H Q E->
  codeAny (QS P w) A (.call (.ref f) args) (CR CX outer P w H s Q E) s
theorem FnOk.mono{P:QT}{w:QW}{K:Np}{mg:Str->Option QK}{base:QY}{CX:vD}{j k:Nat}{f:QO}{fd:Q3}{ps:List Str}{sp:Sp}(F:FnOk P w K mg base CX j f fd ps sp)(h:j<=k) :
  FnOk P w K mg base CX k f fd ps sp:=⟨F.len,λA a s H b c d Q E e=>F.run A a s H b c d Q E (e.mono h)⟩
theorem FnOk.imp{P:QT}{w:QW}{K:Np}{mg:Str->Option QK}{base:QY}{CX:vD}{k:Nat}{f:QO}{fd:Q3}{ps:List Str}{sp c:Sp}(F:FnOk P w K mg base CX k f fd ps sp)
  (h:∀b H Q E,c b H Q E->sp b H Q E):FnOk P w K mg base CX k f fd ps c:=
 ⟨λb H Q E q=>F.len b H Q E (h _ _ _ _ q),λA a s H d e b Q E l i m j g=>F.run A a s H d e b Q E l i m j (h _ _ _ _ g)⟩
theorem Env0.make{P:QT}{w:QW}{K:Np}{mg:Str->Option QK}{base:QY}{A:QX}{a:List Env}{s:QP}{H:Hp}(e:Env0 P w K mg base A a s H)(C:QO)(us:List QK)(b:List (Str×QK)) :
  Env0 P w K mg base (A.under (.builtin "type.__call__" ⟨.ref C::us,b⟩)) a s H:=⟨by first|show e.frames|(simpa[Around.under,Code.envs,Code.isFrame,pushEnvs] using e.frames),e.mod,e.bs,e.bsz,e.funs,e.frf,e.hok,e.bare⟩
section
variable {X:Cx} {pins:List (QO×Obj)} {Y:St} {H:Hp} {s s':QP}
theorem Inv.env0(I:Inv X pins Y H s):Env0 X.prog X.w X.K X.mg X.base X.A X.stack s H:=
 ⟨I.ok.frames,I.ok.mod,I.bs,NT I.ok.bsz I.sz,I.stack,I.stkFree,I.hok,I.bare⟩
theorem Inv.after(I:Inv X pins Y H s)(h:CE X.stack X.prog X.w H s Q u s'):EP X pins Y Q u s':=by
 obtain⟨v,i,j,a,f,c,r,q⟩:=h;obtain⟨k,g,d,t,e⟩:=s';obtain rfl:e=s.os:=j;show⟨v,i,I.call (h':=k) (g':=g) (d':=d) (t':=t) (ch:=[]) f c a (λb z=>absurd z (by simp)),r,q⟩
end
def Hn(sp:Sp)(dvs:List V)(E:XK)(t:TA):TE:=λY H Q=>t Y H λvs H1=>sp (vs++dvs) H1 Q E
def Ho(C:QO)(m:Str)(sp:Sp)(dvs:List V)(E:XK)(ta:TE)(t:TA):TE:=λY H Q=>ta Y H λx H1=>∃a dx fs,x=.ref a/\H1 a=QH (.ins C dx fs)/\fs.lookup m=QI/\
 t Y H1 λvs H2=>sp (x::(vs++dvs)) H2 Q E
def Hq(C:QO)(sp:Sp)(dvs:List V)(E:XK)(t:TA):TE:=λY H Q=>t Y H λvs H1=>∀x dx,H1 x=QI->H1 dx=QI->dx≠x->
 sp (.ref x::(vs++dvs)) (upd (upd H1 dx (.own x)) x (.ins C dx [])) (λv H2=>v=.non/\Q (.ref x) H2) E
def Binds(K:Np)(fd:Q3)(ps:List Str)(ds:List QK):Prop:=
 ∀(s:QP) (us:List QK),K.In s.heap->(us++ds).length=ps.length->BindsTo s fd ⟨us,[]⟩ (ps.zip (us++ds))
theorem Binds.all{K:Np}{fd:Q3}{ps:List Str}(h:∀us:List QK,us.length=ps.length->bindArgs fd ⟨us,[]⟩=pure (ps.zip us)):Binds K fd ps []:=λs us _ a=>by
 rw[N9] at a⊢;show .of_eq (h us a)
def iN(CX:vD)(X:Cx)(E:XK):Prop:=∀(pins:List (QO×Obj)) (Y:St) (H:Hp) (s:QP) (e:QK) (s':QP),Inv X pins Y H s->CX X.stack H s E e s'->X.xe e s'
section
variable {X:Cx} {CX:vD} {k:Nat} {f C:QO} {fd:Q3} {ps:List Str} {sp:Sp} {dvs:List V} {ds:List QK} {E:XK} {x m:Str} {p pos apos:Pos} {e o:QN} {es:List QN} {ta:TE} {t:TA}
theorem xc{vs:List V}(F:FnOk X.prog X.w X.K X.mg X.base CX k f fd ps sp)(g:Room k X.A)(j:Binds X.K fd ps ds)(hd:Vals dvs ds)(c:iN CX X E)(I:Inv X pins Y H s)(r:Vals vs us)(h:sp (vs++dvs) H Q E):QR (QS X.prog X.w) X.A (call (.ref f) us) (EP X pins Y Q) X.xe s:=by
 let a:Vals (vs++dvs) (us++ds):=r.append hd;let d:(us++ds).length=ps.length:=by rw[<- a.length];show F.len _ _ _ _ h
 show wpAny_call (codeAny_mono (F.run X.A X.stack s H ⟨us,[]⟩ (us++ds) (vs++dvs) Q E g I.env0 (j s us I.kIn d) a h) λr i hq=>?_)
 cases r with
 |error e=>show c pins Y H s e i I hq
 |ok b=>
  cases b with
  |ret u=>show I.after hq
  |next=>show False.elim hq
  |brk=>show False.elim hq
  |cont=>show False.elim hq
theorem sX(F:FnOk X.prog X.w X.K X.mg X.base CX k f fd ps sp)(i:Room k X.A)(c:Gl X x)(d:X.mg x=QH (.ref f))(hk:Om X.K (.ref f)=QJ)(j:Binds X.K fd ps ds)(hd:Vals dvs ds)(g:iN CX X E)
  (ha:PA X (e::es) t) (hdb:(x==("__debug__":Str))=QL:=by decide) (he:QU (e::es) X.env=(QL,eval e X.env)::QU es X.env:=by rfl) (hpl:(backTo pos (QU es X.env)).any (·.1)=QL:=by rfl) :
  PE X (.Call (.Name x p) (e::es) [] pos) (Hn sp dvs E t):=by
 intro a s Y H Q I h;show wpAny_Call_Name_kw (mY I c d ?_ hdb);show Py (h₀:=X.base) I.ok.mod.kin hk (aV (ha pos a s Y H _ I h) λl s1 ⟨m,n,b,r,q⟩=>⟨b.kIn,?_⟩) he hpl;show xc F i j hd g b r q
theorem sY(z:PE X o ta)(c:Cls X.K C)(i:oH X.K C m f)(F:FnOk X.prog X.w X.K X.mg X.base CX k f fd ps sp)(D:Room k X.A)(P:Binds X.K fd ps ds)(hd:Vals dvs ds)(N:iN CX X E)(y:PA X (e::es) t)(d:QU (e::es) X.env=(QL,eval e X.env)::QU es X.env:=by rfl)(g:(backTo pos (QU es X.env)).any (·.1)=QL:=by rfl)(M:eval (.Call (.Attribute o m apos) (e::es) [] pos) X.env=(do
   let ov <- eval o X.env
   standAt apos.atName
   let (f,first) <- holding [ov] (getMethod ov m pl)
   callWith pos f first (backTo pos (QU (e::es) X.env)) (backToKw pos (keywordEach [] X.env))):=by rfl) :
  PE X (.Call (.Attribute o m apos) (e::es) [] pos) (Ho C m sp dvs E ta t):=by
 intro b s Y H Q I h;show PySem.W.methodCall_KW (pl:=pl) (aV (z b s Y H _ I h) λu s1 ⟨x,B,j,O,a,S,T,L,v,l,q⟩=>?_) M;subst L;obtain rfl:u=Value.ref a:=O;show qM j v c i l ?_
 show Py (first:=[.ref a]) (h₀:=X.base) I.ok.mod.kin i.kp (aV (y pos b s1 Y B _ j q) λus s2 ⟨vs,R,n,r,p⟩=>⟨n.kIn,?_⟩) d g
 show xc (us:=.ref a::us) (vs:=.ref a::vs) F D P hd N n (.cons rfl r) p
structure Mk(K:Np)(C f:Addr):Prop where
 makes:QD K C=QJ
 init:Ol K (.ref C) "__init__" = QH (QH (.ref f))
 fn:Qg K (.ref f)=QJ
 kp:Om K (.ref C)=QJ
theorem xd{H:Hp}{Q:VK}{vs:List V}(M:Mk X.K C f)(F:FnOk X.prog X.w X.K X.mg X.base CX k f fd ps sp)(q:Room (k+1) X.A)(t:Binds X.K fd ps ds)(hd:Vals dvs ds)(o:iN CX X E)(I:Inv X pins Y H s)(r:Vals vs us)(h:∀x dx,H x=QI->H dx=QI->dx≠x->sp (.ref x::(vs++dvs)) (upd (upd H dx (.own x)) x (.ins C dx [])) (λv H2=>v=.non/\Q (.ref x) H2) E) :
  QR (QS X.prog X.w) X.A (call (.ref C) us) (EP X pins Y Q) X.xe s:=by
 let hq:=h (s.heap.objs.size+1) s.heap.objs.size (I.hok.fresh (OP _)) (I.hok.fresh (Ny _)) (NL (OD _));let b:=Inv.made (C:=C) I;let c:Vals (V.ref (s.heap.objs.size+1)::(vs++dvs)) (Value.ref (s.heap.objs.size+1)::(us++ds)):=.cons rfl (r.append hd)
 let p:(Value.ref (s.heap.objs.size+1)::us++ds).length=ps.length:=by
  let e:=c.length;rw[F.len _ _ _ _ hq] at e;show e.symm
 show wpAny_call (xa (f:=f) I.kIn M.makes M.init (beq_iff_eq.mp M.fn) (codeAny_mono (F.run _ X.stack _ _ ⟨Value.ref (s.heap.objs.size+1)::us,[]⟩ (Value.ref (s.heap.objs.size+1)::(us++ds)) _ _ E (q.make C us [])
  (b.env0.make C us []) (t _ (Value.ref (s.heap.objs.size+1)::us) b.kIn p) c hq) λr l a=>?_))
 cases r with
 |error e=>show o pins Y _ _ e l b a
 |ok n=>
  cases n with
  |ret u=>
   obtain⟨v,m,i,j,g,d⟩:=b.after a;subst g;show⟨j,⟨V.ref (s.heap.objs.size+1),m,i,rfl,d⟩⟩
  |next=>show False.elim a
  |brk=>show False.elim a
  |cont=>show False.elim a
theorem AB(M:Mk X.K C f)(F:FnOk X.prog X.w X.K X.mg X.base CX k f fd ps sp)(i:Room (k+1) X.A)(c:Gl X x)(d:X.mg x=QH (.ref C))(j:Binds X.K fd ps ds)(hd:Vals dvs ds)(g:iN CX X E)
  (ha:PA X (e::es) t) (hdb:(x==("__debug__":Str))=QL:=by decide) (he:QU (e::es) X.env=(QL,eval e X.env)::QU es X.env:=by rfl) (hpl:(backTo pos (QU es X.env)).any (·.1)=QL:=by rfl) :
  PE X (.Call (.Name x p) (e::es) [] pos) (Hq C sp dvs E t):=by
 intro a s Y H Q I h;show wpAny_Call_Name_kw (mY I c d ?_ hdb);show Py (h₀:=X.base) I.ok.mod.kin M.kp (aV (ha pos a s Y H _ I h) λl s1 ⟨m,n,b,r,q⟩=>⟨b.kIn,?_⟩) he hpl;show xd M F i j hd g b r q
end
section
variable {X:Cx} {CX:vD} {k:Nat} {f C:QO} {fd:Q3} {ps ks:List Str} {sp:Sp} {E:XK} {x m:Str} {p pos apos kpos:Pos} {e o:QN} {es:List QN} {kws:List Keyword} {te ta:TE} {t tk:TA} {nm:Option Str}
structure K1(K:Np)(fd:FuncData)(ps ks:List Str)(g:List Value->List Value->List Value)(gV:List V->List V->List V):Prop where
 to:∀(s:QP) (us ws:List QK),K.In s.heap->(g us ws).length=ps.length->BindsTo s fd ⟨us,ks.zip ws⟩ (ps.zip (g us ws))
 rel:∀{vs:List V} {us:List QK} {zs:List V} {ws:List QK},Vals vs us->Vals zs ws->Vals (gV vs zs) (g us ws)
variable {g:List QK->List QK->List QK} {gV:List V->List V->List V}
end
structure aY(N P:List Str)(sc:Scope):Prop where
 kind:sc.kind=.function
 co:sc.isCoroutine=QL
 gen:sc.isGenerator=QL
 nd:N.Nodup
 pre:N.take P.length=P
 par:∀x∈P,sc.names.lookup x=QH .local\/sc.names.lookup x=QH .cell
 nofree:∀y∈sc.names,y.2≠.free
theorem lX{b:Str->Option Q6}{x:Str}:∀{a:List (Str×QK)} {m:Str->Option QK},(∀v,(x,v)∉a)->bindL b a m x=m x
 |[],_,_=>rfl
 |(n,v)::r,m,h=>by
  unfold bindL;rw[lX λw c=>h w (NE _ c)];split
  ·have:x≠n:=by rintro rfl;show h v NJ
   simp[this]
  ·rfl
theorem lY{b:Str->Option Q6}{x:Str}:∀{a:List (Str×QK)} {m:Str->Option QK},(∀v,(x,v)∉a)->bindC b a m x=m x
 |[],_,_=>rfl
 |(n,v)::r,m,h=>by
  unfold bindC;rw[lY λw c=>h w (NE _ c)];split
  ·rfl
  ·have:x≠n:=by rintro rfl;show h v NJ
   simp[this]
theorem lZ{a:Str->Option Q6}{x:Str}{v:QK}:∀{P:List Str} {vs:List QK} {i:Nat} {m:Str->Option QK},P.Nodup->P[i]?=QH x->vs[i]?=QH v->a x=QH .local->
  bindL a (P.zip vs) m x=QH v
 |[],_,_,_,_,h,_,_=>by simp at h
 |_::_,[],_,_,_,_,h,_=>by simp at h
 |p::P,w::vs,0,m,nd,h1,h2,hk=>by
  simp at h1 h2;subst h1;subst h2;change bindL a ((p,w)::P.zip vs) m p=_;unfold bindL;rw[lX λv b=>(NU.mp nd).1 (P2 b).1,if_pos hk];simp
 |p::P,w::vs,i+1,m,nd,h1,h2,hk=>by
  change bindL a ((p,w)::P.zip vs) m x=_;unfold bindL;show lZ (i:=i) (NU.mp nd).2 (by simpa using h1) (by simpa using h2) hk
theorem l0{a:Str->Option Q6}{x:Str}{v:QK}:∀{P:List Str} {vs:List QK} {i:Nat} {m:Str->Option QK},P.Nodup->P[i]?=QH x->vs[i]?=QH v->a x≠QH .local->
  bindC a (P.zip vs) m x=QH v
 |[],_,_,_,_,h,_,_=>by simp at h
 |_::_,[],_,_,_,_,h,_=>by simp at h
 |p::P,w::vs,0,m,nd,h1,h2,hk=>by
  simp at h1 h2;subst h1;subst h2;change bindC a ((p,w)::P.zip vs) m p=_;unfold bindC;rw[lY λv b=>(NU.mp nd).1 (P2 b).1,if_neg hk];simp
 |p::P,w::vs,i+1,m,nd,h1,h2,hk=>by
  change bindC a ((p,w)::P.zip vs) m x=_;unfold bindC;show l0 (i:=i) (NU.mp nd).2 (by simpa using h1) (by simpa using h2) hk
noncomputable def bO(N:List Str)(vs:List V):St:=vs.map QH++N1 (N.length-vs.length) QI
noncomputable def lE(CX:vD)(P:QT)(w:QW)(K:Np)(mg:Str->Option QK)(base:QY)(N:List Str)(qual:Str)(scope:Q0)(f:QO)(B:QK)(A:QX)(outer:List Env)(s:QP)(H:Hp)(E:XK):Cx where
 prog:=P
 w:=w
 K:=K
 mg:=mg
 base:=base
 A:=A.deeper (envOfC qual scope s.heap.objs.size f B)
 N:=N
 s₀:=s
 H₀:=H
 env:=envOfC qual scope s.heap.objs.size f B
 outer:=outer
 stack:=envOfC qual scope s.heap.objs.size f B::outer
 ex:=[]
 calm:=QJ
 fn:=λ_=>QJ
 pn:=[]
 xe:=λe s'=>QR (QS P w) (A.deeper (envOfC qual scope s.heap.objs.size f B)) (leaving (envOfC qual scope s.heap.objs.size f B) e) (λ_ q=>CX outer H s E e q) (λO q=>CX outer H s E O q) s'
theorem oJ{a:Q0}{x:Str}(h:a.names.lookup x=QH .cell):∃c,(Q2 n a.names []).lookup x=QH c:=by
 let q:=P5 a.names n [] (.inl h);show Option.isSome_iff_exists.mp q
theorem vF{CX:vD}{P:QT}{w:QW}{K:Np}{mg:Str->Option QK}{base:QY}{N ps:List Str}{qual:Str}{scope:Q0}{f:QO}{B:QK}{A:QX}{d:List Env}{s s1:QP}{H:Hp}{E:XK}{us:List QK}{vs:List V}
  (S:aY N ps scope) (hd:A.handled=QI) (e0:Env0 P w K mg base A d s H) (hl:vs.length=ps.length) (r:Vals vs us)
  (x:InCallC s s.heap.objs.size (bindL (envOfC qual scope s.heap.objs.size f B).kindOf (ps.zip us) λ_=>QI) (Q2 (s.heap.objs.size+1) scope.names []) (bindC (envOfC qual scope s.heap.objs.size f B).kindOf (ps.zip us) λ_=>QI) s1) :
  Inv (lE CX P w K mg base N qual scope f B A d s H E) [] (bO N vs) H s1:=by
 let L:ps.length<=N.length:=by have:=congrArg O3 S.pre;rw[N0] at this;lia
 obtain⟨t,O,rfl,hk⟩:=x.done;let l:∀b:QO,b∉(lE CX P w K mg base N qual scope f B A d s H E).ex:=λb z=>absurd (show b∈([]:List QO) from z) (by simp)
 show⟨⟨e0.mod,S.kind,rfl,rfl,Ny _,λy z c t g=>?_,λy j=>?_,λy c _ h=>?_,λ_=>hd,Around.frames_deeper e0.frames,.inr ⟨rfl,rfl⟩,λb z=>absurd z (l b),e0.bs,e0.bsz,λb _ _=>l b,λb z=>absurd z (l b),e0.funs,e0.frf⟩,
  rfl,e0.bare,Un.kept hk,⟨_,x.toInCall.ns,λi y v t g M=>?_⟩,λy c h=>⟨_,x.cell y c h⟩,e0.hok.fresh (Ny _),λy c h=>?_,λp m=>absurd (show p∈([]:List (QO×Obj)) from m) (by simp),e0.hok.kept hk,?_⟩
 ·show name_of_addr x.apart (PySem.mem_of_lookup t) (PySem.mem_of_lookup g)
 ·let j:scope.names.lookup y=QH .cell\/scope.names.lookup y=QH .free:=j;rcases j with j|j
  ·show oJ j
  ·show absurd rfl (S.nofree _ (PySem.mem_of_lookup j))
 ·show O7 (x.above y c (PySem.mem_of_lookup h))
 ·let C:i<vs.length:=by
   unfold bO at g;by_cases C:i<vs.length
   ·show C
   ·rw[Oi (by simpa using C)] at g;rw[PZ] at g
    split at g<;>cases g
  let F:vs[i]?=QH v:=by
   unfold bO at g;rw[N7 (by simpa using C),Nu] at g
   cases e:vs[i]? with
   |none=>rw[e] at g;cases g
   |some a=>rw[e] at g;cases g;rfl
  obtain⟨u,D,I⟩:=r.get F
  let m:ps[i]?=QH y:=by
   rw[<- S.pre,PQ (by lia)];show t
  let o:ps.Nodup:=by rw[<- S.pre];show S.nd.sublist (PM _ _)
  show⟨u,I,?_⟩;rcases S.par y (NO m) with k|k
  ·show .inl ⟨k,lZ o m D k⟩
  ·obtain⟨c,e⟩:=oJ (n:=s.heap.objs.size+1) k;show .inr ⟨.inl k,c,e,?_⟩;let q:=x.cell y c e;rw[l0 o m D (by change scope.names.lookup y≠_;rw[k];decide)] at q;show q
 ·show e0.hok.fresh (O7 (x.above y c (PySem.mem_of_lookup h)))
 ·unfold bO;change _=N.length;rw[NK,Nt,P7]
  lia
theorem Hr{CX:vD}{P:QT}{w:QW}{K:Np}{mg:Str->Option QK}{base:QY}{k:Nat}{f:QO}{name qual:Str}{d:Arguments}{body:List QV}{scope:Q0}{L kV l O c M oc:QK}{an od:Option QO}
  {osl:Array (Option QK)} {N ps:List Str} {sp:Sp} (lk:K.lookup f=QH ⟨oc,od,.func (Oq name qual d body scope L kV l O an c M),osl⟩) (hcd:O9 K c qual=QJ) (S:aY N ps scope)
  (len:∀g H Q E,sp g H Q E->g.length=ps.length)
  (hbody:∀(A:QX) (a:List Env) (s:QP) (H:Hp) (g:List V) (Q:VK) (E:XK),Room k (A.deeper (envOfC qual scope s.heap.objs.size f c))->sp g H Q E->
   ∃t,PSs (lE CX P w K mg base N qual scope f c A a s H E) body t/\t { nx:=λ_ h=>Q .non h,rt:=Q } (bO N g) H) :
  FnOk P w K mg base CX (k+1) f (Oq name qual d body scope L kV l O an c M) ps sp:=by
 show⟨len,λA a s H T U g Q E C m hb r z=>?_⟩;let Z:=len _ _ _ _ z;let R:K.In s.heap:=m.mod.kin.keeps λb o e=>(m.bs b o e).1;let lim:s.heap.NoLimit:=m.mod.nolimit.keeps λb o e=>(m.bs b o e).1
 let i:∀y∈ps.zip U,scope.names.lookup y.1=QH .local\/(scope.names.lookup y.1=QH .cell/\((Q2 (s.heap.objs.size+1) scope.names []).lookup y.1).isSome=QJ):=λ⟨n,v⟩ hy=>by
  rcases S.par n (P2 hy).1 with q|q
  ·show .inl q
  ·show .inr ⟨q,P5 _ _ _ (.inl q)⟩
 show codeAny_call_function C.depth (R _ _ lk) rfl S.co S.gen rfl (PySem.W.codeRec_of R hcd) (hb _ _ _ _ ?_);show wpAny_newFunctionEnv_cells S.kind i λX Y s1 x=>?_;subst Y;show⟨lim.keeps x.toInCall.keep,codeAny_func ?_⟩;obtain⟨t,ht,hq⟩:=hbody A a s H g Q E (C.deeper _) z;let I:Inv (lE CX P w K mg base N qual scope f c A a s H E) [] (bO N g) H s1:=vF S C.hd m Z r x;show wpAny_mono (ht [] s1 (bO N g) H _ I hq) (λfl F j=>?_) λe F j=>j
 let p:∀{B:St} {h:Hp} {v:V} {u:QK},Inv (lE CX P w K mg base N qual scope f c A a s H E) [] B h F->RelV v u->Q v h->CE a P w H s Q u F:=
  λ{B h v u} J D q=>⟨v,h,J.os,J.bare,J.base,J.hok,D,q⟩
 cases fl with
 |ret u=>
  obtain⟨v,B,h,J,D,q⟩:=j;show p J D q
 |next=>
  obtain⟨B,h,J,q⟩:=j;show p (v:=V.non) (u:=Value.none) J rfl q
 |brk=>
  obtain⟨_,_,_,q⟩:=j;show False.elim q
 |cont=>
  obtain⟨_,_,_,q⟩:=j;show False.elim q
section
variable {X:Cx} {x:Str} {p pos:Pos} {e:QN} {es:List QN} {t:TA} {id T:String} {r:List V->Hp->VK->Prop}
def MD(r:List V->Hp->VK->Prop)(t:TA):TE:=λY H Q=>t Y H λvs H1=>r vs H1 Q
theorem gP(m:gO X (.builtin id) r)(g:Gl X x)(k:X.mg x=QI)(n:bootBuiltins x=QH (.builtin id))(i:PA X (e::es) t)(j:x≠"__name__":=by decide)(b:(x==("__debug__":Str))=QL:=by decide)
  (he:QU (e::es) X.env=(QL,eval e X.env)::QU es X.env:=by rfl) (hpl:(backTo pos (QU es X.env)).any (·.1)=QL:=by rfl):PE X (.Call (.Name x p) (e::es) [] pos) (MD r t):=by
 intro a s Y H Q I h;show wpAny_Call_Name_kw (dM I g k n ?_ j b);show PyProof.Rows.callWith_builtin1 (aV (i pos a s Y H _ I h) λc s1 ⟨o,q,l,f,d⟩=>m a s1 Y q o c Q l f d) he hpl
theorem dU(m:gO X (.type T) r)(g:Gl X x)(k:X.mg x=QI)(n:bootBuiltins x=QH (.type T))(i:PA X (e::es) t)(j:x≠"__name__":=by decide)(b:(x==("__debug__":Str))=QL:=by decide)
  (he:QU (e::es) X.env=(QL,eval e X.env)::QU es X.env:=by rfl) (hpl:(backTo pos (QU es X.env)).any (·.1)=QL:=by rfl):PE X (.Call (.Name x p) (e::es) [] pos) (MD r t):=by
 intro a s Y H Q I h;show wpAny_Call_Name_kw (dM I g k n ?_ j b);show PyProof.Rows.callWith_type1 (aV (i pos a s Y H _ I h) λc s1 ⟨o,q,l,f,d⟩=>m a s1 Y q o c Q l f d) he hpl
end
end L2
namespace HT
open PyProof.Rows
section
variable {prog:QT} {w:QW} {A:QX} {E:QK->QP->Prop} {s:QP}
noncomputable def bY(n d:Nat):Option Int->Nat
 |none=>d
 |some v=>if v<0 then(v+(n:Int)).toNat else min v.toNat n
theorem oK(n d:Nat):bY n d QI=d:=rfl
theorem sZ(n d k:Nat):bY n d (QH (k:Int))=min k n:=by
 change(if(k:Int)<0 then((k:Int)+(n:Int)).toNat else min (k:Int).toNat n)=min k n
 rw[if_neg (by lia),Ov]
theorem Eb(n d:Nat)(hd:d<=n)(o:Option Int):bY n d o<=n:=by
 cases o with
 |none=>show hd
 |some v=>
  change(if v<0 then(v+(n:Int)).toNat else min v.toNat n)<=n
  by_cases a:v<0
  ·rw[if_pos a];lia
  ·rw[if_neg a];show Nat.min_le_right _ _
theorem tf(v:Int)(n d:Nat):(if v<0 then max (v+(n:Int)) 0 else min v (n:Int))=((bY n d (QH v):Nat):Int):=by
 change(if v<0 then max (v+(n:Int)) 0 else min v (n:Int))=(((if v<0 then(v+(n:Int)).toNat else min v.toNat n):Nat):Int)
 by_cases a:v<0
 ·simp only[if_pos a];lia
 ·simp only[if_neg a];lia
theorem qR(lo hi:Option Int)(n:Nat):Builtin.Slice.sliceAdjust lo hi 1 (n:Int)=(((bY n 0 lo:Nat):Int),((bY n n hi:Nat):Int)):=by
 let a:¬((1:Int)<0):=by lia
 unfold Builtin.Slice.sliceAdjust;simp only[a,if_false];show Prod.ext ?_ ?_
 ·cases lo with
  |none=>rfl
  |some v=>show tf v n 0
 ·cases hi with
  |none=>rfl
  |some v=>show tf v n n
theorem qS(i j:Nat):Builtin.Slice.slicePlaces (i:Int) (j:Int) 1=j-i:=by
 unfold Builtin.Slice.slicePlaces;let a:(1:Int) > 0:=by lia
 simp only[a,if_true,Int.ediv_one]
 split<;>lia
theorem km{Q:Option Int->QP->Prop}(p:IsPart v o)(h:Q o s):QR (QS prog w) A (Builtin.Slice.slicePartIndex v) Q E s:=by
 cases p with
 |none=>show slicePart_none h
 |int i t=>show slicePart_int h
theorem dW{lo hi:Option Int}{Q:Int×Int×Nat->QP->Prop}(e:s.heap.IsSliceOf sl vl vu .none)(pl:IsPart vl lo)(d:IsPart vu hi)(h:Q (((bY n 0 lo:Nat):Int),1,bY n n hi-bY n 0 lo) s):QR (QS prog w) A (Builtin.Slice.sliceApplied (.ref sl) (pure (n:Int))) Q E s:=by
 obtain⟨f,b,c,a⟩:=id e;unfold Builtin.Slice.sliceApplied Builtin.Slice.sliceFields;show QM (QM (wpAny_field b a (x:=vl) rfl (QM (wpAny_field b a (x:=vu) rfl (QM (wpAny_field b a (x:=.none) rfl (QQ ?_)))))));show QM (slicePart_none ?_)
 change QR _ _ (if((1:Int)==0)=QJ then _ else _) _ _ s
 rw[if_neg (by decide)];show QM (km pl (QM (km d (QM (QQ ?_)))))
 change QR _ _ (match Builtin.Slice.sliceAdjust lo hi 1 (n:Int) with|(lo,hi)=>pure (lo,(1:Int),Builtin.Slice.slicePlaces lo hi 1)) _ _ s
 rw[qR lo hi n];change QR _ _ (pure (((bY n 0 lo:Nat):Int),(1:Int),Builtin.Slice.slicePlaces ((bY n 0 lo:Nat):Int) ((bY n n hi:Nat):Int) 1)) _ _ s;rw[qS];show QQ h
theorem xf(xs:Array QK)(i k:Nat):((NP k).filterMap λ(m:Nat)=>xs[((i:Int)+(m:Int)*1).toNat]?).toArray=((xs.toList.drop i).take k).toArray:=by
 let e:(λ(m:Nat)=>xs[((i:Int)+(m:Int)*1).toNat]?)=λm=>xs[i+m]?:=by
  funext m;have:((i:Int)+(m:Int)*1).toNat=i+m:=by lia
  rw[this]
 rw[e];have:=pick_run xs i k;rw[List.filterMap_map] at this;let e2:((λx=>xs[x]?)∘λx=>i+x)=λm=>xs[i+m]?:=rfl;rw[e2] at this;rw[this]
theorem gQ{a:Array QK}{lo hi:Option Int}{Q:QK->QP->Prop}(c:IsTup s.heap t a)(i:s.heap.IsSliceOf sl vl vu .none)(pl:IsPart vl lo)(k:IsPart vu hi)(n:¬(bY a.size 0 lo=0/\bY a.size a.size hi=a.size))(h:Q (.ref s.heap.objs.size) { s with heap:=s.heap.push { cls:=.type "tuple",data:=.seq ((a.toList.drop (bY a.size 0 lo)).take (bY a.size a.size hi-bY a.size 0 lo)).toArray } })(hsz:a.size<=sizeLine):QR (QS prog w) A (getItem (.ref t) (.ref sl)) Q E s:=by
 let b:sizeOk (.seq ((a.toList.drop (bY a.size 0 lo)).take (bY a.size a.size hi-bY a.size 0 lo)).toArray):=by
  change((a.toList.drop (bY a.size 0 lo)).take (bY a.size a.size hi-bY a.size 0 lo)).toArray.size<=sizeLine;rw[Nz,N0,Qw,OS]
  lia
 let p:bY a.size a.size hi<=a.size:=Eb _ _ (Ny _) hi;obtain⟨l,g,e,j⟩:=id i;let f:s.TypeIs (.ref sl) "slice":=⟨l,g,e⟩;unfold getItem
 try with_reducible show Q7 ?_
 first|show QM (QQ ?_)|skip
 show QM (wpAny_sequenceKey c.typeIs (by decide) ?_)
 show QM (wpAny_callSpecial?_slot (name:=Str.ofString "__getitem__") c.typeIs PyProof.Rows.slot_tuple_getitem
  (Ra PyProof.Rows.slot_tuple_getitem c.typeIs entry_tuple_getitem ?_ (args_tuple_getitem _ _)))
 change QR _ _ (Builtin.Tuple.tupleItemsOf (.ref t) >>= _) _ _ s;show QM (tupleItemsOf_ c ?_);show QM (wpAny_typeOf f ?_);rw[if_pos (by decide)];show QM (dW i pl k ?_)
 let d:¬((((bY a.size 0 lo:Nat):Int)==0&&(1:Int)==1&&(bY a.size a.size hi-bY a.size 0 lo)==a.size)=QJ):=by
  intro q;rw[Nr,Nr] at q;let r:((bY a.size 0 lo:Nat):Int)=0:=eq_of_beq q.1.1;let o:bY a.size a.size hi-bY a.size 0 lo=a.size:=eq_of_beq q.2;show n ⟨by lia,by lia⟩
 change QR _ _ (if(((bY a.size 0 lo:Nat):Int)==0&&(1:Int)==1&&(bY a.size a.size hi-bY a.size 0 lo)==a.size)=QJ then _ else _) _ _ s
 rw[if_neg d,xf]
 first
  |show QM (m:=Builtin.Tuple.tupleExact _) (Q5 (QQ ⟨_,rfl,QQ h⟩) b)
  |show QM (m:=Builtin.Tuple.tupleExact _) (Q5 (QM (QQ (QQ ⟨_,rfl,QQ h⟩))) b)
  |show QM (QM (m:=Builtin.Tuple.tupleExact _) (Q5 (QQ (QQ ⟨_,rfl,QQ h⟩)) b))
  |show QM (QM (m:=Builtin.Tuple.tupleExact _) (Q5 (QQ ⟨_,rfl,QQ h⟩) b))
end
end HT
namespace L2
open PyProof.Rows
abbrev TO:=St->Hp->(Option Int->Hp->Prop)->Prop
def PO(X:Cx)(e:Option QN)(t:TO):Prop:=
 ∀(pins:List (QO×Obj)) (s:QP) (Y:St) (H:Hp) (Q:Option Int->Hp->Prop),Inv X pins Y H s->t Y H Q->
  QR (QS X.prog X.w) X.A (evalPart e X.env) (λu s'=>∃o H',Inv X pins Y H' s'/\IsPart u o/\Q o H') X.xe s
def AC:TO:=λ_ H Q=>Q QI H
def Hs(t:TE):TO:=λY H Q=>t Y H λx H1=>∃i,x=.int i/\Q (QH i) H1
section
variable {X:Cx} {e:QN} {te:TE} {lo hi:Option QN} {tl th:TO} {pos p2:Pos}
theorem AD:PO X QI AC:=by
 intro a s Y H Q I h;rw[evalPart_none];show QQ ⟨QI,H,I,.none,h⟩
theorem AE(h:PE X e te):PO X (QH e) (Hs te):=by
 intro a s Y H Q I d;rw[evalPart_some];show aV (h a s Y H _ I d) λu s1 ⟨x,g,f,c,b⟩=>?_;obtain⟨i,rfl,q⟩:=b;obtain⟨t,rfl⟩:=c;show⟨QH i,g,f,.int i t,q⟩
def SlR(X:Cx)(r:V->Option Int->Option Int->Hp->VK->Prop):Prop:=
 ∀(pins:List (QO×Obj)) (s:QP) (Y:St) (H:Hp) (x:V) (v O q:QK) (lo hi:Option Int) (B:QO) (Q:VK),Inv X pins Y H s->RelV x v->s.heap.IsSliceOf B O q .none->IsPart O lo->IsPart q hi->r x lo hi H Q->
  ∃T id,typeLookup (.type T) "__getitem__" = pure (QH (.builtin id))/\s.TypeIs v T/\QR (QS X.prog X.w) X.A (getItem v (.ref B)) (EP X pins Y Q) X.xe s
theorem SlR.or{r r':V->Option Int->Option Int->Hp->VK->Prop}(h:SlR X r)(h':SlR X r'):SlR X (λx lo hi H Q=>r x lo hi H Q\/r' x lo hi H Q):=by
 intro a s Y H x v g c lo hi f Q I e d i b q;rcases q with q|q
 ·show h a s Y H x v g c lo hi f Q I e d i b q
 ·show h' a s Y H x v g c lo hi f Q I e d i b q
def M9(r:V->Option Int->Option Int->Hp->VK->Prop)(te:TE)(tl th:TO):TE:=λY H Q=>te Y H λx H1=>tl Y H1 λl H2=>th Y H2 λu q=>r x l u q Q
theorem kn(y:SlR X r)(n:PE X e te)(p:PO X lo tl)(k:PO X hi th):PE X (.Subscript e (.Slice lo hi QI p2) pos) (M9 r te tl th):=by
 intro a s Y H Q I h;show Subscript_ (aV (n a s Y H _ I h) λv s1 ⟨x,t,K,E,D⟩=>?_);show wpAny_Slice (aV (p a s1 Y t _ K D) λd s2 ⟨l,o,M,z,g⟩=>aV (k a s2 Y o _ M g) λc s3 ⟨u,f,i,C,B⟩=>?_);rw[evalPart_none];show QQ ?_;let L:Inv X a Y f { s3 with heap:=s3.heap.push { cls:=.type "slice",data:=.fields #[d,c,.none] } }:=i.kept (t':=s3.toks) λb O q=>Nw _ q;obtain⟨T,N,m,F,j⟩:=y a { s3 with heap:=s3.heap.push { cls:=.type "slice",data:=.fields #[d,c,.none] } } Y f x v d c l u s3.heap.objs.size Q L E (Heap.IsSliceOf.new ..) z C B;change QR (QS X.prog X.w) X.A (subscriptTail e (.Slice lo hi QI p2) v (.ref s3.heap.objs.size)) (EP X a Y Q) X.xe { s3 with heap:=s3.heap.push { cls:=.type "slice",data:=.fields #[d,c,.none] } };show tail_any (ops:=[.ref s3.heap.objs.size,v]) F m j (by with_unfolding_all rfl)
def oM(xs:List V)(lo hi:Option Int):List V:=(xs.drop (HT.bY xs.length 0 lo)).take (HT.bY xs.length xs.length hi-HT.bY xs.length 0 lo)
theorem jB(xs:List V)(lo hi:Option Int):(oM xs lo hi).length<=xs.length:=by
 unfold oM;rw[N0,Qw]
 lia
def K2(K:Np):V->Option Int->Option Int->Hp->VK->Prop:=λx lo hi H Q=>∃a xs,x=.ref a/\SqT K H a xs/\
 ¬(HT.bY xs.length 0 lo=0/\HT.bY xs.length xs.length hi=xs.length)/\∀p,H p=QI->Q (.ref p) (upd H p (.tup (oM xs lo hi)))
theorem sl_tup:SlR X (K2 X.K):=by
 intro j s Y H x v z w lo e y Q I p l t k h;obtain⟨a,d,rfl,n,m,q⟩:=h;cases p;obtain⟨f,r,i,g⟩:=I.tuple n;let c:f.toArray.size=d.length:=by rw[Nz];show r.length.symm
 show⟨"tuple",_,PyProof.Rows.slot_tuple_getitem.lookup,i.typeIs,?_⟩;show HT.gQ i l t k (by rw[c];show m) ?_ (by rw[c];show g);rw[c];show⟨.ref s.heap.objs.size,_,I.laid (t':=s.toks) (o:=.tup (oM d lo e)) (λb u q=>Nw _ q) (Ny _) ?_,rfl,q _ (I.hok.fresh (Ny _))⟩;show⟨NT (jB d lo e) g,_,(r.drop (HT.bY d.length 0 lo)).take (HT.bY d.length d.length e-HT.bY d.length 0 lo),IsTup.new _ _⟩
end
noncomputable def jN(n:Nat)(i:Int):Option Nat:=if 0<=i then(if i<n then QH i.toNat else QI) else if -(n:Int)<=i then QH (i+n).toNat else QI
def qy{α:Type}(xs:List α)(i:Int):Option α:=(jN xs.length i).bind λj=>xs[j]?
theorem m5{n:Nat}{i:Int}{j:Nat}(h:jN n i=QH j):seqIndex? i n=QH j/\j<n/\-(n:Int)<=i/\i<n:=by
 unfold jN at h;by_cases b:0<=i
 ·rw[if_pos b] at h;by_cases a:i<n
  ·rw[if_pos a] at h;let e:i.toNat=j:=Option.some.inj h;show⟨by rw[seqIndex_of b a,e],by lia,by lia,a⟩
  ·rw[if_neg a] at h;cases h
 ·rw[if_neg b] at h;by_cases a:-(n:Int)<=i
  ·rw[if_pos a] at h;let e:(i+n).toNat=j:=Option.some.inj h;show⟨by rw[seqIndex_neg (by lia) a,e],by lia,a,by lia⟩
  ·rw[if_neg a] at h;cases h
theorem m6{α:Type}{xs:List α}{i:Int}{v:α}(h:qy xs i=QH v):∃j,seqIndex? i xs.length=QH j/\xs[j]?=QH v/\j<xs.length/\-(xs.length:Int)<=i/\i<xs.length:=by
 unfold qy at h
 cases e:jN xs.length i with
 |none=>rw[e] at h;cases h
 |some j=>
  rw[e] at h;obtain⟨b,a,d,c⟩:=m5 e;show⟨j,b,h,a,d,c⟩
def tj(b:QN):Prop:=∀o i,subscripted b QL o i=operate [o,i] (getItem o i)
def IxR(X:Cx)(r:R2):Prop:=
 ∀(value q:QN) (pins:List (QO×Obj)) (s:QP) (Y:St) (H:Hp) (x y:V) (v u:QK) (Q:VK),Inv X pins Y H s->RelV x v->RelV y u->r x y H Q->
  subscripted q QL v u=operate [v,u] (getItem v u)->QR (QS X.prog X.w) X.A (subscriptTail value q v u) (EP X pins Y Q) X.xe s
def GD(X:Cx)(id:String)(r:V->List V->Hp->VK->Prop):Prop:=
 ∀(pins:List (QO×Obj)) (s:QP) (Y:St) (H:Hp) (x:V) (xs:List V) (v:QK) (us:List QK) (Q:VK),Inv X pins Y H s->RelV x v->Vals xs us->r x xs H Q->
  QR (QS X.prog X.w) X.A (call (.builtin id) (v::us)) (EP X pins Y Q) X.xe s
section
variable {X:Cx} {a b:QN} {ta tb:TE} {pos:Pos}
theorem IxR.or{r r':R2}(h:IxR X r)(h':IxR X r'):IxR X (λx y H Q=>r x y H Q\/r' x y H Q):=by
 intro a b c s Y H x y v u Q I f e q d;rcases q with q|q
 ·show h a b c s Y H x y v u Q I f e q d
 ·show h' a b c s Y H x y v u Q I f e q d
theorem tq(k:IxR X r)(e:PE X a ta)(l:PE X b tb)(d:tj b):PE X (.Subscript a b pos) (JV r ta tb):=by
 intro c s Y H Q I h;show Subscript_ (DZ e l I h λv u s2 x y g j i f q=>k a b c s2 Y g x y v u Q j i f q (d _ _))
def Ht(K:Np):R2:=λx y H Q=>∃p xs i v,x=.ref p/\y=.int i/\SqL K H p xs/\qy xs i=QH v/\Q v H
def Hu(K:Np):R2:=λx y H Q=>∃p xs i v,x=.ref p/\y=.int i/\SqT K H p xs/\qy xs i=QH v/\Q v H
def Hv:R2:=λx y H Q=>∃z i c,x=.str z/\y=.int i/\z.length<=sizeLine/\qy z.cps.toList i=QH c/\Q (.str ⟨#[c]⟩) H
theorem ix_list:IxR X (Ht X.K):=by
 intro k l a s Y H x y v u Q I M L h n;obtain⟨p,R,i,z,rfl,rfl,hq,B,q⟩:=h;cases M;obtain⟨t,rfl⟩:=L;obtain⟨e,r,f,N⟩:=I.list hq;obtain⟨j,c,D,P,A,E⟩:=m6 B;obtain⟨w,o,g⟩:=r.get D;let C:=r.length;let O:=iL;let b:EP X a Y Q w s:=⟨z,H,I,g,q⟩;by_cases m:0<=i
 ·let d:i.toNat=j:=by
   rw[seqIndex_of m E] at c;show Option.some.inj c
  show item_listR f.isList m (by lia) (by rw[d];simpa using o) b n
 ·let d:(i+(e.toArray.size:Int)).toNat=j:=by
   rw[seqIndex_neg (by lia) A] at c;rw[Nz,<- C];show Option.some.inj c
  show subscriptTail_builtinR (x:=w) f.isList.typeIs slot_list_getitem.lookup
   (wpAny_getItem_list_neg (Q:=λr F=>r=w/\EP X a Y Q r F) f.isList (by lia) (by rw[Nz]<;>lia) (by lia) (by rw[d];simpa using o) ⟨rfl,b⟩) n
theorem ix_tup:IxR X (Hu X.K):=by
 intro d e a s Y H x y v u Q I D B h o;obtain⟨p,O,i,z,rfl,rfl,hq,g,q⟩:=h;cases D;obtain⟨t,rfl⟩:=B;obtain⟨l,r,f,E⟩:=I.tuple hq;obtain⟨j,k,n,M,F,N⟩:=m6 g;obtain⟨w,C,b⟩:=r.get n;let m:=r.length;let L:=iL;let c:EP X a Y Q w s:=⟨z,H,I,b,q⟩;show subscriptTail_builtinR (x:=w) f.typeIs slot_tuple_getitem.lookup
  (getItem_tuple (j:=j) (Q:=λr A=>r=w/\EP X a Y Q r A) f (by lia) (by lia) (by rw[Nz,<- m];show k) (by simpa using C) ⟨rfl,c⟩) o
theorem Ec:IxR X Hv:=by
 intro a b d s Y H x y v u Q I p m h g;obtain⟨z,i,c,rfl,rfl,w,n,q⟩:=h;obtain⟨t,rfl⟩:=p;obtain⟨r,rfl⟩:=m;obtain⟨j,e,f,A,k,l⟩:=m6 n;let o:z.cps.toList.length=z.length:=by simp[Str.length]
 rw[o] at e k l;let B:=iL
 show tail_any (typeIs_str s z t) slot_str_getitem.lookup (getItem_str (c:=c) (by
  let e1:decide (i < -(2^63:Int))=QL:=decide_eq_false (by lia);let e2:decide (i ≥ 2^63)=QL:=decide_eq_false (by lia);rw[e1,e2,Bool.or_false]) (by rw[e];simpa using f) ⟨.str ⟨#[c]⟩,H,I.tok _,⟨_,rfl⟩,q⟩) g
def MF(K:Np):R2:=λx y H Q=>Ht K x y H Q\/Hu K x y H Q\/Hv x y H Q
theorem m7:IxR X (MF X.K):=ix_list.or (ix_tup.or Ec)
theorem qT(a:List QK)(n j:Nat)(u:QK):Obj.mapSeq (·.setIfInBounds j u) { cls:=.type "list",data:=.seq a.toArray n }={ cls:=.type "list",data:=.seq (a.set j u).toArray n }:=by
 simp[Obj.mapSeq]
theorem Inv.lst{pins:List (QO×Obj)}{Y:St}{H:Hp}{s:QP}{p:QO}{xs:List V}(I:Inv X pins Y H s)(h:H p=QH (.lst xs)) :
  ∃(a:List QK) (n:Nat),Vals xs a/\s.heap.get? p=QH { cls:=.type "list",data:=.seq a.toArray n }/\xs.length<=sizeLine:=by
 obtain⟨z,a,n,r,e⟩:=I.hok p _ h;show⟨a,n,r,e,z⟩
theorem Inv.lstUpd{H:Hp}{s:QP}{xs ys:List V}{a its':List QK}(I:Inv X pins Y H s)(h:H p=QH (.lst xs))(g:s.heap.get? p=QH { cls:=.type "list",data:=.seq a.toArray n })(c:f { cls:=.type "list",data:=.seq a.toArray n }={ cls:=.type "list",data:=.seq its'.toArray n' })(r:Vals ys its')(hz:ys.length<=sizeLine)(t:Nat) :
  Inv X pins Y (upd H p (.lst ys)) { s with heap:=s.heap.update p f,toks:=t }:=by
 let e:(s.heap.update p f).get? p=QH { cls:=.type "list",data:=.seq its'.toArray n' }:=by
  rw[Pi f g (by rw[c]<;>rfl),c]
 show I.write (x:=p) (e:=p) (by rw[h];trivial) (.inl rfl) (λb u d q=>(OV _ _ (Ne.symm d)).trans q) ⟨_,e⟩ ?_;show⟨hz,its',n',r,e⟩
def Hw:V->V->V->Hp->(Hp->Prop)->Prop:=λo i v H Q=>∃p xs k j,o=.ref p/\i=.int k/\H p=QH (.lst xs)/\jN xs.length k=QH j/\Q (upd H p (.lst (xs.set j v)))
theorem xg:G7 X Hw:=by
 intro b s Y H o i v E K u Q I C y z h;obtain⟨p,A,k,j,rfl,rfl,f,x,q⟩:=h;cases C;obtain⟨t,rfl⟩:=y;obtain⟨a,n,r,e,B⟩:=I.lst f;obtain⟨c,D,w,g⟩:=m5 x;let d:=r.length;let F:=iL
 let l:Inv X b Y (upd H p (.lst (A.set j v))) { s with heap:=s.heap.update p (Obj.mapSeq (·.setIfInBounds j u)) }:=
  I.lstUpd f e (qT a n j u) (r.set z j) (by rw[O5];show B) s.toks
 by_cases m:0<=k
 ·let hk:k.toNat=j:=by
   rw[seqIndex_of m g] at c;show Option.some.inj c
  show PySem.W.ki_setAt e m (by lia) (by rw[Nz,<- d];show g) (by rw[hk];show⟨_,l,q⟩)
 ·let hk:(k+(a.toArray.size:Int)).toNat=j:=by
   rw[seqIndex_neg (by lia) w] at c;rw[Nz,<- d];show Option.some.inj c
  show PySem.W.ki_setBack e (by lia) (by rw[Nz,<- d];show w) (by lia) (by rw[hk];show⟨_,l,q⟩)
theorem m8(lo hi:Option Int)(n:Nat):(sliceBounds lo hi QI n).1=((HT.bY n 0 lo:Nat):Int)/\(sliceBounds lo hi QI n).2.1=((HT.bY n n hi:Nat):Int)/\(sliceBounds lo hi QI n).2.2=1:=by
 show⟨?_,?_,rfl⟩
 ·cases lo with
  |none=>simp[sliceBounds,HT.bY]
  |some i=>
   simp only[sliceBounds,HT.bY,PR,show(1:Int) > 0 by decide,if_true];by_cases h:i<0
   ·simp only[h,if_true]<;>lia
   ·simp only[h,if_false]<;>lia
 ·cases hi with
  |none=>simp[sliceBounds,HT.bY]
  |some i=>
   simp only[sliceBounds,HT.bY,PR,show(1:Int) > 0 by decide,if_true];by_cases h:i<0
   ·simp only[h,if_true]<;>lia
   ·simp only[h,if_false]<;>lia
theorem lF(a:List QK)(lo hi:Option Int):slicePick a.toArray lo hi QI=((a.drop (HT.bY a.length 0 lo)).take (HT.bY a.length a.length hi-HT.bY a.length 0 lo)).toArray:=by
 obtain⟨c,b,d⟩:=m8 lo hi a.toArray.size;unfold slicePick;rw[c,b,d]
 simp only[sliceRange_one,pick_run,Nz]<;>rfl
def K3(K:Np):V->Option Int->Option Int->Hp->VK->Prop:=λx lo hi H Q=>∃a xs,x=.ref a/\SqL K H a xs/\∀p,H p=QI->Q (.ref p) (upd H p (.lst (oM xs lo hi)))
theorem tu:SlR X (K3 X.K):=by
 intro g s Y H x v y u lo e w Q I n k p i h;obtain⟨a,c,rfl,m,q⟩:=h;cases n;obtain⟨l,r,f,j⟩:=I.list m;let d:=r.length;show⟨"list",_,slot_list_getitem.lookup,f.isList.typeIs,?_⟩
 show wpAny_getItem_list_slice f.isList k p i .none (by simp) ?_ (by rw[Nz]<;>lia)
 rw[lF,<- d];show⟨.ref s.heap.objs.size,_,I.laid (t':=s.toks) (o:=.lst (oM c lo e)) (λb t q=>Nw _ q) (Ny _) ?_,rfl,q _ (I.hok.fresh (Ny _))⟩;show⟨NT (jB c lo e) j,_,0,(r.drop (HT.bY c.length 0 lo)).take (HT.bY c.length c.length e-HT.bY c.length 0 lo),NI _ rfl⟩
theorem m9:gO X (.builtin "len") (λxs H Q=>∃p ys,xs=[.ref p]/\(SqL X.K H p ys\/SqT X.K H p ys)/\Q (.int ys.length) H):=by
 intro e s Y H xs i Q I r h;obtain⟨p,ys,rfl,hq,q⟩:=h;obtain⟨u,rfl,g⟩:=kj r;cases g;let j:=iL;rcases hq with hq|hq
 ·obtain⟨c,b,d,f⟩:=I.list hq;let a:=b.length
  show Calls.call_len_list d.isList (by simp only[Nz]<;>lia) ⟨.int ys.length,H,I.tok _,⟨s.toks+1,by rw[Nz,a]⟩,q⟩
 ·obtain⟨c,b,d,f⟩:=I.tuple hq;let a:=b.length
  show len_tuple d (by simp only[Nz]<;>lia) ⟨.int ys.length,H,I.tok _,⟨s.toks+1,by rw[Nz,a]⟩,q⟩
theorem eD:gO X (.type "list") (λxs H Q=>∃p ys,xs=[.ref p]/\(SqL X.K H p ys\/SqT X.K H p ys)/\∀l,H l=QI->Q (.ref l) (upd H l (.lst ys))):=by
 intro m s Y H xs B Q I r h;obtain⟨p,ys,rfl,hq,q⟩:=h;obtain⟨u,rfl,A⟩:=kj r;cases A
 let k:∀(a:List QK),Vals ys a->ys.length<=sizeLine->∀(c:QY) (d:Nat),(∀b z,s.heap.get? b=QH z->c.get? b=QH z)->
   c.get? s.heap.objs.size=QH { cls:=.type "list",dict:=QI,data:=.seq a.toArray d,slots:=#[] }->EP X m Y Q (.ref s.heap.objs.size) { s with heap:=c }:=λa f g c d j e=>
  ⟨.ref s.heap.objs.size,_,I.laid (t':=s.toks) j (Ny _) (show ObjOk X.prog X.w _ c _ (.lst ys) from⟨g,a,d,f,e⟩),rfl,q _ (I.hok.fresh (Ny _))⟩
 rcases hq with hq|hq
 ·obtain⟨a,f,v,g⟩:=I.list hq;let i:=f.length;obtain⟨o,x,y,n,t⟩:=v.isList
  show call_list_seq p (.inl rfl) x y t (λc d j e=>k a f g c d j e) (by simp only[Nz]<;>lia)
 ·obtain⟨a,f,v,g⟩:=I.tuple hq;let i:=f.length;obtain⟨o,x,y,n,t⟩:=v
  show call_list_seq p (.inr rfl) x y t (λc d j e=>k a f g c d j e) (by simp only[Nz]<;>lia)
theorem lG:gO X (.type "tuple") (λxs H Q=>∃p ys,xs=[.ref p]/\((SqL X.K H p ys/\∀l,H l=QI->Q (.ref l) (upd H l (.tup ys)))\/(SqT X.K H p ys/\Q (.ref p) H))):=by
 intro a s Y H xs v Q I r h;obtain⟨p,ys,rfl,h⟩:=h;obtain⟨u,rfl,m⟩:=kj r;cases m;rcases h with⟨hq,q⟩|⟨hq,q⟩
 ·obtain⟨c,f,g,i⟩:=I.list hq;let j:=f.length
  show call_tuple_list g.isList (λd t=>?_) (by simp only[Nz]<;>lia)
  let k:Inv X a Y H { s with heap:=d }:=I.kept (t':=s.toks) t
  let n:Inv X a Y (upd H d.objs.size (.tup ys)) { s with heap:=d.push { cls:=.type "tuple",data:=.seq c.toArray } }:=
   k.laid (t':=s.toks) (λb o e=>Nw _ e) (Ny _) (show ObjOk X.prog X.w _ _ _ (.tup ys) from⟨i,c,f,IsTup.new _ _⟩)
  show⟨.ref d.objs.size,_,n,rfl,q _ (k.hok.fresh (Ny _))⟩
 ·obtain⟨c,f,g,i⟩:=I.tuple hq;show call_tuple_same g ⟨.ref p,H,I,rfl,q⟩
def JW(K:Np)(T:String)(x:V)(H:Hp):Prop:=match x with
 |.ref p=>(T="list"/\∃xs,SqL K H p xs)\/(T="dict"/\∃q,H p=QH (.dK q))
 |_=>False
theorem xh{s:QP}{T:String}(I:Inv X pins Y H s)(r:RelV x v)(ty:JW X.K T x H) :
  s.TypeIs v T/\∀a,v=.ref a->∃b,s.heap.get? a=QH b/\b.dict=QI:=by
 cases x with
 |ref p=>
  cases r;rcases ty with⟨rfl,j,hq⟩|⟨rfl,g,hk⟩
  ·obtain⟨i,_,f,_⟩:=I.list hq;show⟨f.isList.typeIs,λa e=>?_⟩;cases e;obtain⟨o,n,e,c,h,_⟩:=f;show⟨o,e,h⟩
  ·obtain⟨_,_,_,_,o,_,_,e,d,_⟩:=I.hok p _ hk;show⟨⟨o,e,d.1⟩,λa e2=>?_⟩;cases e2;show⟨o,e,d.2.1⟩
 |_=>show False.elim ty
def Hx(K:Np)(T:String)(r:V->List V->Hp->VK->Prop)(to:TE):TE:=λY H Q=>to Y H λx H1=>JW K T x H1/\r x [] H1 Q
def Na(K:Np)(T:String)(r:V->List V->Hp->VK->Prop)(to:TE)(t:TA):TE:=λY H Q=>to Y H λx H1=>JW K T x H1/\t Y H1 λxs H2=>r x xs H2 Q
variable {o e:QN} {es:List QN} {to:TE} {t:TA} {name:Str} {apos cpos:Pos} {T id:String} {r:V->List V->Hp->VK->Prop}
theorem qU(f:PlainAttrs T)(b:Slot T name id)(c:typeOf (.builtin id)=pure (.type "method_descriptor"))(k:GD X id r)(l:PE X o to)
  (hbase:attributeBase o name X.env (eval o X.env)=eval o X.env:=by rfl) (hline:(apos.endLine==cpos.line)=QJ:=by rfl):PE X (.Call (.Attribute o name apos) [] [] cpos) (Hx X.K T r to):=by
 intro a s Y H Q I h;show wpAny_Call_method0_late hbase hline (aV (l a s Y H _ I h) λv s1 ⟨x,n,e,d,j,i⟩=>?_);obtain⟨m,g⟩:=xh e d j;show⟨T,id,f,b,c,m,g,Calls.callWith_builtin rfl (PySem.evalArgs_none (k a s1 Y n x [] v [] Q e d .nil i))⟩
theorem Cr(j:PlainAttrs T)(b:Slot T name id)(c:typeOf (.builtin id)=pure (.type "method_descriptor"))(q:GD X id r)(u:PE X o to)(p:PA X (e::es) t)
  (hbase:attributeBase o name X.env (eval o X.env)=eval o X.env:=by rfl)
  (hfew:((backTo cpos (QU (e::es) X.env)).all (λx=>!x.1)&&(backToKw cpos (keywordEach [] X.env)).all (λx=>x.1.isSome)
   && decide ((e::es).length+([]:List Keyword).length+(if([]:List Keyword).isEmpty then 0 else 1)<30))=QJ:=by rfl)
  (hline:(apos.endLine==cpos.line)=QJ:=by rfl) (hs:QU (e::es) X.env=(QL,eval e X.env)::QU es X.env:=by rfl) (hplain:(backTo cpos (QU es X.env)).any (·.1)=QL:=by rfl) :
  PE X (.Call (.Attribute o name apos) (e::es) [] cpos) (Na X.K T r to t):=by
 intro a s Y H Q I h;show wpAny_Call_method_late hbase hfew hline rfl (aV (u a s Y H _ I h) λv s1 ⟨x,A,f,d,m,l⟩=>?_);obtain⟨y,n⟩:=xh f d m;show⟨T,id,j,b,c,y,n,?_⟩;let g:=p cpos a s1 Y A _ f l;rw[hs] at g⊢
 show Calls.callWith_builtin (by change(QL||(backTo cpos (QU es X.env)).any (·.1))=QL;rw[hplain]<;>rfl) (Calls.evalArgs_plain ?_)
 show aV g λi s2 ⟨z,w,B,C,k⟩=>q a s2 Y w x z v i Q B d C k
/- xs.append(e),list.index on a module's tuple .. are GD facts of 06m -/
end
def Hy(X:Cx)(id:String)(r:V->List V->Hp->VK->Prop):Prop:=
 ∀(pins:List (QO×Obj)) (s:QP) (Y:St) (H:Hp) (x:V) (xs:List V) (v:QK) (us:List QK) (Q:VK),Inv X pins Y H s->RelV x v->Vals xs us->r x xs H Q->
  QR (QS X.prog X.w) X.A (call (.builtin id) (v::us)) (EP X pins Y Q) X.xe s
theorem Vals.one{x:V}(h:Vals [x] us):∃u,us=[u]/\RelV x u:=by
 cases h with
 |cons r t=>cases t;show⟨_,rfl,r⟩
theorem Vals.zero:∀{us:List QK},Vals [] us->us=[]
 |_,.nil=>rfl
theorem Vals.dropLast{xs:List V}{us:List QK}(h:Vals xs us):Vals xs.dropLast us.dropLast:=by
 induction h with
 |nil=>show .nil
 |cons r t a=>
  cases t with
  |nil=>show .nil
  |cons q b=>show .cons r a
theorem Vals.eraseIdx:∀{xs:List V} {us:List QK} (i:Nat),Vals xs us->Vals (xs.eraseIdx i) (us.eraseIdx i)
 |_,_,_,.nil=>.nil
 |_,_,0,.cons _ t=>t
 |_,_,i+1,.cons r t=>.cons r (Vals.eraseIdx i t)
theorem Vals.rep(h:Vals xs us):∀k:Nat,Vals (N1 k xs).flatten (N1 k us).flatten
 |0=>.nil
 |k+1=>by
  rw[Oy,Oy,Pb,Pb];show Vals.append h (Vals.rep h k)
theorem qV{α:Type}(l:List α):l.eraseIdx (l.length-1)=l.dropLast:=by
 induction l with
 |nil=>rfl
 |cons a r c=>
  cases r with
  |nil=>rfl
  |cons b r=>
   let e:(a::b::r).length-1=((b::r).length-1)+1:=by
    let f:(a::b::r).length=r.length+2:=rfl;let d:(b::r).length=r.length+1:=rfl
    lia
   rw[e,List.eraseIdx_cons_succ,c]
   all_goals rfl
theorem l5{α:Type}:∀(l:List α) (i:Nat),(l.eraseIdx i).length<=l.length
 |[],_=>Ny _
 |_::_,0=>OP _
 |_::r,i+1=>Nat.succ_le_succ (l5 r i)
theorem l6(b:List QK):∀(k:Nat) (a:List QK),
  Qd (λc d=>c++d) a.toArray (N1 k b.toArray)=(a++(N1 k b).flatten).toArray
 |0,a=>by simp
 |k+1,a=>by
  let e:a.toArray++b.toArray=(a++b).toArray:=by simp
  let e2:(a++b)++(N1 k b).flatten=a++(N1 (k+1) b).flatten:=by
   rw[Oy,Pb,Of]
  rw[<- e2,<- l6 b k (a++b),<- e,Oy,List.foldl_cons]
section
variable {X:Cx} {pins:List (QO×Obj)} {Y:St} {H:Hp} {s:QP} {l b:QO} {xs ys zs:List V}
theorem Inv.lset{a its':List QK}{f:Array QK->Array QK}{t':Nat}(I:Inv X pins Y H s)(b:H l=QH (.lst xs))(e:s.heap.get? l=QH { cls:=.type "list",data:=.seq a.toArray n })(h:f a.toArray=its'.toArray)(c:Vals ys its')(hz:ys.length<=sizeLine) :
  Inv X pins Y (upd H l (.lst ys)) { s with heap:=s.heap.update l (Obj.mapSeq f),toks:=t' }:=by
 let q:=PySem.IsL.update e f;rw[h] at q;show I.write (x:=l) (e:=l) (by rw[b];show trivial) (.inl rfl) (λi u g d=>(OV s.heap (Obj.mapSeq f) (Ne.symm g)).trans d) ⟨_,q⟩ ?_;show⟨hz,its',_,c,q⟩
theorem Inv.lnew{a:List QK}{t':Nat}(I:Inv X pins Y H s)(b:Vals ys a)(hz:ys.length<=sizeLine) :
  Inv X pins Y (upd H s.heap.objs.size (.lst ys)) { s with heap:=s.heap.push { cls:=.type "list",data:=.seq a.toArray },toks:=t' }:=
 I.laid (λ_ _ q=>Nw _ q) (Ny _) ⟨hz,a,0,b,NI _ rfl⟩
theorem Inv.fresh(I:Inv X pins Y H s):H s.heap.objs.size=QI:=I.hok.fresh (Ny _)
theorem Inv.lstM(I:Inv X pins Y H s)(b:H l=QH (.lst xs)):xs.length<=sizeLine/\∃(a:List QK) (n:Nat),Vals xs a/\xs.length=a.length/\s.heap.get? l=QH { cls:=.type "list",data:=.seq a.toArray n }:=by
 obtain⟨z,a,n,r,e⟩:=I.hok l _ b;show⟨z,a,n,r,r.length,e⟩
theorem ko{n:Nat}(h:n<=sizeLine):Builtin.List.listTooLong n=QL:=by
 unfold Builtin.List.listTooLong;show decide_eq_false (by lia)
end
section
variable {X:Cx}
def tw:V->List V->Hp->VK->Prop:=λx vs H Q=>∃l xs y,x=.ref l/\vs=[y]/\H l=QH (.lst xs)/\xs.length<sizeLine/\Q .non (upd H l (.lst (xs++[y])))
theorem l7:Hy X "list.append" tw:=by
 intro c s Y H x k v i Q I g d h;obtain⟨l,o,y,rfl,rfl,b,j,q⟩:=h;cases g;obtain⟨u,rfl,f⟩:=d.one;obtain⟨z,a,n,r,m,e⟩:=I.lstM b;show call_meets F.slot_list_append ⟨_,e,rfl⟩ F.entry_list_append (F.args_list_append_2 _ _) (PySem.list_append l a.toArray n u (by rw[Nz];lia)) ⟨e,?_⟩;show⟨.non,_,I.lset (its':=a++[u]) b e (by simp) (r.append (.cons f .nil)) ?_,rfl,q⟩;rw[NK,Pj]
 lia
def AF:V->List V->Hp->VK->Prop:=λx vs H Q=>∃l b xs zs,x=.ref l/\vs=[.ref b]/\H l=QH (.lst xs)/\H b=QH (.lst zs)/\xs.length+zs.length<=sizeLine/\Q .non (upd H l (.lst (xs++zs)))
theorem vG:Hy X "list.extend" AF:=by
 intro i s Y H x B v D Q I k j h;obtain⟨l,b,C,w,rfl,rfl,g,hBq,E,q⟩:=h;cases k;obtain⟨u,rfl,o⟩:=j.one;cases o;obtain⟨z,c,n,r,A,e⟩:=I.lstM g;obtain⟨y,a,m,p,t,e2⟩:=I.lstM hBq;let f:c.toArray.size+a.toArray.size<=sizeLine:=by rw[Nz,Nz];lia
 let d:¬(!c.toArray.isEmpty&&Builtin.List.listTooLong (c.toArray.size+a.toArray.size))=QJ:=by
  rw[ko f,Pv];show NV
 show call_meets F.slot_list_extend ⟨_,e,rfl⟩ F.entry_list_extend (F.args_list_extend_2 _ _)
  (AutoSeq1.list_extend_list_list_0 l c.toArray n b a.toArray m d (by rw[Nz];lia) (by lia)) ⟨e,e2,?_⟩
 show⟨.non,_,I.lset (its':=c++a) g e (by simp) (r.append p) ?_,rfl,q⟩;rw[NK]
 lia
def Hz:V->List V->Hp->VK->Prop:=λx vs H Q=>∃l xs y,x=.ref l/\vs=[]/\H l=QH (.lst xs)/\xs[xs.length-1]?=QH y/\Q y (upd H l (.lst xs.dropLast))
theorem Ed:Hy X "list.pop" Hz:=by
 intro f s Y H x t v p Q I m g h;obtain⟨l,w,y,rfl,rfl,d,o,q⟩:=h;cases m;let b:=g.zero;subst b;obtain⟨z,a,n,r,k,e⟩:=I.lstM d;obtain⟨u,i,j⟩:=r.get o
 let c:a.toArray[a.toArray.size-1]?=QH u:=by
  change a.toArray[a.length-1]?=QH u;rw[<- OA,<- k];show i
 show call_meets F.slot_list_pop ⟨_,e,rfl⟩ F.entry_list_pop (F.args_list_pop_1 _) (MeetsSeq.list_pop_last l a.toArray n u c (by rw[Nz];lia)) ⟨e,?_⟩;show⟨y,_,I.lset (its':=a.dropLast) d e ?_ r.dropLast ?_,j,q⟩
 ·change a.toArray.eraseIdxIfInBounds (a.toArray.size-1)=a.dropLast.toArray;rw[Nz,Pn,qV]
 ·rw[List.length_dropLast]
  lia
def xi:V->List V->Hp->VK->Prop:=λx vs H Q=>∃l xs i k y,x=.ref l/\vs=[.int i]/\H l=QH (.lst xs)/\-(2^63)<=i/\i<2^63/\seqIndex? i xs.length=QH k/\xs[k]?=QH y/\Q y (upd H l (.lst (xs.eraseIdx k)))
theorem xj:Hy X "list.pop" xi:=by
 intro d s Y H x E v D Q I A g h;obtain⟨l,C,i,k,y,rfl,rfl,c,o,f,hk,B,q⟩:=h;cases A;obtain⟨u,rfl,m⟩:=g.one;obtain⟨t,rfl⟩:=m;obtain⟨z,a,n,r,p,e⟩:=I.lstM c;obtain⟨w,j,b⟩:=r.get B;show call_meets F.slot_list_pop ⟨_,e,rfl⟩ F.entry_list_pop (F.args_list_pop_2 _ _)
  (MeetsSeq.list_pop_at l a.toArray n i t k w (fitsIndex_both o f) (by rw[Nz,<- p];show hk) (by rw[<- OA];show j) (by rw[Nz];lia)) ⟨e,?_⟩
 show⟨y,_,I.lset (its':=a.eraseIdx k) c e ?_ (r.eraseIdx k) ?_,b,q⟩
 ·change a.toArray.eraseIdxIfInBounds k=(a.eraseIdx k).toArray;rw[Pn]
 ·have:=l5 C k
  lia
def K4:R2:=λx y H Q=>∃l b xs zs,x=.ref l/\y=.ref b/\H l=QH (.lst xs)/\H b=QH (.lst zs)/\xs.length+zs.length<=sizeLine/\∀p,H p=QI->Q (.ref p) (upd H p (.lst (xs++zs)))
theorem Ee:gu X (binaryOp .Add) K4:=by
 intro d s Y H x y v u Q I k j h;obtain⟨l,b,B,o,rfl,rfl,g,hBq,t,q⟩:=h;cases k;cases j;obtain⟨z,c,n,r,A,e⟩:=I.lstM g;obtain⟨p,a,w,m,f,e2⟩:=I.lstM hBq;show PySem.P.add_list e e2 ?_ (by rw[Nz,Nz];lia);let i:c.toArray++a.toArray=(c++a).toArray:=by simp
 rw[i];show⟨.ref _,_,I.lnew (t':=s.toks) (r.append m) (by rw[NK];lia),rfl,q _ I.fresh⟩
def K5:R2:=λx y H Q=>∃l k xs,x=.ref l/\y=.int k/\H l=QH (.lst xs)/\-(2^63)<=k/\k<2^63/\xs.length*k.toNat<=sizeLine/\
 ∀p,H p=QI->Q (.ref p) (upd H p (.lst (N1 k.toNat xs).flatten))
theorem AG{α:Type}(xs:List α)(k:Nat):(N1 k xs).flatten.length=k*xs.length:=by
 induction k with
 |zero=>simp
 |succ k a=>rw[Oy,Pb,NK,a,Nat.succ_mul,Nat.add_comm]
theorem Ef:gu X (binaryOp .Mult) K5:=by
 intro p s Y H x y v u Q I E L h;obtain⟨l,k,N,rfl,rfl,A,B,D,w,q⟩:=h;cases E;obtain⟨t,rfl⟩:=L;obtain⟨z,b,n,r,C,e⟩:=I.lstM A;let f:b.toArray.size*k.toNat<=sizeLine:=by rw[Nz,<- C];show w
 let d:¬b.toArray.size*k.toNat > (2^63-1) / 8:=by
  have:(sizeLine:Nat)<=(2^63-1) / 8:=by decide
  lia
 let g:¬(!Builtin.List.listFitsIndex k)=QJ:=by
  rw[fitsIndex_both B D];show NV
 let c:¬Builtin.List.listTooLong (b.toArray.size*k.toNat)=QJ:=by
  rw[ko f];show NV
 let i:Qd (λj o=>j++o) #[] (N1 (if b.toArray.isEmpty=QJ then 0 else k.toNat) b.toArray)=(N1 k.toNat b).flatten.toArray:=by
  let M:∀m:Nat,Qd (λj o=>j++o) #[] (N1 m b.toArray)=(N1 m b).flatten.toArray:=λm=>by
   have:=l6 b m [];rw[OG] at this;show this
  rw[M]
  cases b with
  |nil=>simp
  |cons a O=>rw[if_neg (by simp)]
 show wpAny_binaryOp_repeat_ref (by decide) ⟨_,e,rfl⟩ (λK=>typeIs_int K k t) noFill_list_mul F.fills_int_mul F.slot_int_rmul repeat_list F.slot_int_index.lookup
  (call_meets F.slot_int_rmul (typeIs_int s k t) F.entry_int_rmul (F.args_int_rmul_2 _ _) (int___rmul___int_list k t l b.toArray n)
   ⟨e,rfl,⟨_,e,rfl⟩,call_meets F.slot_list_mul ⟨_,e,rfl⟩ F.entry_list_mul (F.args_list_mul_2 _ _) (AutoListH.list___mul___list_int_3 l b.toArray n k t g d c) ⟨e,?_⟩⟩)
 rw[i];show⟨.ref _,_,I.lnew (t':=s.toks) (r.rep k.toNat) (by rw[AG,Nat.mul_comm];show w),rfl,q _ I.fresh⟩
end
end L2
namespace Att
open PySem PySem.W PySem.Calls PyProof.Rows
theorem jO:∀(ns:List Int) (vs:List QK),WellAll P h vs (ns.map WData.int)->IntsAre vs ns:=by
 intro ns
 induction ns with
 |nil=>
  intro vs w;rw[Qh] at w;cases w;show .nil
 |cons n ns c=>
  intro vs w;rw[NS] at w
  cases w with
  |cons a b=>
   cases a;show .cons _ _ (c _ b)
theorem vH{l:OpenLaw}(o:l.most=QH n){h:QY}(b:l.row.toRowW.claim.pre args=QJ)(i:WellAll P h vals args) :
  ∃a m ns,vals=[Value.ref a]/\args=[WData.list (ns.map WData.int)]/\h.get? a=QH { cls:=.type "list",data:=.seq m.toArray }/\IntsAre m ns/\ns.length<=n:=by
 let j:WShape.hasAll [] args [.list .int]=QJ:=(pre_splitW b).1;let k:l.pre.holds [] { args:=args }=QJ:=(pre_splitW b).2;obtain⟨d,r,rfl,t,u⟩:=hasAllW_cons j;obtain rfl:=hasAllW_nil u;obtain⟨x,rfl,v⟩:=hasW_list t;obtain⟨ns,rfl⟩:=items_int v
 let c:ns.length<=n:=by
  unfold OpenLaw.pre at k
  let f:(WTm.not (.lt (.lit (.int (n:Int))) (.len (.arg 0)))).holds [] { args:=[.list (ns.map .int)] }=QJ:=by
   let f:=(holds_andW k).1;rw[o] at f;show f
  let g:=condW_of f (w_not (w_lt w_lit (w_len_list (w_arg rfl))));rw[Nt] at g;show Nat.le_of_not_lt λq=>?_;let s:(n:Int)<((ns.length:Nat):Int):=by lia
  first
   |(rw[decide_eq_true s] at g;show absurd g (by decide))
   |(simp at g;lia)
 cases i with
 |cons p w2=>
  cases w2
  cases p with
  |list w e=>show⟨_,_,ns,rfl,rfl,w,jO ns _ e,c⟩
theorem vI(l:OpenLaw)(args:List WData):l.row.toRowW.claim.post args (.bool QJ) args=QJ:=
 postW_of (r:=l.row.toRowW) (X:=(QJ==QJ))
  (show WShape.has [] (.bool QJ) .bool=QJ by first|rfl|decide|simp[WShape.has,WShape.arms,WShape.armsAll])
  (show(WTm.eq .res (.lit (.bool QJ))).value [] { args:=args,res:=QH (.bool QJ),after:=args }=QH (.bool (QJ==QJ)) from w_eq_bool (w_res rfl) w_lit) rfl
theorem oN{l:OpenLaw}{n:Nat}{YP:QW->QY->Prop}{d:DefRec}(F:l.most=QH n)(t:d.params.defaults=[])(i:∀(w:QW) (y b:QP) (mg p:Str->Option QK) (k:QO) (o:Obj) (u m e:QK) (a:QO) (vs:List QK) (ns:List Int),
   Ground q loose [] XP w y mg p b.heap->YP w b.heap->
   b.heap.get? k=QH o->o.data=.func (docDef d.name d.params d.body d.scope u m e)->b.heap.CodeRec m d.name->mg d.name=QH (.ref k)->
   b.heap.get? a=QH { cls:=.type "list",data:=.seq vs.toArray }->IntsAre vs ns->ns.length<=n->b.gens=#[]->
   codeAny (QS l.prog w) callerA (.call (.ref k) ⟨[.ref a],[]⟩) (λr s'=>r=.ok (.ret (.bool QJ))/\OldK b.heap s'.heap/\s'.os=b.os/\AllBare s'.gens) b) :
  WalkO q loose XP YP l.row.toRowW d [] (λf vs=>PySem.call f vs):=by
 intro w y b mg p G P k o u m e H kV O D v hD x E B A Q j z L s I;obtain rfl:H=.none:=Dflts.none hD t;obtain rfl:kV=.none:=Dflts.noKw hD;obtain⟨a,vs,ns,rfl,rfl,h,c,g⟩:=vH F j s;show enter_call (codeAny_mono (i w y b mg p k o u m e a vs ns G P O (fd_plain D) v x h c g E) λr s' hq=>?_);obtain⟨rfl,K,M,C⟩:=hq
 show⟨.inl ⟨.bool QJ,.bool QJ,[],rfl,λ_=>rfl,.bool QJ,vI l _,λ_=>⟨List.Pairwise.nil,λ_ N=>(nomatch N)⟩⟩,K,M,C⟩
end Att
namespace L2
open PyProof.Rows
theorem l8:∀{vs:List QK} {ns:List Int},IntsAre vs ns->Vals (ns.map V.int) vs
 |_,_,.nil=>.nil
 |_,_,.cons n t h=>.cons ⟨t,rfl⟩ (l8 h)
def Eg(H:Hp):Prop:=∀b,H b=QI\/∃o xs,H b=QH (.frz o (.lst xs))
theorem xk{K:Np}{mg L:Str->Option QK}{x:Str}{c:QP}{vs:List QK}{ns:List Int}(X:K.In c.heap)(hns:c.heap.Ns QZ mg)(g:c.heap.Ns builtinsNs L)(M:∀x:Str,x≠"__name__"->L x=bootBuiltins x)(l:c.heap.NoLimit)(hg:c.gens=#[])(I:c.heap.get? a=QH { cls:=.type "list",data:=.seq vs.toArray })(hi:IntsAre vs ns)(U:ns.length<=sizeLine)(hr:Room k callerA)(F:∀base:QY,K.In base->base.Ns QZ mg->FnOk P w K mg base CX k fa fd [x] sp)(j:∀(s:QP) (u:QK),BindsTo s fd ⟨[u],[]⟩ [(x,u)])(Q:∀H:Hp,Eg H->SqL K H a (ns.map V.int)->sp [.ref a] H (λv _=>v=.bl QJ) λ_ _ _=>False)(O:∀H e s',CX [] H c (λ_ _ _=>False) e s'->False) :
  codeAny (QS P w) callerA (.call (.ref fa) ⟨[.ref a],[]⟩) (λr s'=>r=.ok (.ret (.bool QJ))/\OldK c.heap s'.heap/\s'.os=c.os/\AllBare s'.gens) c:=by
 let W:=l8 hi;let y:=hi.length
 -- from an abstract heap in which nothing but the script may be tracked
 let i:∀H:Hp,Eg H->SqL K H a (ns.map V.int)->HOk P w H c.heap->(∀b,H b≠QI->b=a)->(H a≠QI->K.lookup a=QI)->
   codeAny (QS P w) callerA (.call (.ref fa) ⟨[.ref a],[]⟩) (λr s'=>r=.ok (.ret (.bool QJ))/\OldK c.heap s'.heap/\s'.os=c.os/\AllBare s'.gens) c:=by
  intro H Y Z A T hK;let f:∀{b:QO} {o:Obj},c.heap.get? b=QH o->H b=QI->(mX c.heap H).get? b=QH o:=λe n=>wM e n
  let R:∀{b:QO} {o:Obj} {C:Array DictEntry} {B:Nat},c.heap.get? b=QH o->o.data=.dict C B->H b=QI:=λ{b o C B} e d=>by
   cases q:H b with
   |none=>rfl
   |some u=>
    let N:b=a:=T b (by rw[q];simp);subst N;rw[I] at e;cases e;let d':Data.seq vs.toArray _=Data.dict C B:=d;cases d'
  let wD:∀{b:QO} {m:Str->Option QK},c.heap.Ns b m->(mX c.heap H).Ns b m:=λ{b m} ⟨o,C,B,e,d,r⟩=>⟨o,C,B,f e (R e d),d,r⟩
  let t:K.In (mX c.heap H):=λb o e=>f (X b o e) (by
   cases q:H b with
   |none=>rfl
   |some u=>
    let N:b=a:=T b (by rw[q];simp);subst N;rw[hK (by rw[q];simp)] at e;cases e)
  let hM:Mod K mg (mX c.heap H):=⟨t,wD hns,⟨L,wD g,M⟩,let ⟨mc,h1,h2⟩:=l;⟨mc,wD h1,h2⟩⟩;let e0:Env0 P w K mg (mX c.heap H) callerA [] c H:=⟨rfl,hM,λb o e=>Ag e,Nat.le_of_eq (vn _ _),trivial,λb g=>absurd (show b∈([]:List QO) from g) (by simp),A,.of_eq hg⟩;show codeAny_mono ((F _ t (wD hns)).run callerA [] c H ⟨[.ref a],[]⟩ [.ref a] [.ref a] _ _ hr e0 (j c (.ref a)) (.cons rfl .nil) (Q H Y Z)) λr s' h=>?_
  cases r with
  |error e=>show(O H e s' h).elim
  |ok fl=>
   cases fl with
   |next=>show False.elim h
   |brk=>show False.elim h
   |cont=>show False.elim h
   |ret u=>
    obtain⟨v,H',os,p,S,D,r',q⟩:=h;let q':v=.bl QJ:=q;subst q';obtain rfl:u=Value.bool QJ:=r';show⟨rfl,OldK.of_keep λb o e=>?_,os,p⟩
    cases q:H b with
    |none=>show S.keep b o e q (by intro z;show absurd (show b∈([]:List QO) from z) (by simp)) (by simp)
    |some u=>
     rcases Y b with z|⟨ob,xs,z⟩
     ·rw[q] at z;cases z
     ·let z2:=S.frzs b ob _ z;obtain⟨e1,_⟩:=A b _ z;obtain⟨e2,_⟩:=D b _ z2;rw[e] at e1;cases e1;show e2
 cases hk:K.lookup a with
 |some o=>
  -- the script is one of the module's own objects
  let e:=X a o hk;rw[I] at e;cases e;show i (λ_=>QI) (λ_=>.inl rfl) (.inr ⟨_,vs.toArray,_,hk,rfl,rfl,rfl,by rw[Nz,y];show U,by simpa using W⟩) (λb u z=>by let E:(QI:Option HO)=QH u:=z;cases E) (λb z=>absurd rfl z) λz=>absurd rfl z
 |none=>
  show i (λb=>if b=a then QH (.frz { cls:=.type "list",data:=.seq vs.toArray } (.lst (ns.map V.int))) else QI) (λb=>?_) (.inl (.inr ⟨{ cls:=.type "list",data:=.seq vs.toArray },if_pos rfl⟩)) (λb u z=>?_) (λb z=>?_) λ_=>hk
  ·by_cases g:b=a
   ·show .inr ⟨_,_,if_pos g⟩
   ·show .inl (if_neg g)
  ·by_cases g:b=a
   ·let E:=(if_pos g).symm.trans z;cases E;subst g;show⟨I,by rw[Nt];show U,vs,_,W,I⟩
   ·let E:=(if_neg g).symm.trans z;cases E
  ·by_cases g:b=a
   ·show g
   ·show absurd (if_neg g) z
theorem AH{l:PySem.W.OpenLaw}{n k:Nat}{YP:QW->QY->Prop}{d:DefRec}{K:Params->Np}{CX:QW->vD}{sp:QW->Sp}{x:Str}(I:l.most=QH n)(r:n<=sizeLine)(t:d.params.defaults=[])(M:Room k callerA)(p:∀(w:QW) (h:QY),YP w h->(K w.params).In h)(F:∀(w:QW) (mg:Str->Option QK) (m:QO) (h:QY),(K w.params).In h->h.Ns QZ mg->mg d.name=QH (.ref m)->
   ∃fd:Q3,(∀(s:QP) (u:QK),BindsTo s fd ⟨[u],[]⟩ [(x,u)])/\
    ∀base:QY,(K w.params).In base->base.Ns QZ mg->FnOk l.prog w (K w.params) mg base (CX w) k m fd [x] (sp w))(A:∀(w:QW) (H:Hp) (a:QO) (ns:List Int),ns.length<=n->Eg H->SqL (K w.params) H a (ns.map V.int)->sp w [.ref a] H (λv _=>v=.bl QJ) λ_ _ _=>False)(y:∀(w:QW) (H:Hp) (s:QP) (e:QK) (s':QP),CX w [] H s (λ_ _ _=>False) e s'->False) :
  PySem.W.WalkO q loose XP YP l.row.toRowW d [] (λf C=>PySem.call f C):=by
 show Att.oN I t λw s₀ R mg X m o Z Y L a C ns G P ho U N z j i c E=>?_;let B:=p w _ P;obtain⟨fd,Q,O⟩:=F w mg m _ B G.T.g z;show xk B G.T.g G.T.b G.T.builtins G.T.nolimit E j i (NT c r) M O Q (λH S D=>A w H a ns c S D) λH e s'=>y w H R e s'
noncomputable def bZ(s:QV):Arguments:=match s with
 |.FunctionDef _ a _ _ _ _ _ _ _ _=>a
 |_=>{ posonlyargs:=[],args:=[],vararg:=QI,kwonlyargs:=[],kw_defaults:=[],kwarg:=QI,defaults:=[] }
noncomputable def aB(s:QV):List QV:=match s with
 |.FunctionDef _ _ b _ _ _ _ _ _ _=>b
 |_=>[]
noncomputable def ab(s:QV):Q0:=match s with
 |.FunctionDef _ _ _ _ _ _ sc _ _ _=>sc
 |_=>{ kind:=.function,names:=[],isGenerator:=QL,isCoroutine:=QL }
abbrev iO:vD:=λ_ _ _ _ _ _=>False
abbrev E0:XK:=λ_ _ _=>False
theorem oO:iN iO X E0:=λ_ _ _ _ _ _ _ h=>h.elim
structure Fun(K:Np)(x qual:Str)(st:Stmt)(f:Addr)(fd:FuncData):Prop where
 ex:∃(oc:QK) (od:Option QO) (kV doc pm:QK) (an:Option QO) (cdv ct:QK) (osl:Array (Option QK)),
  fd=Oq x qual (bZ st) (aB st) (ab st) .none kV doc pm an cdv ct/\K.lookup f=QH ⟨oc,od,.func fd,osl⟩/\O9 K cdv qual=QJ
 kp:Om K (.ref f)=QJ
section
variable {P:QT} {w:QW} {K:Np} {mg:Str->Option QK} {base:QY}
theorem Fun.ok{x qual:Str}{st:QV}{f:QO}{fd:Q3}{N ps:List Str}{k:Nat}{sp:Sp}(F:Fun K x qual st f fd)(S:aY N ps (ab st))(e:∀vs H Q E,sp vs H Q E->vs.length=ps.length)
  (hbody:∀(b:QK) (A:QX) (a:List Env) (s:QP) (H:Hp) (vs:List V) (Q:VK) (E:XK),Room k (A.deeper (envOfC qual (ab st) s.heap.objs.size f b))->sp vs H Q E->
   ∃t,PSs (lE iO P w K mg base N qual (ab st) f b A a s H E).nox (aB st) t/\t { nx:=λ_ m=>Q .non m,rt:=Q } (bO N vs) H):FnOk P w K mg base iO (k+1) f fd ps sp:=by
 obtain⟨o,p,kV,i,r,an,b,n,j,rfl,g,c⟩:=F.ex;show Hr g c S e λA a s H vs Q E l d=>?_;obtain⟨t,h,q⟩:=hbody b A a s H vs Q E l d;show⟨t,h.nox,q⟩
theorem Fun.binds{x qual:Str}{st:QV}{f:QO}{fd:Q3}{ps:List Str}(F:Fun K x qual st f fd)
  (h:∀(kV a d:QK) (an:Option QO) (b e:QK) (c:List QK),c.length=ps.length->bindArgs (Oq x qual (bZ st) (aB st) (ab st) .none kV a d an b e) ⟨c,[]⟩=pure (ps.zip c)):Binds K fd ps []:=by
 obtain⟨l,j,kV,a,d,an,b,e,i,rfl,k,g⟩:=F.ex;show .all (h kV a d an b e)
theorem kq{x qual:Str}{st:QV}{f:QO}{i:QK}{h an:Option QO}{d:Array (Option QK)}{kV b e a g:QK}(l:K.lookup f=QH ⟨i,h,.func (Oq x qual (bZ st) (aB st) (ab st) .none kV b e an a g),d⟩)
  (c:O9 K a qual=QJ) (k:Om K (.ref f)=QJ):Fun K x qual st f (Oq x qual (bZ st) (aB st) (ab st) .none kV b e an a g):=⟨⟨i,h,kV,b,e,an,a,g,d,rfl,l,c⟩,k⟩
end
theorem vJ{A a:Prop}(h:a):if QL=QJ then A else a:=by
 rw[if_neg NV];show h
theorem vK{A a:Prop}(h:A):if QJ=QJ then A else a:=by
 rw[if_pos rfl];show h
def Same(H H':Hp):Prop:=∀b o,H b=QH o->H' b=QH o
theorem Same.refl(H:Hp):Same H H:=λ_ _ h=>h
theorem Same.trans(a:Same H H1)(b:Same H1 H2):Same H H2:=λc o h=>b c o (a c o h)
theorem Same.free{H H':Hp}(e:Same H H')(h:H' l=Option.none):H l=Option.none:=by
 cases q:H l with
 |none=>rfl
 |some o=>
  rw[e l o q] at h;cases h
end L2
namespace HT
open PyProof.Rows
section
variable {prog:QT} {w:QW} {A:QX} {E:QK->QP->Prop} {s:QP}
theorem gR{t e:QO}{a:Array QK}{i f:QK}{lo hi:Option Int}{Q:QK->QP->Prop}(b:IsTup s.heap t a)(g:s.heap.IsSliceOf e i f .none)(pl:IsPart i lo)(k:IsPart f hi)
  (h0:bY a.size 0 lo=0) (h1:bY a.size a.size hi=a.size) (h:Q (.ref t) s):QR (QS prog w) A (getItem (.ref t) (.ref e)) Q E s:=by
 obtain⟨n,d,c,l⟩:=id g;let j:s.TypeIs (.ref e) "slice":=⟨n,d,c⟩;unfold getItem
 try with_reducible show Q7 ?_
 first|show QM (QQ ?_)|skip
 show QM (wpAny_sequenceKey b.typeIs (by decide) ?_);show QM (wpAny_callSpecial?_slot (name:=Str.ofString "__getitem__") b.typeIs PyProof.Rows.slot_tuple_getitem (Ra PyProof.Rows.slot_tuple_getitem b.typeIs entry_tuple_getitem ?_ (args_tuple_getitem _ _)));change QR _ _ (Builtin.Tuple.tupleItemsOf (.ref t) >>= _) _ _ s;show QM (tupleItemsOf_ b ?_);show QM (wpAny_typeOf j ?_);rw[if_pos (by decide)];show QM (dW g pl k ?_);rw[h0,h1]
 change QR _ _ (if((((0:Nat):Int))==0&&(1:Int)==1&&(a.size-0)==a.size)=QJ then _ else _) _ _ s
 rw[if_pos (by simp)];show QM (m:=Builtin.Tuple.tupleIsExact _) ?_;unfold Builtin.Tuple.tupleIsExact;show QM (wpAny_typeOf b.typeIs (QQ ?_));rw[if_pos (by decide)]
 first
  |show QM (wpAny_rule (QQ ⟨_,rfl,QQ h⟩))
  |show QQ ⟨_,rfl,QQ h⟩
  |show QM (QQ (QQ ⟨_,rfl,QQ h⟩))
end
end HT
namespace L2
open PyProof.Rows
section
variable {X:Cx}
theorem AI:SlR X (λx lo hi H Q=>∃a xs,x=.ref a/\SqT X.K H a xs/\HT.bY xs.length 0 lo=0/\HT.bY xs.length xs.length hi=xs.length/\Q (.ref a) H):=by
 intro e s Y H x v t n lo hi p Q I l g m f h;obtain⟨a,xs,rfl,j,k,i,q⟩:=h;cases l;obtain⟨b,r,c,o⟩:=I.tuple j;let d:b.toArray.size=xs.length:=by rw[Nz];show r.length.symm
 show⟨"tuple",_,PyProof.Rows.slot_tuple_getitem.lookup,c.typeIs,HT.gR c g m f (by rw[d];show k) (by rw[d];show i) ⟨.ref a,H,I,rfl,q⟩⟩
end
section
variable {κ:Type} [DecidableEq κ]
noncomputable def gT(q:List (κ×V))(k:κ):Option V:=(q.find? λB=>decide (B.1=k)).map (·.2)
noncomputable def cw(q:List (κ×V))(k:κ)(v:V):List (κ×V):=
 if(q.any λB=>decide (B.1=k))=QJ then q.map (λB=>if B.1=k then(B.1,v) else B) else q++[(k,v)]
theorem kr{p:κ×V}(e:p.1=k):gT (p::r) k=QH p.2:=by simp[gT,OH,e]
theorem ku{p:κ×V}(e:¬p.1=k):gT (p::r) k=gT r k:=by simp[gT,OH,e]
theorem oP(k:κ):∀a:List (κ×V),(a.any λb=>decide (b.1=k))=(gT a k).isSome
 |[]=>rfl
 |p::r=>by
  rw[PJ];by_cases e:p.1=k
  ·simp only[kr e,decide_eq_true e,Bool.true_or,Qi]
  ·rw[ku e,decide_eq_false e,Bool.false_or];show oP k r
theorem dA(a:List (κ×V))(k:κ)(v:V):(cw a k v).length<=a.length+1:=by
 unfold cw;split
 ·rw[Nt];lia
 ·rw[NK,N3,QE];lia
theorem RelO.isSome_eq{o:Option V}{u:Option QK}(r:RelO o u):o.isSome=u.isSome:=by
 cases o with
 |none=>cases u with
  |none=>rfl
  |some _=>show(show False from r).elim
 |some _=>cases u with
  |none=>show(show False from r).elim
  |some _=>rfl
theorem KV.val(r:KV kvs vs)(k:κ):RelO (gT kvs k) (valueAt vs k):=by
 unfold KV at r
 induction r with
 |nil=>show True.intro
 |@cons p q i a h t g=>
  obtain⟨d,f⟩:=h;by_cases e:p.1=k
  ·let c:q.1=k:=d.symm.trans e;let b:valueAt (q::a) k=QH q.2:=by simp[valueAt,OH,c]
   rw[kr e,b];show f
  ·let c:¬q.1=k:=λz=>e (d.trans z);let b:valueAt (q::a) k=valueAt a k:=by simp[valueAt,OH,c]
   rw[ku e,b];show g
theorem KV.any{a:List (κ×V)}{vs:List (κ×QK)}(r:KV a vs)(k:κ):(a.any λb=>decide (b.1=k))=vs.any λb=>decide (b.1=k):=by
 unfold KV at r
 induction r with
 |nil=>rfl
 |cons h t c=>rw[PJ,PJ,c,h.1]
theorem KV.repl{b:List (κ×V)}{vs:List (κ×QK)}(r:KV b vs)(k:κ)(d:RelV y u) :
  KV (b.map λa=>if a.1=k then(a.1,y) else a) (vs.map λa=>if a.1=k then(a.1,u) else a):=by
 unfold KV at r⊢
 induction r with
 |nil=>show .nil
 |@cons p q j i h t g=>
  rw[NS,NS];show .cons ?_ g;obtain⟨c,f⟩:=h;by_cases e:p.1=k
  ·rw[if_pos e,if_pos (c.symm.trans e)];show⟨c,d⟩
  ·rw[if_neg e,if_neg (λz=>e (c.trans z))];show⟨c,f⟩
theorem KV.put(r:KV kvs vs)(k:κ)(a:RelV y u):KV (cw kvs k y) (stored vs k u):=by
 unfold cw stored;rw[r.any k];by_cases e:(vs.any λb=>decide (b.1=k))=QJ
 ·rw[if_pos e,if_pos e];show r.repl k a
 ·rw[if_neg e,if_neg e];show Paired.snoc r ⟨rfl,a⟩
theorem KV.length{a:List (κ×V)}{vs:List (κ×QK)}(r:KV a vs):a.length=vs.length:=Paired.length r
end
theorem kA(r:RelV (kV k) u):(aH P w).is k u=QJ:=by
 cases k with
 |inl i=>obtain⟨t,e⟩:=(show ∃t,u=Value.int i t from r);subst e;show oz P w i t
 |inr x=>obtain⟨t,e⟩:=(show ∃t,u=Value.str x t from r);subst e;show oA P w x t
theorem l9:∀{ks:List aN} {us:List QK},Vals (ks.map kV) us->ItemsAre (aH P w) ks us
 |[],_,r=>by rw[Qh] at r;cases r;show .nil
 |k::ks,_,r=>by
  rw[NS] at r
  cases r with
  |cons h t=>show .cons (kA h) (l9 t)
abbrev KT(m:Nat)(H:Hp):List (List (aN ⊕ List aN)×V)->List (List (aN ⊕ List aN)×QO×QK)->Prop:=Paired λp q=>p.1=q.1/\TkAt H m p.1 q.2.1/\RelV p.2 q.2.2
theorem KT.val(r:KT m H kvs xs)(k:List (aN ⊕ List aN)):RelO (gT kvs k) ((atKey xs k).map (·.2)):=by
 induction r with
 |nil=>show True.intro
 |@cons p q i a h t g=>
  obtain⟨d,_,f⟩:=h;by_cases e:p.1=k
  ·let c:q.1=k:=d.symm.trans e;let b:atKey (q::a) k=QH q.2:=by simp[atKey,OH,c]
   rw[kr e,b];show f
  ·let c:¬q.1=k:=λz=>e (d.trans z);let b:atKey (q::a) k=atKey a k:=by simp[atKey,OH,c]
   rw[ku e,b];show g
theorem KT.repl{a:List (List (aN ⊕ List aN)×V)}{xs:List (List (aN ⊕ List aN)×QO×QK)}(r:KT m H a xs)(k:List (aN ⊕ List aN))(f:RelV y u) :
  KT m H (a.map λc=>if c.1=k then(c.1,y) else c) (xs.map (putAt k u)):=by
 induction r with
 |nil=>show .nil
 |@cons p q l j h t g=>
  rw[NS,NS];show .cons ?_ g;obtain⟨b,d,i⟩:=h;unfold putAt;by_cases e:p.1=k
  ·rw[if_pos e,if_pos (b.symm.trans e)];show⟨b,d,f⟩
  ·rw[if_neg e,if_neg (λz=>e (b.trans z))];show⟨b,d,i⟩
theorem KT.put{m:Nat}{H:Hp}{a:List (List (aN ⊕ List aN)×V)}{xs:List (List (aN ⊕ List aN)×QO×QK)}(r:KT m H a xs)(k:List (aN ⊕ List aN)){b:QO}{y:V}{u:QK}(d:TkAt H m k b)(c:RelV y u) :
  KT m H (cw a k y) (storedH xs k b u):=by
 let e:(a.any λf=>decide (f.1=k))=(atKey xs k).isSome:=by
  rw[oP,(r.val k).isSome_eq,Pc]
 unfold cw storedH;rw[e];by_cases q:(atKey xs k).isSome=QJ
 ·rw[if_pos q,if_pos q];show r.repl k c
 ·rw[if_neg q,if_neg q];show Paired.snoc r ⟨rfl,d,c⟩
theorem KT.keeps{H H':Hp}(r:KT m H kvs xs)(a:∀b ys,H b=QH (.tup ys)->H' b=QH (.tup ys)):KT m H' kvs xs:=
 Paired.mapP r λ_ _ z=>⟨z.1,z.2.1.keep a,z.2.2⟩
section
variable {P:QT} {w:QW} {H:Hp} {h:QY} {a:QO}
theorem Cs(b:HOk P w H h)(e:Rd H a u):ObjOk P w H h a u:=e.ok b
theorem oQ{b:List (aN×V)}(c:HOk P w H h)(e:Rd H a (.dK b)):b.length<=sizeLine/\(a==sysModules)=QL/\∃vs,KV b vs/\h.DictOf (aH P w) a vs:=
 show ObjOk P w H h a (.dK b) from Cs c e
theorem ma{b:List (aN×V)}(c:HOk P w H h)(e:H a=QH (.dK b)):b.length<=sizeLine/\(a==sysModules)=QL/\∃vs,KV b vs/\h.DictOf (aH P w) a vs:=oQ c (.inl e)
theorem Eh{ks:List aN}(f:HOk P w H h)(e:H a=QH (.tup (ks.map kV))):(tupleKind (aH P w)).is h ks a:=by
 obtain⟨_,b,r,o,d,c,n,g⟩:=(show ObjOk P w H h a (.tup (ks.map kV)) from f a _ e);show⟨o,b.toArray,n,d,c,g,by simpa using l9 r⟩
theorem fD{A:QX}(a:A.units+9<cLine):(bH m (aH P w)).room A.in1:=by
 change A.units+1+8<cLine
 lia
theorem kB:∀{m:Nat} {ks:List (aN ⊕ List aN)} {vs:List V} {us:List QK},HOk P w H h->TkIts H m ks vs->Vals vs us->Its2 (aH P w) h m ks us
 |_,[],_,_,ok,r,v=>by cases(show _=[] from r);cases v;show .nil
 |m,.inl k::xs,_,_,ok,r,v=>by
  obtain⟨d,rfl,z,t⟩:=r
  cases v with
  |cons c a=>show .key z (kA c) (kB ok t a)
 |m,.inr ks::xs,_,_,ok,r,v=>by
  obtain⟨b,d,rfl,z,g,t⟩:=r
  cases v with
  |@cons _ u _ _ c a=>
   cases(show u=Value.ref b from c);show .tup z (Eh ok g) (kB ok t a)
theorem eE(c:HOk P w H h)(e:TkAt H m ks a):(bH m (aH P w)).is h ks a:=by
 obtain⟨j,g,r⟩:=e;obtain⟨_,b,q,o,f,d,n,i⟩:=(show ObjOk P w H h a (.tup j) from c a _ g);show⟨o,b.toArray,n,f,d,i,by simpa using kB c r q⟩
theorem oR{b:List (List (aN ⊕ List aN)×V)}(g:HOk P w H h)(e:Rd H a (.dT m ep b)):b.length<=sizeLine/\(a==sysModules)=QL/\
  ∃d,KT m H b d/\h.DictOfH (bH m (aH P w)) a d:=by
 obtain⟨z,y,d,r,o,j,A,i,k,s,u⟩:=(show ObjOk P w H h a (.dT m ep b) from Cs g e);show⟨z,y,d,r,o,j,ep,A,i,k,s,λx c=>?_,u⟩
 let f:∀{l:List (List (aN ⊕ List aN)×V)} {n:List (List (aN ⊕ List aN)×QO×QK)},KT m H l n->∀x∈n,(bH m (aH P w)).is h x.1 x.2.1:=by
  intro l n q
  induction q with
  |nil=>intro x c;show nomatch c
  |@cons p q C B hq t v=>
   intro x c;rcases NB.mp c with e|c
   ·subst e;show eE g (by rw[<- hq.1];show hq.2.1)
   ·show v x c
 show f r x c
theorem xl(b:HOk P w H h)(e:H a=QH (.dT m ep kvs)):(a==sysModules)=QL/\∃xs o es,KT m H kvs xs/\h.get? a=QH o/\o.ExactDict/\o.data=.dict es ep/\es.toList=xs.map (entryOfKey (bH m (aH P w))):=
 let ⟨_,y,xs,r,o,es,h1,h2,h3,h4,_⟩:=(show ObjOk P w H h a (.dT m ep kvs) from b a _ e)
 ⟨y,xs,o,es,r,h1,h2,h3,h4⟩
theorem xm{b:List (List (aN ⊕ List aN)×V)}(d:HOk P w H h)(e:H a=QH (.dT m ep b)):b.length<=sizeLine/\(a==sysModules)=QL/\
  ∃c,KT m H b c/\h.DictOfH (bH m (aH P w)) a c:=oR d (.inl e)
end
def DGet(H:Hp)(a:QO)(y:V)(r:Option V):Prop:=
 (∃q k,Rd H a (.dK q)/\y=kV k/\r=gT q k)\/∃m ep q k b,Rd H a (.dT m ep q)/\y=.ref b/\TkAt H m k b/\r=gT q k
def DPut(H:Hp)(a:QO)(y v:V)(F:Nat->Hp):Prop:=
 (∃q k,H a=QH (.dK q)/\y=kV k/\q.length<sizeLine/\F=λ_=>upd H a (.dK (cw q k v)))\/
 ∃m ep q k b,H a=QH (.dT m ep q)/\y=.ref b/\TkAt H m k b/\q.length<sizeLine/\F=λe=>upd H a (.dT m e (cw q k v))
theorem DGet.k{H:Hp}{a:QO}{b:List (aN×V)}{k:aN}(e:H a=QH (.dK b)):DGet H a (kV k) (gT b k):=.inl ⟨b,k,.inl e,rfl,rfl⟩
theorem DGet.t{H:Hp}{a b:QO}{m ep:Nat}{c:List (List (aN ⊕ List aN)×V)}{k:List (aN ⊕ List aN)}(e:H a=QH (.dT m ep c))(d:TkAt H m k b):DGet H a (.ref b) (gT c k):=.inr ⟨m,ep,c,k,b,.inl e,rfl,d,rfl⟩
theorem DPut.k{H:Hp}{a:QO}{b:List (aN×V)}{k:aN}{v:V}(e:H a=QH (.dK b))(c:b.length<sizeLine):DPut H a (kV k) v λ_=>upd H a (.dK (cw b k v)):=.inl ⟨b,k,e,rfl,c,rfl⟩
theorem DPut.t{H:Hp}{a b:QO}{m ep:Nat}{c:List (List (aN ⊕ List aN)×V)}{k:List (aN ⊕ List aN)}{v:V}(e:H a=QH (.dT m ep c))(f:TkAt H m k b)(d:c.length<sizeLine) :
  DPut H a (.ref b) v λe=>upd H a (.dT m e (cw c k v)):=.inr ⟨m,ep,c,k,b,e,rfl,f,d,rfl⟩
section
variable {X:Cx} {pins:List (QO×Obj)} {Y:St} {H:Hp} {s:QP} {a:QO} {y v:V} {u r:QK} {o:Option V} {A:QX} {E:QK->QP->Prop}
theorem Inv.big(I:Inv X pins Y H s):sysModules<s.heap.objs.size:=by
 let h:QZ<s.heap.objs.size:=(I.mod.glob.keeps I.bk).lt;show O8 (by decide) h
theorem vL{Q:QK->QP->Prop}(C:A.units+9<cLine)(I:Inv X pins Y H s)(g:DGet H a y (QH v))(t:RelV y u)(h:∀f s',Inv X pins Y H s'->RelV v f->Q f s') :
  QR (QS X.prog X.w) A (getItem (.ref a) u) Q E s:=by
 rcases g with⟨i,k,e,j,l⟩|⟨m,L,i,k,b,e,j,K,l⟩
 ·subst j;obtain⟨z,B,D,c,r⟩:=oQ I.hok e;obtain⟨f,n,d⟩:=RelO.some_of (v:=v) (o:=valueAt D k) (by rw[l];show c.val k);show wpAny_getItem_of (kA t) r.mapOf n (h f _ (I.tok _) d)
 ·subst j;cases(show u=Value.ref b from t);obtain⟨z,B,F,c,r⟩:=oR I.hok e;obtain⟨f,n,d⟩:=RelO.some_of (v:=v) (o:=(atKey F k).map (·.2)) (by rw[l];show c.val k);obtain⟨p,x,q⟩:=P6.mp n;show wpAny_getItem_heap (fD C) (eE I.hok K) r x ?_;rw[q];show h f _ (I.tok _) d
theorem K6{Q:QK->QP->Prop}(p:A.units+9<cLine)(I:Inv X pins Y H s)(g:DGet H a y o)(n:RelV y u)(h:∀s',Inv X pins Y H s'->Q (.bool o.isSome) s') :
  QR (QS X.prog X.w) A (compareOp .In u (.ref a)) Q E s:=by
 rcases g with⟨d,k,e,f,l⟩|⟨m,v,d,k,b,e,f,r,l⟩
 ·subst f;obtain⟨z,i,t,c,j⟩:=oQ I.hok e;show wpAny_in_of (kA n) i j.mapOf ?_;rw[<- (c.val k).isSome_eq,<- l];show h _ (I.tok _)
 ·subst f;cases(show u=Value.ref b from n);obtain⟨z,i,x,c,j⟩:=oR I.hok e;show wpAny_in_heap (fD p) (eE I.hok r) i j ?_;let q:=(c.val k).isSome_eq;rw[Pc] at q;rw[<- q,<- l];show h _ (I.tok _)
theorem AJ{Q:QK->QP->Prop}(p:A.units+9<cLine)(I:Inv X pins Y H s)(g:DGet H a y o)(n:RelV y u)(h:∀s',Inv X pins Y H s'->Q (.bool (!o.isSome)) s') :
  QR (QS X.prog X.w) A (compareOp .NotIn u (.ref a)) Q E s:=by
 rcases g with⟨d,k,e,f,l⟩|⟨m,v,d,k,b,e,f,r,l⟩
 ·subst f;obtain⟨z,i,t,c,j⟩:=oQ I.hok e;show wpAny_notIn_of (kA n) i j.mapOf ?_;rw[<- (c.val k).isSome_eq,<- l];show h _ (I.tok _)
 ·subst f;cases(show u=Value.ref b from n);obtain⟨z,i,x,c,j⟩:=oR I.hok e;show wpAny_notIn_heap (fD p) (eE I.hok r) i j ?_;let q:=(c.val k).isSome_eq;rw[Pc] at q;rw[<- q,<- l];show h _ (I.tok _)
theorem jU{h':QY}{t':Nat}(I:Inv X pins Y H s)(h:G0 (H a))(g:Heap.SameBut a s.heap h')(d:∃q,h'.get? a=QH q)(c:ObjOk X.prog X.w (upd H a ob) h' a ob) :
  Inv X pins Y (upd H a ob) { s with heap:=h',toks:=t' }:=
 I.write (x:=a) (e:=a) h (.inl rfl) (λb q f z=>(g.2 b f).trans z) d c
theorem xn{h':QY}{b:List (aN×V)}(z:b.length<=sizeLine)(hd:(a==sysModules)=QL)(c:KV b vs)(d:h'.DictOf (aH P w) a vs) :
  ObjOk P w H' h' a (.dK b):=⟨z,hd,vs,c,d⟩
theorem vM{F:Nat->Hp}{Q:Unit->QP->Prop}(P:A.units+9<cLine)(I:Inv X pins Y H s)(g:DPut H a y v F)(L:RelV y u)(K:RelV v r)(h:∀e s',Inv X pins Y (F e) s'->Q () s') :
  QR (QS X.prog X.w) A (setItem (.ref a) u r) Q E s:=by
 rcases g with⟨d,k,e,j,l,n⟩|⟨m,D,d,k,b,e,j,N,l,n⟩
 ·subst j n;obtain⟨z,p,W,f,x⟩:=ma I.hok e;let o:W.length<=sizeLine:=by rw[<- f.length];show z
  let t:(cw d k v).length<=sizeLine:=by have:=dA d k v;lia
  show wpAny_setItem_pairs (hsz:=o) (kA L) x λC i B=>h 0 _ ?_;let R:∃q,C.get? a=QH q:=let ⟨q,_,_,hq,_⟩:=i;⟨q,hq⟩;show jU I (by rw[e];show True.intro) B R (xn t p (f.put k K) i)
 ·subst j n;cases(show u=Value.ref b from L);obtain⟨z,p,Z,f,x⟩:=xm I.hok e;let o:Z.length<=sizeLine:=by rw[<- Paired.length f];show z
  let t:(cw d k v).length<=sizeLine:=by have:=dA d k v;lia
  show wpAny_setItem_heap (hsz:=o) (fD P) (eE I.hok N) x λC i B=>?_;obtain⟨q,T,D,hq,S,U,O,_,V⟩:=i;show h D _ ?_;show jU I (by rw[e];show True.intro) B ⟨q,hq⟩ ⟨t,p,_,(f.put k N K).keeps λc ys M=>?_,q,T,hq,S,U,O,V⟩
  rw[ae (Cj M e (λz=>nomatch z))]
  show M
end
def HA(i:QN):Prop:=∀B q,subscripted i QL B q=operate [B,q] (getItem B q)
theorem AK{T id:String}(k:typeLookup (.type T) "__getitem__" = pure (QH (.builtin id)))(j:HA slice)(h:QR (QS prog w) A (eval value env) (λo f=>QR (QS prog w) A (eval slice env) (λi b=>b.TypeIs o T/\QR (QS prog w) A (getItem o i) Q E b) E f) E s) :
  QR (QS prog w) A (eval (.Subscript value slice pos) env) Q E s:=by
 show Subscript_ (wpAny_mono h (λo f g=>wpAny_mono g (λi b c=>?_) λ_ _ x=>x) λ_ _ x=>x);obtain⟨e,c⟩:=c;unfold subscriptTail;show QM ?_;rw[getitemInPython_of_ne e.not_modules];show QM (wpAny_specialOf e k ?_)
 let a:QR (QS prog w) A (subscripted slice QL o i) (λr d=>QR (QS prog w) A (letTemporaryGo value o r >>= λ_=>pure r) Q E d) E b:=by
  rw[j o i];show wpAny_operating (wpAny_mono c (λr d l=>QM (wpAny_letTemporaryGo (QQ l))) λ_ _ x=>x)
 first
  |show QQ (QM a)
  |show QM (QQ (QM a))
  |show QM a
theorem oT{s:QP}(I:Inv X pins Y H s)(g:DGet H a y o):s.TypeIs (.ref a) "dict":=by
 rcases g with⟨c,k,e,_,_⟩|⟨m,h,c,k,b,e,_,_,_⟩
 ·obtain⟨_,_,f,_,d⟩:=oQ I.hok e;show d.typeIs
 ·obtain⟨_,_,i,_,d⟩:=oR I.hok e;show d.typeIs
def HB(td ty:TE):TE:=λY H Q=>td Y H λx H1=>ty Y H1 λy H2=>∃a v,x=.ref a/\DGet H2 a y (QH v)/\Q v H2
def HC(td ty tv:TE):TS:=λD Y H=>tv Y H λv H1=>td Y H1 λx H2=>ty Y H2 λy q=>∃a F,x=.ref a/\DPut q a y v F/\∀e,D.nx Y (F e)
section
variable {X:Cx} {o i e value:QN} {pos pos' tpos:Pos} {td ty tv:TE}
theorem nc(l:X.A.units+9<cLine)(m:PE X o td)(hi:PE X i ty)(k:HA i):PE X (.Subscript o i pos) (HB td ty):=by
 intro b s Y H Q I h;show AK PySem.F.slot_dict_getitem.lookup k (aV (m b s Y H _ I h) λu s1 ⟨x,t,p,r,f⟩=>aV (hi b s1 Y t _ p f) λB s2 ⟨y,q,d,n,a,v,w,g,e⟩=>?_);subst w;obtain rfl:u=Value.ref a:=r;show⟨oT d g,vL l d g n λz s3 j c=>⟨v,q,j,c,e⟩⟩
theorem AL(f:X.A.units+9<cLine)(w:PE X o td)(hi:PE X i ty)(k:PE X value tv)(q:swapsWith value (QH (.Subscript o i pos')) pos.line X.env=pure QL) :
  PS X (.Assign [.Subscript o i pos'] value pos) (HC td ty tv):=by
 intro b s Y H D I h;show wpAny_Assign_Subscript (aV (k b s Y H _ I h) λr s1 ⟨v,l,B,t,p⟩=>aV (w b s1 Y l _ B p) λu s2 ⟨x,j,K,E,c⟩=>aV (hi b s2 Y j _ K c) λM s3 ⟨y,L,d,z,a,F,m,g,n⟩=>?_) q;subst m;obtain rfl:u=Value.ref a:=E;show vM f d g z t λe s4 C=>⟨Y,F e,C,n e⟩
end
theorem xo(h:QY)(a:sysModules<h.objs.size):ObjOk P w H (h.push { cls:=.type "dict",data:=.dict #[] }) h.objs.size (.dK []):=
 ⟨NZ _,beq_eq_false_iff_ne.mpr (Ne.symm (NL a)),[],.nil,Heap.DictOf.new h⟩
theorem xp(h:QY)(a:sysModules<h.objs.size):ObjOk P w H (h.push { cls:=.type "dict",data:=.dict #[] }) h.objs.size (.dT m 0 []):=
 ⟨NZ _,beq_eq_false_iff_ne.mpr (Ne.symm (NL a)),[],.nil,_,#[],NI _ rfl,⟨rfl,rfl,rfl⟩,rfl,rfl,P8⟩
def Ei:TE:=λ_ H Q=>∀p,H p=QI->Q (.ref p) (upd H p (.dK []))
def Ej(m:Nat):TE:=λ_ H Q=>∀p,H p=QI->Q (.ref p) (upd H p (.dT m 0 []))
section
variable {X:Cx} {pos:Pos}
theorem xq:PE X (.Dict [] [] pos) Ei:=λb s Y H Q I h=>
 wpAny_Dict_empty ⟨.ref s.heap.objs.size,_,I.laid (a:=s.heap.objs.size) (o:=.dK []) (t':=s.toks) (λ_ _ q=>Nw _ q) (Ny _) (xo s.heap I.big),rfl,h _ (I.hok.fresh (Ny _))⟩
theorem xr:PE X (.Dict [] [] pos) (Ej m):=λb s Y H Q I h=>
 wpAny_Dict_empty ⟨.ref s.heap.objs.size,_,I.laid (a:=s.heap.objs.size) (o:=.dT m 0 []) (t':=s.toks) (λ_ _ q=>Nw _ q) (Ny _) (xp s.heap I.big),rfl,h _ (I.hok.fresh (Ny _))⟩
end
structure M1(X:Cx)(o:Expr)(m:Str)(apos:Pos)(e:Expr)(cpos:Pos):Prop where
 base:attributeBase o m X.env (eval o X.env)=eval o X.env
 few:((backTo cpos (QU [e] X.env)).all (λx=>!x.1)&&(backToKw cpos (keywordEach [] X.env)).all (λx=>x.1.isSome)
  && decide (([e]:List QN).length+([]:List Keyword).length+(if([]:List Keyword).isEmpty then 0 else 1)<30))=QJ
 line:(apos.endLine==cpos.line)=QJ
 trees:backTo cpos (QU [e] X.env)=[(QL,eval e X.env)]
structure M2(X:Cx)(o:Expr)(m:Str)(apos:Pos)(e f:Expr)(cpos:Pos):Prop where
 base:attributeBase o m X.env (eval o X.env)=eval o X.env
 few:((backTo cpos (QU [e,f] X.env)).all (λx=>!x.1)&&(backToKw cpos (keywordEach [] X.env)).all (λx=>x.1.isSome)
  && decide (([e,f]:List QN).length+([]:List Keyword).length+(if([]:List Keyword).isEmpty then 0 else 1)<30))=QJ
 line:(apos.endLine==cpos.line)=QJ
 trees:backTo cpos (QU [e,f] X.env)=[(QL,eval e X.env),(QL,eval f X.env)]
section
variable {prog:QT} {w:QW} {A:QX} {E:QK->QP->Prop} {s:QP} {d it:QO} {o:Obj} {es:Array DictEntry} {ep i:Nat}
theorem HD{Q:QK->QP->Prop}(hd:(d==sysModules)=QL)(c:s.heap.get? d=QH o)(e:o.cls=.type "dict")(a:o.data=.dict es ep)
  (hQ:Q (.ref s.heap.objs.size) { s with heap:=s.heap.push { cls:=.type "dict_keyiterator",data:=.fields #[.ref d,.int 0 0,.int es.size 0,.int ep 0] } }):QR (QS prog w) A (pyIter (.ref d)) Q E s:=by
 let b:s.TypeIs (.ref d) "dict":=⟨o,c,e⟩;show wpAny_pyIter_slot b PySem.F.slot_dict_iter (Ra PySem.F.slot_dict_iter b PySem.F.entry_dict_iter ?_ (PySem.F.args_dict_iter_1 _));unfold Builtin.«dict.__iter__» Builtin.Dict.dictSlotNone;show QM (QM (wpAny_notOrdered_dict b ?_));change QR _ _ (pure (Value.ref d)) _ _ s;show QQ ?_;change QR _ _ (Builtin.Dict.showsAll d >>= _) _ _ s;unfold Builtin.Dict.showsAll;rw[if_neg (by rw[hd];show NV)];show QM (QQ (QM (wpAny_dictEntries c a (QM (wpAny_dictEpoch c a ?_)))));show QM (Q5 (QQ ⟨_,rfl,"dict_keyiterator",_,⟨_,NI _ rfl,rfl⟩,PySem.F.slot_dict_keyiterator_next.lookup,by simpa[Re] using hQ⟩))
theorem Ct{Q:Option QK->QP->Prop}(v:A.handled=QI)(n:s.heap.IsKeyIter it d i es.size ep)(l:s.heap.get? d=QH o)(h:o.data=.dict es ep)
  (yes:∀e g,es[i]?=QH e->g.IsKeyIter it d (i+1) es.size ep->Heap.SameBut it s.heap g->Q (QH e.key) { s with heap:=g })
  (no:∀g,es[i]?=QI->Heap.ExtBut it s.heap g->Q QI { s with heap:=g }):QR (QS prog w) A (pyNext (.ref it)) Q E s:=by
 let c:=n.typeIs;rcases n with⟨x,p,u,k⟩;let t:=PySem.F.slot_dict_keyiterator_next;let j:Builtin.Dict_items.ownsTuple "dict_keyiterator" = QL:=by decide
 unfold pyNext;show QM (wpAny_attempt (wpAny_callSpecial?_slot (name:=Str.ofString "__next__") c t (Ra t c PySem.F.entry_dict_keyiterator_next ?_ (PySem.F.args_dict_keyiterator_next_1 _))));show QM (QQ (QM (QM ?_)))
 first|show QM (wpAny_typeNameOfWhole_keyiter c (QQ ?_))|show QM (wpAny_typeNameOf_keyiter c (QQ ?_))
 show QM (wpAny_fieldsOf p k ?_);simp only[j,Oe,if_false]
 change QR _ _ (if(Value.ref d==Value.none)=QJ then _ else _) _ _ s
 rw[if_neg (show ¬((Value.ref d==Value.none)=QJ) from NV)];show QM (QQ (QM (wpAny_dictEntries l h ?_)));rw[if_neg (by simp)];show QM (QQ (QM (wpAny_dictEpoch l h ?_)));rw[if_neg (by simp)];show QQ ?_;let q:¬((i:Int)<0):=by lia
 cases e:es[i]? with
 |some r=>
  simp only[q,if_false,Ov,e];show QM ?_
  first|show QM (wpAny_typeNameOfWhole_keyiter c (QQ ?_))|show QM (wpAny_typeNameOf_keyiter c (QQ ?_))
  show QM (wpAny_isOneOf_keyiter c ?_);change QR _ _ (setField (.ref it) 1 (Re ((i:Int)+1)) >>= _) _ _ s;show QM (wpAny_setField p k (by simp) ?_)
  let f:(s.heap.update it (Obj.mapFields (·.setIfInBounds 1 (Re ((i:Int)+1))))).IsKeyIter it d (i+1) es.size ep:=
   ⟨_,Pi _ p (Obj.isFreed_of_fields (Obj.data_mapFields k _)),(Obj.cls_mapFields ..).trans u,by rw[Obj.data_mapFields k];simp[Re]⟩
  show QM (Q7 (QM (wpAny_isOneOf_keyiter (s:={ s with heap:=s.heap.update it (Obj.mapFields (·.setIfInBounds 1 (Re ((i:Int)+1)))) }) f.typeIs ?_)));change QR _ _ (pure r.key) _ _ _;show QQ (QQ ⟨_,rfl,QQ (yes r _ e f (Heap.SameBut.update ..))⟩)
 |none=>
  simp only[q,if_false,Ov,e];show QM ?_
  first|show QM (wpAny_typeNameOfWhole_keyiter c (QQ ?_))|show QM (wpAny_typeNameOf_keyiter c (QQ ?_))
  change QR _ _ (setField (.ref it) 0 .none >>= _) _ _ s;show QM (wpAny_setField p k (by simp) (QM (m:=newExc (.type "StopIteration") []) ?_));simp only[newExc,newTuple]
  show QM (Q5 (QM (m:=firstArgMember _ _) (wpAny_of_eq (a:=Value.none) (by first|rfl|(simp only[firstArgMember];rfl)) (Q5 ?_ (by size_fits)))) (by size_fits))
  simp only[raiseNew];show QM (wpAny_handled ?_);rw[show A.in1.handled=QI from v];show QM (QQ (wpAny_throw ?_));show QM (wpAny_isInstance (T:="StopIteration") (b:=QJ) ⟨_,NI _ rfl,rfl⟩ isSubtype_stop ?_);show QQ (no _ e (((Heap.SameBut.update ..).extBut.push _).push _))
end
theorem Paired.get{α β:Type}{F:α->β->Prop}:∀{l:List α} {r:List β} {i:Nat} {y:β},Paired F l r->r[i]?=QH y->∃x,l[i]?=QH x/\F x y
 |_,_,i,_,.nil,h=>by simp at h
 |_,_,0,_,.cons q t,h=>by simp at h;subst h;show⟨_,rfl,q⟩
 |_,_,i+1,_,.cons q t,h=>by simpa using Paired.get t (by simpa using h)
noncomputable def fP(q:List (Str×QO)):List (Str×Q6)->List (Str×QO)->List (Str×QO)
 |[],acc=>acc
 |(n,k)::r,acc=>fP q r (if k=.free then(match q.lookup n with|some c=>(n,c)::acc|none=>acc) else acc)
theorem dX{a:List (Str×QO)}:∀{b:List (Str×Q6)} {f:List (Str×QO)},(∀x c,f.lookup x=QH c->a.lookup x=QH c)->
  ∀x c,(fP a b f).lookup x=QH c->a.lookup x=QH c
 |[],_,h=>h
 |(n,k)::r,f,h=>by
  unfold fP;show dX λx c=>?_;split
  ·cases e:a.lookup n with
   |none=>show h x c
   |some d=>
    dsimp only;intro q;rw[NX] at q
    cases g:x==n with
    |true=>
     rw[g] at q;have:x=n:=by simpa using g
     subst this;cases q;show e
    |false=>
     rw[g] at q;show h x c q
  ·show h x c
theorem me:∀{a:List (Str×Q6)} {b:List (Str×QO)} {x:Str},(∃c,b.lookup x=QH c)->∃c,(fP cells a b).lookup x=QH c
 |[],_,_,h=>h
 |(n,k)::r,b,x,h=>by
  unfold fP;show me ?_;split
  ·cases e:cells.lookup n with
   |none=>show h
   |some d=>
    dsimp only;rw[NX]
    cases x==n with
    |true=>show⟨d,rfl⟩
    |false=>show h
  ·show h
theorem kC{b:List (Str×QO)}:∀{a:List (Str×Q6)} {d:List (Str×QO)} {x:Str},(x,NameKind.free)∈a->(∃c,b.lookup x=QH c)->∃c,(fP b a d).lookup x=QH c
 |(n,k)::r,d,x,h,f=>by
  unfold fP;rcases NB.mp h with e|h
  ·cases e;obtain⟨c,f⟩:=f;show me ⟨c,?_⟩;rw[if_pos rfl,f];simp
  ·show kC h f
theorem fX{scope:Q0}{env:Env}(h:∀y∈scope.names,y.2=.free->∃c,env.cells.lookup y.1=QH c):closureFor scope env=pure (fP env.cells scope.names []):=by
 let g:∀(b:List (Str×Q6)) (d:List (Str×QO)),(∀y∈b,y.2=.free->∃c,env.cells.lookup y.1=QH c)->
   (forIn b d λ(x:Str×Q6) (r:List (Str×QO))=>(match x with|(name,kind)=>if(kind==.free)=QJ then do let a <- cellOf env name;pure (ForInStep.yield ((name,a)::r)) else pure (ForInStep.yield r):Sem (ForInStep (List (Str×QO)))))=pure (fP env.cells b d):=by
  intro b
  induction b with
  |nil=>intro d _;rfl
  |cons y r l=>
   intro d i;obtain⟨n,k⟩:=y;rw[List.forIn_cons];dsimp only;by_cases hk:k=.free
   ·obtain⟨c,o⟩:=i (n,k) NJ hk;subst hk;let e:cellOf env n=pure c:=by unfold cellOf;rw[o]
    rw[e];simp only[beq_self_eq_true,if_true,pure_bind];rw[l _ λy f=>i y (NE _ f)]
    conv=>rhs;unfold fP
    rw[if_pos rfl];let j:env.cells.lookup n=QH c:=o;rw[j]
   ·let e:(k==NameKind.free)=QL:=by simpa using hk
    rw[e];simp only[Oe,if_false,pure_bind];rw[l _ λy f=>i y (NE _ f)]
    conv=>rhs;unfold fP
    rw[if_neg hk]
 unfold closureFor;show(congrArg (λm=>m >>= λr=>pure r) (g scope.names [] h)).trans (by simp)
theorem cv:∀(b:List (Str×Q6)) (n:Nat) (a:List (Str×QO)),Q2 n b a=Q2 n b []++a
 |[],n,a=>rfl
 |(x,k)::r,n,a=>by
  unfold Q2;split
  ·rw[cv r (n+1) ((x,n)::a),cv r (n+1) [(x,n)],Of];rfl
  ·show cv r n a
theorem xt{x:Str}{c:QO}:∀{b:List (Str×Q6)} {n:Nat} {d:List (Str×QO)},(Q2 n b d).lookup x=QH c->((x,NameKind.cell)∈b/\n<=c)\/d.lookup x=QH c
 |[],_,_,h=>.inr h
 |(y,k)::r,n,d,h=>by
  unfold Q2 at h;split at h
  ·ext hk;let hk:k=.cell:=by simpa using hk
   subst hk;rcases xt h with⟨a,e⟩|a
   ·show .inl ⟨NE _ a,PN e⟩
   ·rw[NX] at a
    cases f:x==y with
    |true=>
     rw[f] at a;have:x=y:=by simpa using f
     subst this;cases a;show .inl ⟨NJ,Ny _⟩
    |false=>rw[f] at a;show .inr a
  ·rcases xt h with⟨a,e⟩|a
   ·show .inl ⟨NE _ a,e⟩
   ·show .inr a
theorem qW:∀{a:List (Str×Q6)} {n:Nat} {b:List (Str×QO)},(x,NameKind.cell)∉a->(Q2 n a b).lookup x=b.lookup x
 |[],_,_,_=>rfl
 |(y,k)::r,n,b,h=>by
  unfold Q2;let c:(x,NameKind.cell)∉r:=λz=>h (NE _ z);split
  ·ext hk;let hk:k=.cell:=by simpa using hk
   subst hk;rw[qW c,NX]
   have:(x==y)=QL:=by
    have:x≠y:=λz=>h (by rw[z];show NJ);simpa using this
   rw[this]
  ·show qW c
theorem ng{x:Str}:∀{a:List (Str×Q6)} {n:Nat} {b:List (Str×QO)},((x,NameKind.cell)∈a\/∃c,b.lookup x=QH c)->∃c,(Q2 n a b).lookup x=QH c
 |[],_,_,h=>by
  rcases h with h|h
  ·simp at h
  ·show h
 |(y,k)::r,n,b,h=>by
  unfold Q2;split
  ·ext hk;let hk:k=.cell:=by simpa using hk
   subst hk;show ng ?_;by_cases d:x=y
   ·subst d;show .inr ⟨n,by rw[NX];simp⟩
   ·let e:(x==y)=QL:=by simpa using d
    rcases h with h|h
    ·rcases NB.mp h with z|z
     ·show absurd (by cases z;rfl) d
     ·show .inl z
    ·show .inr (by rw[NX,e];show h)
  ·ext hk;show ng ?_;rcases h with h|h
   ·rcases NB.mp h with z|z
    ·show absurd (by cases z;rfl) hk
    ·show .inl z
   ·show .inr h
theorem qX{x:Str}{m:Nat}:∀{a:List (Str×Q6)} {n:Nat} {b:List (Str×QO)},((x,NameKind.cell)∈a\/∀c,b.lookup x=QH c->m<=c)->m<=n->∀c,(Q2 n a b).lookup x=QH c->m<=c
 |[],_,_,h,_,c,e=>by
  rcases h with h|h
  ·simp at h
  ·show h c e
 |(y,k)::r,n,b,h,hm,c,e=>by
  unfold Q2 at e;split at e
  ·ext hk;let hk:k=.cell:=by simpa using hk
   subst hk;show qX ?_ (PP hm) c e;by_cases d:x=y
   ·subst d;show .inr λc e=>?_;rw[NX] at e;simp at e;show e▸hm
   ·let e2:(x==y)=QL:=by simpa using d
    rcases h with h|h
    ·rcases NB.mp h with z|z
     ·show absurd (by cases z;rfl) d
     ·show .inl z
    ·show .inr (by intro c e;rw[NX,e2] at e;show h c e)
  ·ext hk;show qX ?_ hm c e;rcases h with h|h
   ·rcases NB.mp h with z|z
    ·show absurd (by cases z;rfl) hk
    ·show .inl z
   ·show .inr h
theorem qY:∀{b:List (Str×Q6)} {n:Nat} {a:List (Str×QO)},(∀x c,a.lookup x=QH c->c<n)->(∀x y c,a.lookup x=QH c->a.lookup y=QH c->x=y)->∀x y c,(Q2 n b a).lookup x=QH c->(Q2 n b a).lookup y=QH c->x=y
 |[],_,_,_,h=>h
 |(z,k)::r,n,a,hb,h=>by
  unfold Q2;split
  ·show qY (λx c e=>?_) λx y c e1 e2=>?_
   ·rw[NX] at e
    cases d:x==z with
    |true=>rw[d] at e;cases e;show OD _
    |false=>rw[d] at e;show OW (hb x c e)
   ·rw[NX] at e1 e2
    cases d:x==z with
    |true=>
     rw[d] at e1;cases e1
     cases f:y==z with
     |true=>rw[(by simpa using d:x=z),(by simpa using f:y=z)]
     |false=>rw[f] at e2;show absurd (hb y _ e2) (Ot _)
    |false=>
     rw[d] at e1
     cases f:y==z with
     |true=>rw[f] at e2;cases e2;show absurd (hb x _ e1) (Ot _)
     |false=>rw[f] at e2;show h x y c e1 e2
  ·show qY hb h
def Ek(B:List (Str×QO))(q:List (Str×Q6))(C:QO):List (Str×QO):=Q2 (C+1) q (fP B q [])
theorem xu{a:List (Str×QO)}{C:QO}{x:Str}(h:(Ek a names C).lookup x=QH c):C+1<=c\/a.lookup x=QH c:=by
 rcases xt h with h|h
 ·show .inl h.2
 ·show .inr (dX (λ_ _ z=>by cases z) x c h)
theorem fY{s:QP}{scope:Q0}{Q:Env->QP->Prop}(e:Q (newEnv scope s.heap.objs.size globals (Q2 (s.heap.objs.size+1) scope.names cl) qual QI .none (QH outer) builtinsNs) { s with heap:=pushCells (s.heap.push { cls:=.type "dict",data:=.dict #[] }) scope.names }) :
  QR M A (newFunctionEnv scope globals cl [] qual QI .none (QH outer)) Q E s:=by
 simp only[newFunctionEnv,Qi,if_true];show QM (wpAny_alloc ?_)
 show QM (wpAny_layCells _ (λd a c=>by cases b:a==NameKind.cell<;>simp[b]) _ _ _ _ ?_)
 rw[show({ s with heap:=s.heap.push { cls:=.type "dict",data:=.dict #[] } }:QP).heap.objs.size=s.heap.objs.size+1 from OQ ..];rw[List.forIn_nil];show QM (QQ (QQ e))
def ai(X:Cx)(N':List Str)(scope:Q0)(C:QO)(s:QP)(H:Hp)(ex:List QO):Cx where
 prog:=X.prog
 w:=X.w
 K:=X.K
 mg:=X.mg
 base:=X.base
 A:=X.A
 N:=N'
 s₀:=s
 H₀:=H
 env:=compEnvC scope (Ek X.env.cells scope.names C) C X.env
 outer:=X.stack
 stack:=X.stack
 ex:=ex
 fn:=λx=>scope.names.lookup x==QH .cell
 calm:=X.calm
 pn:=[]
 xe:=λ_ _=>False
theorem bU{α β:Type}[BEq α][LawfulBEq α]:∀{l:List (α×β)} {x:α} {y:β},l.lookup x=QH y->(x,y)∈l
 |(a,b)::r,x,y,h=>by
  rw[NX] at h
  cases e:x==a with
  |true=>
   rw[e] at h;have:x=a:=by simpa using e
   subst this;cases h;show NJ
  |false=>
   rw[e] at h;show NE _ (bU h)
theorem kF{scope:Q0}{x:Str}(h:(relabel scope env).names.lookup x=QH .cell\/(relabel scope env).names.lookup x=QH .free):(x,NameKind.cell)∈scope.names\/(x,NameKind.free)∈scope.names:=by
 let a:∀k,(k=NameKind.cell\/k=NameKind.free)->(x,k)∈(relabel scope env).names->(x,NameKind.cell)∈scope.names\/(x,NameKind.free)∈scope.names:=λk hk d=>by
  obtain⟨⟨n,c⟩,b,e⟩:=NR.mp d;dsimp only at e;split at e
  ·ext q
   have:c=NameKind.free:=by
    simp only[Nr,beq_iff_eq] at q;show q.1.1
   subst this;cases e;show .inr b
  ·cases e;rcases hk with rfl|rfl
   ·show .inl b
   ·show .inr b
 rcases h with h|h
 ·show a _ (.inl rfl) (bU h)
 ·show a _ (.inr rfl) (bU h)
section
variable {X:Cx} {pins:List (QO×Obj)} {Y:St} {H:Hp} {s:QP}
theorem xv(I:Inv X pins Y H s){p:List QO}{scope:Q0}(l:∀b∈p,iK X pins H b)(i:∀b∈p,b<s.heap.objs.size)(d:scope.kind=.function)(j:s.heap.objs.size<=C)(f:∀y∈scope.names,y.2=.free->X.env.kindOf y.1=QH .cell\/X.env.kindOf y.1=QH .free):(ai X N' scope C s H p).Ok where
 mod:=I.ok.mod
 kind:=d
 glob:=I.ok.glob
 blt:=I.ok.blt
 above:=j
 inj:=qY (λx c h=>by
   obtain⟨v,o,g,_⟩:=I.cell x c (dX (λ_ _ z=>by cases z) x c h);show OW (ND (NA g) j)) λx y c n k=>I.ok.inj x y c (dX (λ_ _ z=>by cases z) x c n) (dX (λ_ _ z=>by cases z) y c k)
 has:=λx r=>by
  rcases kF r with m|m
  ·show ng (.inl m)
  ·show ng (.inr (kC m (I.ok.has x (f _ m rfl))))
 cab:=λx c h e=>by
  let h:scope.names.lookup x=QH .cell:=by simpa[ai] using h
  show NT j (PN (qX (.inl (bU h)) (Ny _) c e))
 hd:=I.ok.hd
 frames:=I.ok.frames
 stk:=.inl rfl
 exf:=λb a=>⟨NL (ND (i b a) j),λx c h=>by
  rcases xu h with h|h
  ·show OF (ND (OW (ND (i b a) j)) h)
  ·show(l b a).2.2.2.2.1 x c h⟩
 bs:=I.bs
 bsz:=NT I.ok.bsz I.sz
 noex:=λb o e a=>by
  obtain⟨_,_,_,h,_⟩:=l b a;rcases h with h|h
  ·show I.ok.noex b o e h
  ·show absurd (ND (NA e) (NT I.ok.bsz h)) (Ot _)
 exfs:=λb a q=>by
  obtain⟨_,n,k,_⟩:=l b a;rcases NB.mp (I.stkSub b q) with e|e
  ·show n e
  ·show k e
 funs:=I.stack
 frf:=I.stkFree
noncomputable def cx(Y:St)(cap:List (Option Nat)):St:=cap.map λo=>o.bind λi=>(Y[i]?).join
structure eV(X:Cx)(N':List Str)(scope:Scope)(cap:List (Option Nat)):Prop where
 kind:scope.kind=.function
 cell:∀y∈scope.names,y.2=.cell->scope.names.lookup y.1=QH .cell
 names:∀y∈scope.names,y.2=.local->scope.names.lookup y.1=QH .local
 free:∀y∈scope.names,y.2=.free->X.env.kindOf y.1=QH .cell\/X.env.kindOf y.1=QH .free
 len:cap.length=N'.length
 cap:∀(j i:Nat) (x:Str),N'[j]?=QH x->cap[j]?=QH (QH i)->X.N[i]?=QH x/\scope.names.lookup x=QH .free/\(X.env.kindOf x=QH .cell\/X.env.kindOf x=QH .free)
theorem gU{scope:Q0}{env:Env}{x:Str}:∀{a:List (Str×Q6)},a.lookup x=QH .free->
  (a.map λ(n,k)=>if(k==NameKind.free&&env.scope.kind==.function&&env.kindOf n==QH .cell) then(n,NameKind.cell) else(n,k)).lookup x=QH .cell\/
  (a.map λ(n,k)=>if(k==NameKind.free&&env.scope.kind==.function&&env.kindOf n==QH .cell) then(n,NameKind.cell) else(n,k)).lookup x=QH .free
 |(n,k)::r,h=>by
  let d:=@gU scope env x r
  change Ou x ((if(k==NameKind.free&&env.scope.kind==.function&&env.kindOf n==QH .cell)=QJ then(n,NameKind.cell) else(n,k))::_)=_\/Ou x ((if(k==NameKind.free&&env.scope.kind==.function&&env.kindOf n==QH .cell)=QJ then(n,NameKind.cell) else(n,k))::_)=_
  cases b:x==n with
  |true=>
   simp only[NX,b] at h;cases h;by_cases c:(NameKind.free==NameKind.free&&env.scope.kind==.function&&env.kindOf n==QH .cell)=QJ
   ·rw[if_pos c];left;simp only[NX,b]
   ·rw[if_neg c];right;simp only[NX,b]
  |false=>
   simp only[NX,b] at h;by_cases c:(k==NameKind.free&&env.scope.kind==.function&&env.kindOf n==QH .cell)=QJ
   ·rw[if_pos c];simp only[NX,b];show d h
   ·rw[if_neg c];simp only[NX,b];show d h
theorem oU(I:Inv X pins Y H s){K:List QO}{scope:Q0}{C D:QO}{y:QY}{tk:Nat}(O:eV X N' scope cap)(hf:∀b∈K,iK X pins H b)(N:∀b∈K,b<s.heap.objs.size)(P:s.heap.objs.size<=C)(hD:s.heap.objs.size<=D)(B:D<C)(M:∀x c,(Q2 (C+1) scope.names []).lookup x=QH c->y.IsCell c QI)(hn:y.Ns C m)(f:∀b o,s.heap.get? b=QH o->y.get? b=QH o){o:HO}(S:ObjOk X.prog X.w (upd H D o) y D o) :
  Inv (ai X N' scope C s H K) [] (cx Y cap) (upd H D o) { s with heap:=y,toks:=tk }:=by
 let A:∀x c,(fP X.env.cells scope.names []).lookup x=QH c->X.env.cells.lookup x=QH c:=dX (λ_ _ z=>by cases z)
 let n:∀x,scope.names.lookup x=QH .free->(Ek X.env.cells scope.names C).lookup x=(fP X.env.cells scope.names []).lookup x:=λx h=>qW λz=>by
  have:=O.cell _ z rfl;rw[h] at this;cases this
 show⟨xv I hf N O.kind P O.free,rfl,I.bare,Un.laid f hD (I.hok.fresh hD),⟨m,hn,λj x v h1 h2 h3=>?_⟩,λx c e=>?_,?_,λx c e=>?_,λp Z=>absurd Z (by simp[ai]),I.hok.laid f hD S,?_⟩
 ·let a:(cx Y cap)[j]?=QH (QH v):=h2;unfold cx at a;rw[Nu] at a
  cases R:cap[j]? with
  |none=>rw[R] at a;cases a
  |some o=>
   rw[R] at a
   cases o with
   |none=>cases a
   |some i=>
    let E:(Y[i]?).join=QH v:=by simpa using a
    let L:Y[i]?=QH (QH v):=by
     cases q:Y[i]? with
     |none=>rw[q] at E;cases E
     |some z=>rw[q] at E;have:z=QH v:=E;rw[this]
    obtain⟨c1,Q,U⟩:=O.cap j i x h1 R;obtain⟨mo,ha,hl⟩:=I.loc;let T:G3 X.env.scope x:=U.elim (λz=>.inr (.inl z)) λz=>.inr (.inr z);obtain⟨u,ru,l⟩:=hl i x v c1 L T;show⟨u,ru,?_⟩;rcases l with⟨k,_⟩|⟨_,c,W,ic⟩
    ·rcases U with z|z
     ·rw[z] at k;cases k
     ·rw[z] at k;cases k
    ·obtain⟨V,r⟩:=kC (bU Q) ⟨c,W⟩;let e2:=A x V r;rw[W] at e2;cases e2;obtain⟨F,d,g⟩:=ic;show .inr ⟨gU (scope:=scope) Q,c,(n x Q).trans r,F,f _ _ d,g⟩
 ·let e:(Ek X.env.cells scope.names C).lookup x=QH c:=e;unfold Ek at e;rw[cv,List.lookup_append] at e
  cases q:(Q2 (C+1) scope.names []).lookup x with
  |some V=>
   rw[q] at e;cases e;show⟨QI,M x _ q⟩
  |none=>
   rw[q] at e;obtain⟨v,F,d,g⟩:=I.cell x c (A x c e);show⟨v,F,f _ _ d,g⟩
 ·rw[show(ai X N' scope C s H K).env.locals=C from rfl,ae (Ne.symm (NL B))];show I.hok.fresh P
 ·rcases xu e with t|t
  ·rw[ae (OF (O8 B t))];show I.hok.fresh (NT P (PN t))
  ·obtain⟨v,F,d,g⟩:=I.cell x c t;rw[ae (NL (ND (NA d) hD))];show I.freeC x c t
 ·change(cx Y cap).length=N'.length;unfold cx;rw[Nt,O.len]
theorem gW(I:Inv X pins Y H s){j:List QO}{s':QP}(t:∀b∈j,iK X pins H b)(J:Inv (ai X N' scope C s H j) [] Y' H' s')(a:Heap.SameBut C s'.heap h') :
  Inv X pins Y H' { s' with heap:=h' }:=by
 let r:s.heap.objs.size<=C:=J.ok.above;let d:∀b o,s.heap.get? b=QH o->b≠C:=λb o e=>NL (ND (NA e) r);let f:Un (wC X.stack) j H H' s.heap s'.heap:=J.base;show I.call' (J.os) ⟨λb o e n h g=>?_,λb o e n h g=>?_,f.free,λb o e g=>?_,f.tups,f.frzs,f.tbls⟩ (λb o e=>?_) J.bare λb x=>?_
 ·show(a.2 b (d b o e)).trans (f.keep b o e n h g)
 ·obtain⟨w,q⟩:=f.slot b o e n h g;show⟨w,(a.2 b (d b o e)).trans q⟩
 ·obtain⟨u,q⟩:=f.there b o e g;show⟨u,(a.2 b (d b o e)).trans q⟩
 ·let k:H' C=QI:=J.free;show(J.hok b o e).stay (λc v i q=>(a.2 c ?_).trans q) (λ_ q=>q) λ_ _ q=>q
  rintro rfl
  rcases i with rfl|i
  ·rw[k] at e;cases e
  ·rw[k] at i;cases i
 ·obtain⟨y,h,g,l,m,p⟩:=t b x;show⟨l,h,m,p⟩
theorem nh{R:Result->QP->Prop}{s:QP}(I:Nat->QP->Prop)(b:∀n s,I n s->QR (QS prog w) A (pyNext it) (λr i=>match r with
   |none=>R (.ok .next) i
   |some v=>QR (QS prog w) A (letOwnedTupleGo target it v) (λ_ d=>QR (QS prog w) A (assign target env v) (λ_ o=>
     QR (QS prog w) A (forIn ifs QJ λc r=>if r=QJ then do let e <- isTrue c env (eval c env);pure (ForInStep.yield e) else pure (ForInStep.yield r)) (λe g=>
      if e=QJ then QR (QS prog w) A (eval elt env) (λx j=>
       QR (QS prog w) A (call (.builtin "list.append") [acc,x]) (λ_ k=>∃m,m<n/\I m k) (λ_ _=>False) j) (λ_ _=>False) g
      else ∃m,m<n/\I m g) (λ_ _=>False) o) (λ_ _=>False) d) (λ_ _=>False) i) (λ_ _=>False) s)(n:Nat)(h:I n s) :
  codeAny (QS prog w) A (.compLoop (.ListComp elt [⟨target,iter,ifs,0⟩] scope pos) 0 it acc env) R s:=by
 show codeAny_loop rfl I (λn s u=>?_) n h;show wpAny_noted ?_;rw[compTurn_list];show QM (wpAny_standAt (QM (wpAny_mono (b n s u) (λr i p=>?_) λ_ _ a=>a.elim)))
 cases r with
 |none=>show QQ p
 |some v=>
  show QM (wpAny_mono p (λ_ d f=>?_) λ_ _ a=>a.elim);show QM (wpAny_mono f (λ_ o y=>QM (wpAny_mono y (λe g l=>?_) λ_ _ a=>a.elim)) λ_ _ a=>a.elim)
  cases e with
  |false=>show QQ ⟨rfl,l⟩
  |true=>
   show QM (QM (wpAny_mono l (λx j q=>QM (wpAny_mono q (λ_ k t=>QQ (QQ ⟨rfl,t⟩)) λ_ _ a=>a.elim)) λ_ _ a=>a.elim))
end
section
variable {X:Cx} {pins:List (QO×Obj)} {Y:List (Option V)} {H:Hp} {s:QP} {h':QY}
theorem Inv.junk(I:Inv X pins Y H s)(f:Heap.SameBut C s.heap h')(E:X.s₀.heap.objs.size<=C)(M:X.env.locals≠C)(w:∀x c,X.env.cells.lookup x=QH c->c≠C)(A:∀p∈X.pn++pins,p.1≠C)(u:H C=QI):Inv X pins Y H { s with heap:=h' }:=by
 let l:∀b o,X.s₀.heap.get? b=QH o->b≠C:=λb o e=>NL (ND (NA e) E);obtain⟨m,B,F⟩:=id I.loc;show⟨I.ok,I.os,I.bare,⟨λb o e n t i=>?_,λb o e n t i=>?_,I.base.free,λb o e i=>?_,I.base.tups,I.base.frzs,I.base.tbls⟩,⟨m,B.sameBut f M,λj y D e1 e2 e3=>?_⟩,λy c e=>?_,I.free,I.freeC,λp h=>?_,λb N e=>?_,I.len⟩
 ·show(f.2 b (l b o e)).trans (I.base.keep b o e n t i)
 ·obtain⟨L,e1⟩:=I.base.slot b o e n t i;show⟨L,(f.2 b (l b o e)).trans e1⟩
 ·obtain⟨K,e1⟩:=I.base.there b o e i;show⟨K,(f.2 b (l b o e)).trans e1⟩
 ·obtain⟨O,P,q⟩:=F j y D e1 e2 e3;show⟨O,P,?_⟩;rcases q with⟨k,e⟩|⟨k,c,e,z⟩
  ·show .inl ⟨k,e⟩
  ·show .inr ⟨k,c,e,?_⟩;obtain⟨o,g,d⟩:=z;show⟨o,(f.2 c (w y c e)).trans g,d⟩
 ·obtain⟨v,o,g,d⟩:=I.cell y c e;show⟨v,o,(f.2 c (w y c e)).trans g,d⟩
 ·obtain⟨g,r⟩:=I.pin p h;show⟨(f.2 _ (A p h)).trans g,r⟩
 ·show(I.hok b N e).stay (λc Q a q=>(f.2 c ?_).trans q) (λ_ q=>q) λ_ _ q=>q
  rintro rfl
  rcases a with rfl|a
  ·rw[u] at e;cases e
  ·rw[u] at a;cases a
def K7(K:Np)(n:Nat)(t:wS):TG:=λv Y H Q=>∃a xs,v=.ref a/\SqL K H a xs/\xs.length=n/\t xs Y H Q
theorem El(q:X.calm=QJ)(h:DR X es t)(l:(Q4 es X.env).length=n)(d:(Q4 es X.env).findIdx? (·.1)=QI):PG X (.Tuple es k pos) (K7 X.K n t):=by
 intro c s Y H v u Q I r f;obtain⟨a,y,e1,hq,x,f⟩:=f;subst e1;cases r;obtain⟨g,i,j,z⟩:=I.list hq;rw[assign_Tuple];show QM (wpAny_standAt ?_);unfold unpack;rw[d,show(Q4 es X.env).length=g.toArray.size by rw[l,<- x,i.length,Nz]];show QM (Q7 (PySem.W.kun_itemsOf (I.ok.hd q) j.isList λm w=>?_));let p:Inv X c Y H { s with heap:=m }:=I.kept λb o e=>w b o (NL (NA e)) e;show h c _ Y H y _ Q p (by simpa using i) f
end
end L2
open L2
namespace G
open PyProof.Rows
inductive D where
 |non|bl (b:Bool)|int (i:Int)|str (x:Str)|lst (xs:List D)|tup (xs:List D)|scr (ns:List Int)|dic (ks:List aN) (vs:List D)
def HE(K:Np)(a:QO)(xs:List V):Prop:=
 ∃(o:Obj) (q:Array QK) (n:Nat),K.lookup a=QH o/\o.cls=.type "list"/\o.dict=QI/\o.data=.seq q n/\q.size<=sizeLine/\Vals xs q.toList
mutual
def Rp(K:Np)(H:Hp)(S:List QO):D->V->Prop
 |.non,v=>v=.non
 |.bl b,v=>v=.bl b
 |.int i,v=>v=.int i
 |.str x,v=>v=.str x
 |.lst ds,v=>∃a xs,v=.ref a/\a∉S/\H a=QH (.lst xs)/\RpL K H S ds xs
 |.tup ds,v=>∃a xs,v=.ref a/\a∉S/\H a=QH (.tup xs)/\RpL K H S ds xs
 |.scr ns,v=>∃a,v=.ref a/\((a∉S/\Rd H a (.lst (ns.map V.int)))\/HE K a (ns.map V.int))
 |.dic ks vs,v=>∃a q,v=.ref a/\a∉S/\H a=QH (.dK q)/\q.map (·.1)=ks/\RpL K H S vs (q.map (·.2))
def RpL(K:Np)(H:Hp)(S:List QO):List D->List V->Prop
 |[],xs=>xs=[]
 |d::ds,xs=>∃y ys,xs=y::ys/\Rp K H S d y/\RpL K H S ds ys
end
inductive Kd where
 |sh|fr|bo
 deriving DecidableEq
def VR(K:Np)(H0 H:Hp)(S:List QO):Kd->D->V->Prop
 |.sh,d,v=>Rp K H S d v
 |.fr,.lst ds,v=>∃a xs,v=.ref a/\H0 a=QI/\H a=QH (.lst xs)/\RpL K H (a::S) ds xs
 |.bo,.lst ds,v=>∃a xs,v=.ref a/\H a=QH (.lst xs)/\RpL K H S ds xs
 |_,_,_=>False
def JX(K:Np)(a:QO):It:=
 ⟨λi H=>∃xs x,SqL K H a xs/\xs[i]?=QH x,λi H x H'=>∃p v,H p=QI/\H'=upd H p (.tup [.int i,v])/\x=.ref p/\∀xs,SqL K H a xs->xs[i]?=QH v,λi H=>∃xs,SqL K H a xs/\xs.length<=i⟩
theorem vN{P:QT}{w:QW}{K:Np}{es:List QN}{kk:Nat}{tp:Pos}(a e it:QO)(R:e≠it):qG P w K (.Tuple es kk tp) (JX K a) [e,it] e (λi h=>(∃j,IsEnum h e it ((i:Nat):Int) j)/\h.IsListIter it a i) where
 mem:=by simp
 obj:=λi h B b g=>by
  obtain⟨⟨j,M⟩,o,t,h3,h4⟩:=B;rcases NB.mp g with rfl|g
  ·show⟨_,M,λv z=>by
    let z':Data.fields _=Data.cell v:=z;cases z'⟩
  ·have:b=it:=by simpa using g
   subst this;show⟨o,t,λv z=>by rw[h4] at z;cases z⟩
 keep:=λi h h' B k=>by
  obtain⟨⟨j,M⟩,t⟩:=B;show⟨⟨j,k e (by simp) _ M⟩,t.at λo q=>k it (by simp) o q⟩
 item:=by
  intro X hP hw hK hc i C s Y H E I Q B W;subst hP hw hK;obtain⟨⟨j,U⟩,A⟩:=B;obtain⟨xs,x,hq,hx⟩:=W;obtain⟨Z,rv,p,hz⟩:=I.list hq;obtain⟨u,hu,ru⟩:=rv.get hx;obtain⟨f0,T,f2,f3,f4,f5⟩:=Q e (by simp);obtain⟨g0,g1,g2,g3,g4,g5⟩:=Q it (by simp);let O:=NA U;show wpAny_pyNext_enum_item U A p.isList (by simpa using hu) R λM ho S ht hr hi=>?_;show⟨_,rfl,wpAny_letOwnedTupleGo_enum ho λt hh hn=>?_⟩;let r:Heap.SameBut e M t:=hn;let d:∀b o,b≠e->b≠it->s.heap.get? b=QH o->t.get? b=QH o:=λb o n1 n2 q=>(r.2 b n1).trans (hi b o n1 n2 q);let F:=I.hok.fresh (Ny s.heap.objs.size);let L:t.get? s.heap.objs.size=QH { cls:=.type "tuple",data:=.seq #[.int i s.toks,u] }:=(r.2 _ (OF O)).trans ht
  let I1:Inv X C Y (upd H s.heap.objs.size (.tup [.int i,x])) { s with heap:=t,toks:=s.toks+1 }:=by
   let y:∀b o,H b=QH o->b≠e/\b≠it:=λb o q=>⟨(λz=>by rw[z,f0] at q;cases q),(λz=>by rw[z,g0] at q;cases q)⟩
   let N:HOk X.prog X.w (upd H s.heap.objs.size (.tup [.int i,x])) t:=λb o q=>by
    by_cases g:b=s.heap.objs.size
    ·subst g;rw[ak] at q;cases q;show⟨(by change 2<=sizeLine;decide),[.int i s.toks,u],.cons ⟨_,rfl⟩ (.cons ru .nil),_,L,rfl,_,rfl⟩
    ·rw[ae g] at q;show(I.hok b o q).stay (λc v l D=>d c v ?_ ?_ D) (λc D=>by rw[ae (aA D F)];show D) λc ys D=>by rw[ae (aA D F)];show D
     ·rcases l with rfl|l
      ·show(y _ _ q).1
      ·show(y _ _ l).1
     ·rcases l with rfl|l
      ·show(y _ _ q).2
      ·show(y _ _ l).2
   show I.step (ch:=[e,it]) (λb g=>?_) (λb o _ _ f q _=>d b o (λz=>f (by simp[z])) (λz=>f (by simp[z])) q)
    (λb o _ _ f q _=>⟨o.slots,d b o (λz=>f (by simp[z])) (λz=>f (by simp[z])) q⟩) (λb o f q n=>by rw[ae (NL (NA q))];show n)
    (λb o f q=>⟨o,d b o (λz=>f (by simp[z])) (λz=>f (by simp[z])) q⟩) (λb ys q=>by rw[ae (aA q F)];show q) (λb o z q=>by rw[ae (aA q F)];show q)
    (λb ps q=>⟨#[],by rw[ae (aA q F),q];simp⟩) (λm hm=>?_) N I.bare
   ·rcases NB.mp g with rfl|g
    ·show⟨f3,T,f4,f5⟩
    ·have:b=it:=by simpa using g
     subst this;show⟨g3,g1,g4,g5⟩
   ·obtain⟨o,hp,ep,ha,r'⟩:=hm;show⟨o,hp,ep,d _ o (Ne.symm T) (Ne.symm g1) ha,r'⟩
  show⟨.ref s.heap.objs.size,_,I1,rfl,⟨s.heap.objs.size,x,F,rfl,rfl,λys hy=>by rw[I.list_inj hy hq];show hx⟩,⟨⟨u,by
    have:(((i+1:Nat):Int))=(i:Int)+1:=by lia
    rw[this];show hh⟩,S.extBut r.extBut (Ne.symm R)⟩,λb g=>?_⟩
  let V:=(Q b g).1
  let hj:b<s.heap.objs.size:=by
   rcases NB.mp g with rfl|g
   ·show O
   ·have:b=it:=by simpa using g
    subst this;obtain⟨o,q,_⟩:=A;show NA q
  rw[ae (NL hj)];show V
 done:=by
  intro X hP hw hK hc i C s Y H E I Q B W;subst hP hw hK;obtain⟨⟨j,U⟩,A⟩:=B;obtain⟨xs,hq,hx⟩:=W;obtain⟨Z,rv,p,hz⟩:=I.list hq;obtain⟨f0,T,f2,f3,f4,f5⟩:=Q it (by simp);let hl:=rv.length;show wpAny_pyNext_enum_end (I.ok.hd hc) U A p.isList (by simp;lia) λh' eb=>⟨rfl,I.turned (λb o g q=>eb b o g q) f0 T f3 f4 f5⟩
 self:=λ_ _ _ _ _ B h=>let ⟨_,q⟩:=B.1;wpAny_pyIter_enum q h
section
variable {X:Cx}
def HF(K:Np)(ta:TA):TI:=λY H R=>ta Y H λvs H1=>∃a,vs=[.ref a]/\(∃xs,SqL K H1 a xs)/\R (JX K a) H1
theorem AM{a:QN}(m:Gl X "enumerate")(z:X.mg "enumerate" = QI)(n:PA X [a] ta)(x:QU [a] X.env=[(QL,eval a X.env)]) :
  PI X (.Tuple es kk tp) (.Call (.Name "enumerate" p) [a] [] pos) (HF X.K ta):=by
 intro c s Y H R I h;show Call_ (dM I m z boot_enumerate (PyProof.Rows.callWith_type1 (aV (n pos c s Y H _ I h) λC s1 ⟨F,k,f,y,w⟩=>?_) x rfl));obtain⟨l,e,⟨L,hq⟩,q⟩:=w;subst e;obtain⟨u,rfl,A⟩:=kj y;cases A;obtain⟨r,E,v,D⟩:=f.list hq;show call_enumerate_list v.isList λo j g t hk=>?_;show wpAny_pyIter_enum j ?_;let B:Inv X c Y k { s1 with heap:=o }:=f.kept hk;show⟨s1.heap.objs.size+1,[s1.heap.objs.size+1,s1.heap.objs.size],_,_,k,rfl,B,vN l _ _ (OF (OD _)),⟨⟨_,j⟩,g⟩,λb i=>?_,q⟩
 let d:s1.heap.objs.size<=b:=by
  rcases NB.mp i with rfl|i
  ·show OP _
  ·have:b=s1.heap.objs.size:=by simpa using i
   rw[this];show Ny _
 show f.fpOk d (f.hok.fresh d)
end
def K8(K:Np)(a b:QO):It:=
 ⟨λi H=>∃xs ys x y,SqL K H a xs/\SqL K H b ys/\xs[i]?=QH x/\ys[i]?=QH y,λi H x H'=>∃p v u,H p=QI/\H'=upd H p (.tup [v,u])/\x=.ref p/\(∀xs,SqL K H a xs->xs[i]?=QH v)/\∀ys,SqL K H b ys->ys[i]?=QH u,
  λi H=>∃xs ys,SqL K H a xs/\SqL K H b ys/\(xs.length<=i\/ys.length<=i)⟩
theorem mf{h:QY}{z TI TO n k l a b:QO}{us:Array QK}{x y:QK}{i j:Nat}(t:h.IsList l us)(hz:IsZip h z TI TO .none)(g:IsPair h TI (.ref n) (.ref k))(m:IsPair h TO x y)(h1:h.IsListIter n a i)(h2:h.IsListIter k b j):∀c∈[z,TI,TO,n,k],l≠c:=λc p e=>by
 subst e;obtain⟨o,q,d,_⟩:=t;simp only[NB,NQ,or_false] at p;rcases p with rfl|rfl|rfl|rfl|rfl
 ·rw[hz] at q;cases q;show absurd (show Value.type "zip" = .type "list" from d) (by decide)
 ·rw[g] at q;cases q;show absurd (show Value.type "tuple" = .type "list" from d) (by decide)
 ·rw[m] at q;cases q;show absurd (show Value.type "tuple" = .type "list" from d) (by decide)
 ·obtain⟨s,r,f,_⟩:=h1;rw[r] at q;cases q;rw[f] at d;show absurd d (by decide)
 ·obtain⟨s,r,f,_⟩:=h2;rw[r] at q;cases q;rw[f] at d;show absurd d (by decide)
theorem Cu{h:QY}{z TI TO k g a b:QO}{us vs:Array QK}{x y:QK}{i j:Nat}(m:[z,TI,TO,k,g].Nodup)(s:h.IsList a us)(l:h.IsList b vs)(hz:IsZip h z TI TO .none)(c:IsPair h TI (.ref k) (.ref g))(d:IsPair h TO x y)(h1:h.IsListIter k a i)(h2:h.IsListIter g b j):ZipApart z TI TO k g a b:=by
 let e:=mf s hz c d h1 h2;let f:=mf l hz c d h1 h2;simp only[NU,NB,NQ,or_false,not_or,P8,and_true,not_false_iff] at m;obtain⟨⟨o,n,r,q⟩,⟨b1,b2,b3⟩,⟨u,p⟩,t⟩:=m;show⟨Ne.symm o,Ne.symm n,Ne.symm r,Ne.symm q,b1,b2,b3,u,p,t,e _ (by simp),e _ (by simp),e _ (by simp),e _ (by simp),f _ (by simp),f _ (by simp),f _ (by simp),f _ (by simp)⟩
theorem xw{P:QT}{w:QW}{K:Np}{es:List QN}{kk:Nat}{tp:Pos}(a b z TI TO M L:QO)(nd:[z,TI,TO,M,L].Nodup):qG P w K (.Tuple es kk tp) (K8 K a b) [z,TI,TO,M,L] z (λi h=>IsZip h z TI TO .none/\IsPair h TI (.ref M) (.ref L)/\(∃x y,IsPair h TO x y)/\h.IsListIter M a i/\h.IsListIter L b i) where
 mem:=by simp
 obj:=λi h R c g=>by
  obtain⟨h1,O,⟨x,y,h3⟩,⟨o4,h4,h5,h6⟩,o7,h7,h8,h9⟩:=R;simp only[NB,NQ,or_false] at g;rcases g with rfl|rfl|rfl|rfl|rfl
  ·show⟨_,h1,λv z=>by
    let z':Data.fields _=Data.cell v:=z;cases z'⟩
  ·show⟨_,O,λv z=>by
    let z':Data.seq _ _=Data.cell v:=z;cases z'⟩
  ·show⟨_,h3,λv z=>by
    let z':Data.seq _ _=Data.cell v:=z;cases z'⟩
  ·show⟨o4,h4,λv z=>by rw[h6] at z;cases z⟩
  ·show⟨o7,h7,λv z=>by rw[h9] at z;cases z⟩
 keep:=λi h h' R k=>by
  obtain⟨h1,O,⟨x,y,h3⟩,h4,h5⟩:=R;show⟨k z (by simp) _ h1,k TI (by simp) _ O,⟨x,y,k TO (by simp) _ h3⟩,h4.at λo q=>k M (by simp) o q,h5.at λo q=>k L (by simp) o q⟩
 item:=by
  intro X hP hw hK g i S s Y H E I V R hg;subst hP hw hK;obtain⟨T,r,⟨x0,y0,B⟩,C,F⟩:=R;obtain⟨xs,ys,x,y,hq,Q,hx,hy⟩:=hg;obtain⟨hr,rv,p,ga⟩:=I.list hq;obtain⟨hp,W,p2,hn⟩:=I.list Q;obtain⟨u,hu,ru⟩:=rv.get hx;obtain⟨u2,h0,gb⟩:=W.get hy;let un:∀c∈[z,TI,TO,M,L],H c=QI:=λc g=>(V c g).1;let D:=Cu nd p.isList p2.isList T r B C F
  let hl:∀c∈[z,TI,TO,M,L],c<s.heap.objs.size:=λc g=>by
   simp only[NB,NQ,or_false] at g;rcases g with rfl|rfl|rfl|rfl|rfl
   ·show NA T
   ·show NA r
   ·show NA B
   ·obtain⟨o,q,_⟩:=C;show NA q
   ·obtain⟨o,q,_⟩:=F;show NA q
  show wpAny_pyNext_zip_item D T r B C F p.isList p2.isList (by simpa using hu) (by simpa using h0) λh1 hs ho hi he ht gd hj=>?_;show⟨_,rfl,wpAny_letOwnedTupleGo_zip hs λO hv gc=>?_⟩;let l:Heap.SameBut z h1 O:=gc
  let f:∀c o,c∉[z,TI,TO,M,L]->s.heap.get? c=QH o->O.get? c=QH o:=λc o n q=>
   (l.2 c (λe=>n (by simp[e]))).trans (hj c o (λe=>n (by simp[e])) (λe=>n (by simp[e])) (λe=>n (by simp[e])) (λe=>n (by simp[e])) q)
  let fr:=I.hok.fresh (Ny s.heap.objs.size);let ha:O.get? s.heap.objs.size=QH { cls:=.type "tuple",data:=.seq #[u,u2] }:=(l.2 _ (OF (hl z (by simp)))).trans ht
  let I1:Inv X S Y (upd H s.heap.objs.size (.tup [x,y])) { s with heap:=O }:=by
   let N:∀c o,H c=QH o->c∉[z,TI,TO,M,L]:=λc o q g=>by rw[un c g] at q;cases q
   let hh:HOk X.prog X.w (upd H s.heap.objs.size (.tup [x,y])) O:=λc o q=>by
    by_cases hb:c=s.heap.objs.size
    ·subst hb;rw[ak] at q;cases q;show⟨(by change 2<=sizeLine;decide),[u,u2],.cons ru (.cons gb .nil),_,ha,rfl,_,rfl⟩
    ·rw[ae hb] at q;show(I.hok c o q).stay (λd v t A=>f d v ?_ A) (λd A=>by rw[ae (aA A fr)];show A) λd ys A=>by rw[ae (aA A fr)];show A
     rcases t with rfl|t
     ·show N _ _ q
     ·show N _ _ t
   show I.step (λc g=>?_) (λc o _ _ j q _=>f c o j q)
    (λc o _ _ j q _=>⟨o.slots,f c o j q⟩) (λc o j q n=>by rw[ae (NL (NA q))];show n)
    (λc o j q=>⟨o,f c o j q⟩) (λc ys q=>by rw[ae (aA q fr)];show q) (λc o z q=>by rw[ae (aA q fr)];show q)
    (λc ps q=>⟨#[],by rw[ae (aA q fr),q];simp⟩) (λm hm=>?_) hh I.bare
   ·obtain⟨f0,f1,f2,f3,f4,f5⟩:=V c g;show⟨f3,f1,f4,f5⟩
   ·obtain⟨o,Z,ep,U,r'⟩:=hm;show⟨o,Z,ep,f _ o (λg=>(V _ g).2.1 rfl) U,r'⟩
  show⟨.ref s.heap.objs.size,_,I1,rfl,⟨s.heap.objs.size,x,y,fr,rfl,rfl,λzs hy=>by rw[I.list_inj hy hq];show hx,λzs T=>by rw[I.list_inj T Q];show hy⟩,⟨hv,?_,⟨u,u2,(l.2 TO D.TOz).trans ho⟩,hi.extBut l.extBut D.i1z,he.extBut l.extBut D.i2z⟩,λc g=>?_⟩
  ·show(l.2 TI D.TIz).trans (hj TI _ D.TIz D.TITO D.TIi1 D.TIi2 r)
  ·rw[ae (NL (hl c g))];show un c g
 done:=by
  intro X hP hw hK g i S s Y H E I V R hg;subst hP hw hK;obtain⟨T,r,⟨x0,y0,B⟩,C,F⟩:=R;obtain⟨xs,ys,hq,Q,hx⟩:=hg;obtain⟨hr,rv,p,ga⟩:=I.list hq;obtain⟨hp,W,p2,hn⟩:=I.list Q;let D:=Cu nd p.isList p2.isList T r B C F;let l1:=rv.length;let l2:=W.length;show wpAny_pyNext_zip_end (I.ok.hd g) D T r B C F p.isList p2.isList (hx.imp (λh=>by simp;lia) λh=>by simp;lia) λh' kk=>⟨rfl,?_⟩;let un:∀c∈[z,TI,TO,M,L],H c=QI:=λc g=>(V c g).1
  let f:∀c o,c∉[z,TI,TO,M,L]->s.heap.get? c=QH o->h'.get? c=QH o:=λc o n q=>
   kk c o (λe=>n (by simp[e])) (λe=>n (by simp[e])) (λe=>n (by simp[e])) (λe=>n (by simp[e])) q
  let N:∀c o,H c=QH o->c∉[z,TI,TO,M,L]:=λc o q g=>by rw[un c g] at q;cases q
  show I.step (λc g=>?_) (λc o _ _ j q _=>f c o j q)
   (λc o _ _ j q _=>⟨o.slots,f c o j q⟩) (λ_ _ _ _ n=>n)
   (λc o j q=>⟨o,f c o j q⟩) (λ_ _ q=>q) (λ_ _ _ q=>q)
   (λc ps q=>⟨#[],by rw[q];simp⟩) (λm hm=>?_) (λc o q=>?_) I.bare
  ·obtain⟨f0,f1,f2,f3,f4,f5⟩:=V c g;show⟨f3,f1,f4,f5⟩
  ·obtain⟨o,Z,ep,U,r'⟩:=hm;show⟨o,Z,ep,f _ o (λg=>(V _ g).2.1 rfl) U,r'⟩
  ·show(I.hok c o q).stay (λd v t A=>f d v ?_ A) (λd A=>A) λd ys A=>A;rcases t with rfl|t
   ·show N _ _ q
   ·show N _ _ t
 self:=λ_ _ _ _ _ R h=>wpAny_pyIter_zip R.1 h
section
variable {X:Cx}
def K9(K:Np)(ta:TA):TI:=λY H R=>ta Y H λvs H1=>∃a b,vs=[.ref a,.ref b]/\(∃xs,SqL K H1 a xs)/\(∃ys,SqL K H1 b ys)/\R (K8 K a b) H1
theorem Em{a b:QN}(z:Gl X "zip")(N:X.mg "zip" = QI)(A:PA X [a,b] ta)(M:QU [a,b] X.env=[(QL,eval a X.env),(QL,eval b X.env)])(hs2:QU [b] X.env=[(QL,eval b X.env)]) :
  PI X (.Tuple es kk tp) (.Call (.Name "zip" p) [a,b] [] pos) (K9 X.K ta):=by
 intro d s Y H R I h;show Call_ (dM I z N boot_zip (PyProof.Rows.callWith_type1 (aV (A pos d s Y H _ I h) λS s1 ⟨W,u,i,f,L⟩=>?_) (by rw[M,hs2]) (by rw[hs2];rfl)));obtain⟨l,x,e,⟨Z,hq⟩,⟨U,n⟩,q⟩:=L;subst e
 cases f with
 |cons P f=>cases f with
  |cons O f=>
   cases f;cases P;cases O;obtain⟨C,V,F,T⟩:=i.list hq;obtain⟨v,D,j,y⟩:=i.list n;show call_zip_2 F.isList j.isList λB t k r m o E hk=>?_;show wpAny_pyIter_zip t ?_;let Q:Inv X d Y u { s1 with heap:=B }:=i.kept hk
   show⟨s1.heap.objs.size+4,[s1.heap.objs.size+4,s1.heap.objs.size+2,s1.heap.objs.size+3,s1.heap.objs.size,s1.heap.objs.size+1],_,_,u,rfl,Q,xw l x _ _ _ _ _ (by simp<;>lia),⟨t,k,⟨_,_,r⟩,m,o⟩,λc w=>?_,q⟩
   let g:s1.heap.objs.size<=c:=by
    simp only[NB,NQ,or_false] at w;rcases w with rfl|rfl|rfl|rfl|rfl
    ·show OZ _ _
    ·show OZ _ _
    ·show OZ _ _
    ·show Ny _
    ·show OZ _ _
   show i.fpOk g (i.hok.fresh g)
end
end G
namespace L2
open PyProof.Rows
section
variable {X:Cx} {pins:List (QO×Obj)} {Y:St} {H:Hp} {s:QP}
def iP(wi:TI)(g:TG)(tt:TT)(te:TE)(cap:List (Option Nat)):TE:=λY H Q=>wi Y H λJ H1=>∀D,H1 D=QI->∃W:Nat->Nat->St->Hp->Prop,(∃m,W 0 m (cx Y cap) (upd H1 D (.lst [])))/\∀i m Y' H',W i m Y' H'->
 (J.stop i H'/\Q (.ref D) H')\/(J.go i H'/\∀x H2,J.yld i H' x H2->g x Y' H2 λO B=>tt O B λok B=>if ok=QJ then te O B λy R=>∃ys,R D=QH (.lst ys)/\ys.length<sizeLine/\∃q,q<m/\W (i+1) q O (upd R D (.lst (ys++[y]))) else ∃q,q<m/\W (i+1) q O B)
def AN(X:Cx)(ifs:List QN)(q:TT):Prop:=∀(pins:List (QO×Obj)) (s:QP) (Y:St) (H:Hp) (Q:Bool->Hp->Prop),Inv X pins Y H s->q Y H Q->
 QR (QS X.prog X.w) X.A (forIn ifs QJ λc r=>if r=QJ then do let B <- isTrue c X.env (eval c X.env);pure (ForInStep.yield B) else pure (ForInStep.yield r)) (TP X pins Y Q) X.xe s
theorem tz:AN X [] (λ_ H Q=>Q QJ H):=λa s Y H Q I h=>wpAny_tests_nil ⟨H,I,h⟩
theorem AO{c:QN}(h:PT X c t):AN X [c] t:=λa s Y H Q I q=>wpAny_tests_one (h a s Y H Q I q)
theorem mh(hc:X.calm=QJ)(O:eV X N' scope cap)(hi:PI X tg iter wi)(hg:∀C s H ex,PG (ai X N' scope C s H ex) tg g)(ht:∀C s H ex,AN (ai X N' scope C s H ex) ifs tt)(he:∀C s H ex,PE (ai X N' scope C s H ex) elt te){Q:VK}(I:Inv X pins Y H s)(h:iP wi g tt te cap Y H Q)(hs:∀x,foldedSetIterable iter X.env x=pure x)(hX:X.xe=E)(hQ:∀(C D:QO) (s1:QP) (H1:Hp) (f:List QO) (Y':St) (H':Hp) (s':QP),Inv X pins Y H1 s1->(∀b∈f,iK X pins H1 b)->Inv (ai X N' scope C s1 H1 f) [] Y' H' s'->Q (.ref D) H'->
   compPost (QS X.prog X.w) X.A E use Q' (.ref D) C (.ok .next) s') :
  QR (QS X.prog X.w) X.A (comprehension (.ListComp elt [⟨tg,iter,ifs,0⟩] scope pos) scope X.env cpos (newList []) QL (eval iter X.env) use) Q' E s:=by
 let hj:closureFor scope X.env=pure (fP X.env.cells scope.names []):=fX λy hy e=>I.ok.has _ (O.free y hy e);show wpAny_comprehension_free rfl hs hj O.kind O.names ?_;subst hX;show aV (hi pins s Y H _ I h) λv s1 h1=>aV h1 λh3 s2 h2=>?_;obtain⟨it,f,tn,J,K,e,I2,T,ha,f2,hW⟩:=h2;subst e;show Q5 (fY ?_);dsimp only;generalize z:s2.heap.push { cls:=.type "list",dict:=QI,data:=.seq ([]:List QK).toArray }=HH;let hd:HH.objs.size=s2.heap.objs.size+1:=by rw[<- z,OQ]
 let hx:s2.heap.objs.size<HH.objs.size:=by rw[hd];show OD _
 generalize B:pushCells (HH.push { cls:=.type "dict",data:=.dict #[] }) scope.names=h₁;let kp:∀b o,HH.get? b=QH o->h₁.get? b=QH o:=λb o e=>B▸pushCells_keeps _ _ b o (Nw _ e);let R:h₁.Ns HH.objs.size λ_=>QI:=B▸(Heap.Ns.new HH (.type "dict")).keeps (pushCells_keeps _ _)
 let hv:∀x c,(Q2 (HH.objs.size+1) scope.names []).lookup x=QH c->h₁.IsCell c QI:=λx c e=>by
  let ok:=cellsFrom_ok scope.names (HH.push { cls:=.type "dict",data:=.dict #[] }) 0 [] ⟨λ_ _ hm=>(nomatch hm),List.Pairwise.nil⟩ (NZ _)
  rw[OQ] at ok;show B▸(ok.empty x c (bU e)).1
 let L:∀b o,s2.heap.get? b=QH o->h₁.get? b=QH o:=λb o e=>kp b o (z▸Nw _ e);let hl:h₁.get? s2.heap.objs.size=QH { cls:=.type "list",data:=.seq ([]:List QK).toArray }:=kp _ _ (z▸NI _ rfl);let hf:∀b∈f,b<s2.heap.objs.size:=λb a=>let ⟨o,e,_⟩:=T.obj 0 _ ha b a;NA e;let F:=I2.hok.fresh (Ny s2.heap.objs.size);obtain⟨W,⟨m0,w0⟩,U⟩:=hW s2.heap.objs.size F;let J0:=oU (tk:=s2.toks) (o:=.lst []) I2 O f2 hf (by rw[hd];show OP _) (Ny _) hx hv R L ⟨NZ _,[],_,.nil,hl⟩;let M:tn 0 h₁:=T.keep 0 _ _ ha λb _ o e=>L b o e
 let hw:∀b∈f,(upd K s2.heap.objs.size (.lst [])) b=QI:=λb a=>by
  rw[ae (NL (hf b a))];show(f2 b a).1
 let j:∀{H':Hp},(∀b∈f,H' b=QI)->∀b∈f,iK (ai X N' scope HH.objs.size s2 K f) [] H' b:=λhn b a=>
  ⟨hn b a,(J0.ok.exf b a).1,J0.ok.exfs b a,.inl a,(J0.ok.exf b a).2,λp hp=>absurd hp (by simp[ai])⟩
 let t:codeAny (QS X.prog X.w) X.A (.compLoop (.ListComp elt [⟨tg,iter,ifs,0⟩] scope pos) 0 (.ref it) (.ref s2.heap.objs.size) (compEnvC scope (Ek X.env.cells scope.names HH.objs.size) HH.objs.size X.env))
   (compPost (QS X.prog X.w) X.A X.xe use Q' (.ref s2.heap.objs.size) HH.objs.size) { s2 with heap:=h₁,toks:=s2.toks }:=by
  show nh (λn s'=>∃i Y' H',Inv (ai X N' scope HH.objs.size s2 K f) [] Y' H' s'/\tn i s'.heap/\(∀b∈f,H' b=QI)/\W i n Y' H') ?_ m0 ⟨0,_,_,J0,M,hw,w0⟩
  rintro n s3 ⟨i,Y3,H3,I3,V,Z,w3⟩
  rcases U i n Y3 H3 w3 with⟨N,qn⟩|⟨go,P⟩
  ·show aV (T.done (ai X N' scope HH.objs.size s2 K f) rfl rfl rfl hc i [] s3 Y3 H3 _ I3 (j Z) V N) λr s4 ⟨hr,I4⟩=>?_;subst hr;show hQ _ _ s2 K f Y3 H3 s4 I2 f2 I4 qn
  ·show aV (T.item (ai X N' scope HH.objs.size s2 K f) rfl rfl rfl hc i [] s3 Y3 H3 _ I3 (j Z) V go) λr s4 ⟨u,hr,h4⟩=>?_;subst hr;show aV h4 λ_ s5 l=>?_;obtain⟨x,H5,I5,r5,y5,k,hu⟩:=l;let h0:=I5.pinned (j hu) (T.obj _ _ k);show aV (hg _ _ _ _ _ s5 Y3 H5 x u _ h0 r5 (P x H5 y5)) λ_ s6 l=>?_;obtain⟨S,H6,I6,q6⟩:=l;show aV (ht _ _ _ _ _ s6 S H6 _ I6 q6) λok hh l=>?_;obtain⟨ho,q,m⟩:=l
   cases ok with
   |false=>
    rw[if_neg NV] at m⊢;obtain⟨m',hm,w7⟩:=m;show⟨m',hm,i+1,S,_,q.unpinned,T.keep _ _ _ k λb a o e=>(q.pin (b,o) (Nx _ (Nx _ (bc a e)))).1,λb a=>?_,w7⟩;obtain⟨o,e,d⟩:=T.obj _ _ k b a;show(q.pin (b,o) (Nx _ (Nx _ (bc a e)))).2.1
   |true=>
   rw[if_pos rfl] at m⊢;show aV (he _ _ _ _ _ hh S ho _ q m) λyv s7 l=>?_;obtain⟨y,H7,I7,r7,ys,hD,l,m',hm,w7⟩:=l;show aV (l7 _ s7 S H7 (.ref s2.heap.objs.size) [y] (.ref s2.heap.objs.size) [yv] (λv H'=>v=.non/\H'=upd H7 s2.heap.objs.size (.lst (ys++[y]))) I7 rfl (.cons r7 .nil) ⟨_,ys,y,rfl,rfl,hD,l,rfl,rfl⟩) λ_ s8 l=>?_;obtain⟨_,H8,I8,_,_,e8⟩:=l;subst e8;show⟨m',hm,i+1,S,_,I8.unpinned,T.keep _ _ _ k λb a o e=>(I8.pin (b,o) (Nx _ (Nx _ (bc a e)))).1,λb a=>?_,w7⟩;obtain⟨o,e,d⟩:=T.obj _ _ k b a;show(I8.pin (b,o) (Nx _ (Nx _ (bc a e)))).2.1
 show codeAny_compStart_list t (T.self _ 0 _ _ _ M t)
theorem oV(n:X.calm=QJ)(O:eV X N' scope cap)(hi:PI X tg iter wi)(f:∀C s H ex,PG (ai X N' scope C s H ex) tg g)(e:∀C s H ex,AN (ai X N' scope C s H ex) ifs tt)(j:∀C s H ex,PE (ai X N' scope C s H ex) elt te)(d:∀x,foldedSetIterable iter X.env x=pure x:=by intro _;rfl):PE X (.ListComp elt [⟨tg,iter,ifs,0⟩] scope pos) (iP wi g tt te cap):=by
 intro b s Y H Q I h;rw[eval_ListComp];show mh n O hi f e j I h d rfl λC D s1 t r u k o l c J q=>?_;obtain⟨m,i,_⟩:=J.loc;show⟨m,i,λp a=>⟨.ref D,k,gW l c J a,rfl,q⟩⟩
theorem xx{cpos pos' pos:Pos}{i:Nat}(hc:X.calm=QJ)(O:eV X N' scope cap)(hi:PI X tg iter wi)(P:∀C s H ex,PG (ai X N' scope C s H ex) tg g)(W:∀C s H ex,AN (ai X N' scope C s H ex) ifs tt)(T:∀C s H ex,PE (ai X N' scope C s H ex) elt te)(V:∀x,foldedSetIterable iter X.env x=pure x)(Q:X.N.Nodup)(z:X.N[i]?=QH x)(hx:Ck X.env.scope x)(R:X.fn x=QJ\/X.env.scope.names.lookup x=QH .local)(t:swapsWith (.ListComp elt [⟨tg,iter,ifs,0⟩] scope cpos) (QH (.Name x pos')) pos.line X.env=pure QJ) :
  PS X (.Assign [.Name x pos'] (.ListComp elt [⟨tg,iter,ifs,0⟩] scope cpos) pos) (Aq (iP wi g tt te cap) (gN i)):=by
 intro d s Y H D I h;rw[exec_Assign_Name_used _ _ _ _ t];show QM (wpAny_standAt (QM ?_));show QM (wpAny_mono (mh hc O hi P W T I h V rfl λC Z s1 H1 fp Y' E w l K J q=>?_) (λ_ w hq=>QQ (QQ hq)) λ_ _ e=>e);let I2:Inv X d Y E w:=gW l K J (Heap.SameBut.refl C w.heap);let B:s1.heap.objs.size<=C:=J.ok.above;let f:∀b o,s1.heap.get? b=QH o->b≠C:=λb o e=>NL (ND (NA e) B);obtain⟨m1,⟨oL,_,_,F,_⟩,_⟩:=id l.loc;let A:X.env.locals≠C:=f _ _ F
 let k:∀x c,X.env.cells.lookup x=QH c->c≠C:=λx c e=>by
  obtain⟨v,o,g,_⟩:=l.cell x c e;show f _ _ g
 let n:∀p∈X.pn++d,p.1≠C:=λp L=>f _ _ (l.pin p L).1
 let U:X.s₀.heap.objs.size<=C:=by
  show NT ?_ B;show O7 (Os l.ok.above (NA F))
 obtain⟨m,S,_⟩:=J.loc;show wpAny_assign_Name (iI I2 Q z hx (v:=.ref Z) rfl (λs3 M j=>?_) R);obtain⟨a,j,r⟩:=j
 let u:C≠a:=by
  rcases r with rfl|r
  ·show Ne.symm A
  ·show Ne.symm (k _ _ r)
 show⟨m,S.sameBut j u,λh' y=>⟨_,E,M.junk y U A k n J.free,q⟩⟩
end
end L2
namespace J
open PyProof.Rows
abbrev DK:=aN ⊕ List (aN ⊕ List aN)
inductive Hd where
 |lst|tup|dic (t:Nat) (ks:List DK)|obj (c:Str) (ns:List Str)
 deriving DecidableEq
inductive D where
 |non|bl (b:Bool)|int (i:Int)|str (x:Str)|scr (ns:List Int)|nd (h:Hd) (ds:List D)
noncomputable abbrev D.lst(ds:List D):D:=.nd .lst ds
noncomputable abbrev D.tup(ds:List D):D:=.nd .tup ds
noncomputable abbrev D.dic(t:Nat)(ks:List DK)(ds:List D):D:=.nd (.dic t ks) ds
noncomputable abbrev D.obj(c:Str)(ns:List Str)(ds:List D):D:=.nd (.obj c ns) ds
noncomputable def Hd.mu:Hd->Bool
 |.tup=>QL
 |_=>QJ
def HE(K:Np)(a:QO)(xs:List V):Prop:=
 ∃(o:Obj) (q:Array QK) (n:Nat),K.lookup a=QH o/\o.cls=.type "list"/\o.dict=QI/\o.data=.seq q n/\q.size<=sizeLine/\Vals xs q.toList
def cP(K:Np)(o:HO):Hd->List V->Prop
 |.lst,xs=>o=.lst xs
 |.tup,xs=>o=.tup xs
 |.dic t ks,xs=>(t=0/\∃q:List (aN×V),o=.dK q/\ks=q.map (λp=>Sum.inl p.1)/\xs=q.map (·.2))\/(∃m,t=m+1/\∃(q:List (List (aN ⊕ List aN)×V)) (ep:Nat),o=.dT m ep q/\ks=q.map (λp=>Sum.inr p.1)/\xs=q.map (·.2))
 |.obj c ns,xs=>∃C dx,Oa K QZ c=QH (QH (.ref C))/\(Cls K C/\∀f∈ns,NoAttr K C f)/\o=.ins C dx (ns.zip xs)/\ns.length=xs.length
abbrev Pr:=QO->Prop
mutual
def Rp(K:Np)(H:Hp)(S:Pr):D->V->Prop
 |.non,v=>v=.non
 |.bl b,v=>v=.bl b
 |.int i,v=>v=.int i
 |.str x,v=>v=.str x
 |.scr ns,v=>∃a,v=.ref a/\((¬S a/\Rd H a (.lst (ns.map V.int)))\/HE K a (ns.map V.int))
 |.nd h ds,v=>∃a o xs,v=.ref a/\¬S a/\H a=QH o/\cP K o h xs/\RpL K H S ds xs
def RpL(K:Np)(H:Hp)(S:Pr):List D->List V->Prop
 |[],xs=>xs=[]
 |d::ds,xs=>∃y ys,xs=y::ys/\Rp K H S d y/\RpL K H S ds ys
end
section
variable {K:Np} {H H':Hp} {S S':Pr}
mutual
theorem Rp.go(k:∀b o,¬S b->H b=QH o->H' b=QH o/\¬S' b):∀{d:D} {v:V},Rp K H S d v->Rp K H' S' d v
 |.non,_,h=>h
 |.bl _,_,h=>h
 |.int _,_,h=>h
 |.str _,_,h=>h
 |.scr ns,v,h=>by
  unfold Rp at h⊢;obtain⟨a,e,h⟩:=h;show⟨a,e,?_⟩;rcases h with⟨n,g|⟨o,g⟩⟩|h
  ·show .inl ⟨(k _ _ n g).2,.inl (k _ _ n g).1⟩
  ·show .inl ⟨(k _ _ n g).2,.inr ⟨o,(k _ _ n g).1⟩⟩
  ·show .inr h
 |.nd hd ds,v,h=>by
  unfold Rp at h⊢;obtain⟨a,o,c,e,n,g,q,r⟩:=h;show⟨a,o,c,e,(k _ _ n g).2,(k _ _ n g).1,q,RpL.go k r⟩
theorem RpL.go(k:∀b o,¬S b->H b=QH o->H' b=QH o/\¬S' b):∀{ds:List D} {vs:List V},RpL K H S ds vs->RpL K H' S' ds vs
 |[],_,h=>by unfold RpL at h⊢;show h
 |d::ds,_,h=>by
  unfold RpL at h⊢;obtain⟨y,a,e,r,t⟩:=h;show⟨y,a,e,Rp.go k r,RpL.go k t⟩
end
theorem Rp.same(s:Same H H')(h:Rp K H S d v):Rp K H' S d v:=h.go λb o n e=>⟨s b o e,n⟩
theorem RpL.same(s:Same H H')(h:RpL K H S d v):RpL K H' S d v:=h.go λb o n e=>⟨s b o e,n⟩
theorem Rp.weak(k:∀b,S' b->S b){d:D}{v:V}(h:Rp K H S d v):Rp K H S' d v:=h.go λb o n e=>⟨e,λz=>n (k b z)⟩
theorem RpL.weak(k:∀b,S' b->S b)(h:RpL K H S d v):RpL K H S' d v:=h.go λb o n e=>⟨e,λz=>n (k b z)⟩
theorem RpL.len:∀{ds:List D} {vs:List V},RpL K H S ds vs->vs.length=ds.length
 |[],_,h=>by unfold RpL at h;rw[h];rfl
 |d::ds,_,h=>by
  unfold RpL at h;obtain⟨y,a,rfl,_,t⟩:=h;rw[N3,N3,RpL.len t]
theorem RpL.nil:RpL K H S [] []:=by unfold RpL;rfl
theorem RpL.cons{d:D}{v:V}{ds:List D}{vs:List V}(h1:Rp K H S d v)(h2:RpL K H S ds vs):RpL K H S (d::ds) (v::vs):=by unfold RpL;show⟨v,vs,rfl,h1,h2⟩
theorem RpL.nil_inv(h:RpL K H S [] vs):vs=[]:=by unfold RpL at h;show h
theorem RpL.cons_inv(h:RpL K H S (d::ds) vs):∃y ys,vs=y::ys/\Rp K H S d y/\RpL K H S ds ys:=by unfold RpL at h;show h
theorem RpL.getD:∀{ds:List D} {vs:List V} {i:Nat} {d:D},RpL K H S ds vs->ds[i]?=QH d->∃v,vs[i]?=QH v/\Rp K H S d v
 |[],_,_,_,_,e=>by simp at e
 |d::ds,_,0,d',h,e=>by obtain⟨y,a,rfl,r,t⟩:=h.cons_inv;simp at e;subst e;show⟨y,rfl,r⟩
 |d::ds,_,i+1,d',h,e=>by obtain⟨y,a,rfl,r,t⟩:=h.cons_inv;simpa using RpL.getD t (by simpa using e)
theorem RpL.append:∀{ds es:List D} {vs us:List V},RpL K H S ds vs->RpL K H S es us->RpL K H S (ds++es) (vs++us)
 |[],_,_,_,h,g=>by rw[h.nil_inv];show g
 |d::ds,_,_,_,h,g=>by obtain⟨y,a,rfl,r,t⟩:=h.cons_inv;show .cons r (RpL.append t g)
theorem RpL.take:∀{ds:List D} {vs:List V} (n:Nat),RpL K H S ds vs->RpL K H S (ds.take n) (vs.take n)
 |_,_,0,_=>by simpa using RpL.nil
 |[],_,_+1,h=>by rw[h.nil_inv];simpa using RpL.nil
 |d::ds,_,n+1,h=>by obtain⟨y,a,rfl,r,t⟩:=h.cons_inv;show .cons r (RpL.take n t)
theorem RpL.drop:∀{ds:List D} {vs:List V} (n:Nat),RpL K H S ds vs->RpL K H S (ds.drop n) (vs.drop n)
 |_,_,0,h=>h
 |[],_,_+1,h=>by rw[h.nil_inv];simpa using RpL.nil
 |d::ds,_,n+1,h=>by obtain⟨y,a,rfl,r,t⟩:=h.cons_inv;show RpL.drop n t
theorem RpL.set:∀{ds:List D} {vs:List V} (n:Nat) {d:D} {v:V},RpL K H S ds vs->Rp K H S d v->RpL K H S (ds.set n d) (vs.set n v)
 |[],_,_,_,_,h,_=>by rw[h.nil_inv];simpa using RpL.nil
 |d::ds,_,0,_,_,h,g=>by obtain⟨y,a,rfl,r,t⟩:=h.cons_inv;show .cons g t
 |d::ds,_,n+1,_,_,h,g=>by obtain⟨y,a,rfl,r,t⟩:=h.cons_inv;show .cons r (RpL.set n t g)
theorem RpL.rep(h:RpL K H S ds vs):∀n:Nat,RpL K H S (N1 n ds).flatten (N1 n vs).flatten
 |0=>by simpa using RpL.nil
 |n+1=>by simpa[Oy] using h.append (h.rep n)
theorem RpL.ints:∀ns:List Int,RpL K H S (ns.map D.int) (ns.map V.int)
 |[]=>.nil
 |n::ns=>.cons (by unfold Rp;rfl) (RpL.ints ns)
theorem RpL.erase:∀{ds:List D} {vs:List V} (n:Nat),RpL K H S ds vs->RpL K H S (ds.eraseIdx n) (vs.eraseIdx n)
 |[],_,_,h=>by rw[h.nil_inv];simpa using RpL.nil
 |d::ds,_,0,h=>by obtain⟨y,a,rfl,r,t⟩:=h.cons_inv;show t
 |d::ds,_,n+1,h=>by obtain⟨y,a,rfl,r,t⟩:=h.cons_inv;show .cons r (RpL.erase n t)
end
mutual
def qZ:D->Bool
 |.nd h ds=>!h.mu&&AQ ds
 |.scr _=>QL
 |_=>QJ
def AQ:List D->Bool
 |[]=>QJ
 |d::ds=>qZ d&&AQ ds
end
def MuOk(H:Hp)(S:Pr):Prop:=∀a,S a->∃o,H a=QH o/\∀xs,o≠.tup xs
section
variable {K:Np} {H:Hp} {S S':Pr}
mutual
theorem Rp.im(m:MuOk H S'):∀{d:D} {v:V},qZ d=QJ->Rp K H S d v->Rp K H S' d v
 |.non,_,_,h=>h
 |.bl _,_,_,h=>h
 |.int _,_,_,h=>h
 |.str _,_,_,h=>h
 |.scr ns,v,i,h=>by simp[qZ] at i
 |.nd hd ds,v,i,h=>by
  unfold Rp at h⊢;obtain⟨a,o,f,e,n,g,q,r⟩:=h;rw[qZ,Nr] at i;show⟨a,o,f,e,λz=>?_,g,q,RpL.im m i.2 r⟩;obtain⟨j,b,c⟩:=m a z;rw[g] at b;cases b
  cases hd with
  |tup=>show c _ q
  |_=>show absurd i.1 (by simp[Hd.mu])
theorem RpL.im(m:MuOk H S'):∀{ds:List D} {vs:List V},AQ ds=QJ->RpL K H S ds vs->RpL K H S' ds vs
 |[],_,_,h=>by unfold RpL at h⊢;show h
 |d::ds,_,i,h=>by
  rw[AQ,Nr] at i;obtain⟨y,a,rfl,r,t⟩:=h.cons_inv;show .cons (Rp.im m i.1 r) (RpL.im m i.2 t)
end
end
inductive Ow where
 |fz|own (es:List Ow) (r:Ow)
mutual
def Tr(K:Np)(H:Hp)(S:Pr):D->Ow->V->Pr->Prop
 |.nd h ds,.own es r,v,F=>∃a o xs F',v=.ref a/\H a=QH o/\cP K o h xs/\(h.mu=QJ->¬F' a)/\(h.mu=QL->¬S a)/\(∀b,F b↔(h.mu=QJ/\b=a)\/F' b)/\TrL K H S ds es r xs F'
 |d,_,v,F=>(∀b,¬F b)/\Rp K H S d v
def TrL(K:Np)(H:Hp)(S:Pr):List D->List Ow->Ow->List V->Pr->Prop
 |[],_,_,xs,F=>xs=[]/\∀b,¬F b
 |d::ds,es,r,xs,F=>∃y ys F1 F2,xs=y::ys/\(∀b,F b↔F1 b\/F2 b)/\(∀b,F1 b->¬F2 b)/\Tr K H S d (es.headD r) y F1/\TrL K H S ds es.tail r ys F2
end
section
variable {K:Np} {H H':Hp} {S S':Pr}
mutual
theorem Tr.go:∀{d:D} {k:Ow} {v:V} {F:Pr},(∀b o,(¬S b\/F b)->H b=QH o->H' b=QH o)->(∀b o,H b=QH o->¬S b->¬S' b)->Tr K H S d k v F->Tr K H' S' d k v F
 |.non,_,_,_,k1,k2,h=>by unfold Tr at h⊢;show⟨h.1,h.2⟩
 |.bl _,_,_,_,k1,k2,h=>by unfold Tr at h⊢;show⟨h.1,h.2⟩
 |.int _,_,_,_,k1,k2,h=>by unfold Tr at h⊢;show⟨h.1,h.2⟩
 |.str _,_,_,_,k1,k2,h=>by unfold Tr at h⊢;show⟨h.1,h.2⟩
 |.scr ns,_,_,_,k1,k2,h=>by unfold Tr at h⊢;show⟨h.1,h.2.go λb o n e=>⟨k1 b o (.inl n) e,k2 b o e n⟩⟩
 |.nd hd ds,.fz,_,_,k1,k2,h=>by unfold Tr at h⊢;show⟨h.1,h.2.go λb o n e=>⟨k1 b o (.inl n) e,k2 b o e n⟩⟩
 |.nd hd ds,.own es r,v,F,k1,k2,h=>by
  unfold Tr at h⊢;obtain⟨a,o,p,j,e,g,q,l,i,f,t⟩:=h
  let m:H' a=QH o:=by
   cases c:hd.mu with
   |true=>show k1 a o (.inr ((f a).mpr (.inl ⟨c,rfl⟩))) g
   |false=>show k1 a o (.inl (i c)) g
  show⟨a,o,p,j,e,m,q,l,λc=>k2 a o g (i c),f,TrL.go (λb o h=>k1 b o (h.imp id λz=>(f b).mpr (.inr z))) k2 t⟩
theorem TrL.go:∀{ds:List D} {es:List Ow} {r:Ow} {vs:List V} {F:Pr},(∀b o,(¬S b\/F b)->H b=QH o->H' b=QH o)->(∀b o,H b=QH o->¬S b->¬S' b)->TrL K H S ds es r vs F->TrL K H' S' ds es r vs F
 |[],_,_,_,_,_,_,h=>by unfold TrL at h⊢;show h
 |d::ds,es,r,vs,F,k1,k2,h=>by
  unfold TrL at h⊢;obtain⟨y,f,k,c,e,a,i,j,g⟩:=h;show⟨y,f,k,c,e,a,i,Tr.go (λb o h=>k1 b o (h.imp id λz=>(a b).mpr (.inl z))) k2 j,TrL.go (λb o h=>k1 b o (h.imp id λz=>(a b).mpr (.inr z))) k2 g⟩
end
mutual
theorem Tr.rp:∀{d:D} {k:Ow} {v:V} {F:Pr},(∀b,S' b->S b/\¬F b)->Tr K H S d k v F->Rp K H S' d v
 |.non,_,_,_,k2,h=>by unfold Tr at h;show h.2
 |.bl _,_,_,_,k2,h=>by unfold Tr at h;show h.2
 |.int _,_,_,_,k2,h=>by unfold Tr at h;show h.2
 |.str _,_,_,_,k2,h=>by unfold Tr at h;show h.2
 |.scr ns,_,_,_,k2,h=>by unfold Tr at h;show h.2.weak λb z=>(k2 b z).1
 |.nd hd ds,.fz,_,_,k2,h=>by unfold Tr at h;show h.2.weak λb z=>(k2 b z).1
 |.nd hd ds,.own es r,v,F,k2,h=>by
  unfold Tr at h;unfold Rp;obtain⟨a,o,l,m,e,g,q,n,j,c,t⟩:=h;show⟨a,o,l,e,λz=>?_,g,q,TrL.rp (λb z=>⟨(k2 b z).1,λi=>(k2 b z).2 ((c b).mpr (.inr i))⟩) t⟩
  cases f:hd.mu with
  |true=>show(k2 a z).2 ((c a).mpr (.inl ⟨f,rfl⟩))
  |false=>show j f (k2 a z).1
theorem TrL.rp:∀{ds:List D} {es:List Ow} {r:Ow} {vs:List V} {F:Pr},(∀b,S' b->S b/\¬F b)->TrL K H S ds es r vs F->RpL K H S' ds vs
 |[],_,_,_,_,_,h=>by unfold TrL at h;unfold RpL;show h.1
 |d::ds,es,r,vs,F,k2,h=>by
  unfold TrL at h;obtain⟨y,i,k,g,rfl,c,j,f,e⟩:=h;show .cons (Tr.rp (λb z=>⟨(k2 b z).1,λa=>(k2 b z).2 ((c b).mpr (.inl a))⟩) f) (TrL.rp (λb z=>⟨(k2 b z).1,λa=>(k2 b z).2 ((c b).mpr (.inr a))⟩) e)
end
theorem Tr.rd(h:Tr K H S d k v F):Rp K H (λ_=>False) d v:=h.rp λb z=>z.elim
theorem Tr.fz(h:Rp K H S d v):Tr K H S d .fz v (λ_=>False):=by
 cases d<;>(unfold Tr;show⟨λb z=>z,h⟩)
theorem Tr.fz_inv{F:Pr}(h:Tr K H S d .fz v F):(∀b,¬F b)/\Rp K H S d v:=by
 cases d<;>(unfold Tr at h;show h)
mutual
theorem Tr.dom:∀{d:D} {k:Ow} {v:V} {F:Pr},Tr K H S d k v F->∀b,F b->∃o,H b=QH o/\∀xs,o≠.tup xs
 |.non,_,_,_,h=>by unfold Tr at h;show λb z=>absurd z (h.1 b)
 |.bl _,_,_,_,h=>by unfold Tr at h;show λb z=>absurd z (h.1 b)
 |.int _,_,_,_,h=>by unfold Tr at h;show λb z=>absurd z (h.1 b)
 |.str _,_,_,_,h=>by unfold Tr at h;show λb z=>absurd z (h.1 b)
 |.scr ns,_,_,_,h=>by unfold Tr at h;show λb z=>absurd z (h.1 b)
 |.nd hd ds,.fz,_,_,h=>by unfold Tr at h;show λb z=>absurd z (h.1 b)
 |.nd hd ds,.own es r,v,F,h=>by
  unfold Tr at h;obtain⟨a,o,xs,l,e,g,q,m,n,f,t⟩:=h;intro b z;rcases(f b).mp z with⟨hm,rfl⟩|z
  ·show⟨o,g,λj i=>?_⟩;subst i
   cases hd with
   |tup=>show absurd hm (by simp[Hd.mu])
   |lst=>cases q
   |dic t p=>rcases q with⟨_,_,e,_⟩|⟨_,_,_,_,e,_⟩<;>cases e
   |obj c ns=>obtain⟨_,_,_,_,e,_⟩:=q;cases e
  ·show TrL.dom t b z
theorem TrL.dom:∀{ds:List D} {es:List Ow} {r:Ow} {vs:List V} {F:Pr},TrL K H S ds es r vs F->∀b,F b->∃o,H b=QH o/\∀xs,o≠.tup xs
 |[],_,_,_,_,h=>by unfold TrL at h;show λb z=>absurd z (h.2 b)
 |d::ds,es,r,vs,F,h=>by
  unfold TrL at h;obtain⟨y,i,k,g,e,f,j,c,a⟩:=h;intro b z;rcases(f b).mp z with z|z
  ·show Tr.dom c b z
  ·show TrL.dom a b z
end
end
end J
namespace J
abbrev Gh:=QO->Option (Option Nat)
def Sx(g:Gh)(F:Pr):Pr:=λb=>g b≠QI\/F b
abbrev Sg(g:Gh):Pr:=λb=>g b≠QI
inductive Kd where
 |sh|fr (k:Ow)|bo (i:Nat) (k:Ow)
def VR1(K:Np)(H:Hp)(g:Gh)(Ft:Pr):Kd->D->V->Pr->Prop
 |.sh,d,v,F=>(∀b,¬F b)/\Rp K H (Sx g Ft) d v
 |.fr k,d,v,F=>Tr K H (Sx g Ft) d k v F
 |.bo i k,d,v,F=>(∀b,¬F b)/\∃q,(∀b,q b->g b=QH (QH i))/\Tr K H (Sx g Ft) d k v q
def VRL(K:Np)(H:Hp)(g:Gh)(Ft:Pr):List (Kd×D)->List V->Pr->Prop
 |[],vs,F=>vs=[]/\∀b,¬F b
 |(kd,d)::r,vs,F=>∃y ys F1 F2,vs=y::ys/\(∀b,F b↔F1 b\/F2 b)/\(∀b,F1 b->¬F2 b)/\VR1 K H g Ft kd d y F1/\VRL K H g Ft r ys F2
def VR(K:Np)(g:Gh)(H0 H:Hp)(q:Kd)(d:D)(v:V):Prop:=∃F:Pr,(∀b,F b->H0 b=QI)/\VR1 K H g F q d v F
def VRs(K:Np)(g:Gh)(H0 H:Hp)(kds:List (Kd×D))(vs:List V):Prop:=∃F:Pr,(∀b,F b->H0 b=QI)/\VRL K H g F kds vs F
section
variable {K:Np} {H H' H0 H1:Hp} {g:Gh} {Ft Ft' F:Pr}
theorem VR1.go(s:Same H H')(m:∀b o,H b=QH o->Ft' b->Ft b)(h:VR1 K H g Ft kd d v F):VR1 K H' g Ft' kd d v F:=by
 let a:∀b o,H b=QH o->¬Sx g Ft b->¬Sx g Ft' b:=λb o e n z=>n (z.imp id (m b o e))
 cases kd with
 |sh=>show⟨h.1,h.2.go λb o n e=>⟨s b o e,a b o e n⟩⟩
 |fr k=>show Tr.go (λb o _ e=>s b o e) a h
 |bo i k=>obtain⟨j,c,f,l⟩:=h;show⟨j,c,f,Tr.go (λb o _ e=>s b o e) a l⟩
theorem VR1.dom(h:VR1 K H g Ft kd d v F):∀b,F b->∃o,H b=QH o/\∀xs,o≠.tup xs:=by
 cases kd with
 |sh=>show λb z=>absurd z (h.1 b)
 |fr k=>show Tr.dom h
 |bo i k=>show λb z=>absurd z (h.1 b)
theorem VRL.dom:∀{kds:List (Kd×D)} {vs:List V} {F:Pr},VRL K H g Ft kds vs F->∀b,F b->∃o,H b=QH o/\∀xs,o≠.tup xs
 |[],_,_,h=>λb z=>absurd z (h.2 b)
 |(kd,d)::r,_,_,h=>by
  obtain⟨y,j,l,i,e,f,k,c,a⟩:=h;intro b z;rcases(f b).mp z with z|z
  ·show c.dom b z
  ·show VRL.dom a b z
theorem VR.same(s:Same H H')(h:VR K g H0 H kd d v):VR K g H0 H' kd d v:=
 let ⟨F,h1,h2⟩:=h;⟨F,h1,h2.go s λ_ _ _ z=>z⟩
theorem VR.older(s:Same H0 H1)(h:VR K g H1 H kd d v):VR K g H0 H kd d v:=
 let ⟨F,h1,h2⟩:=h;⟨F,λb z=>s.free (h1 b z),h2⟩
theorem VR1.rd(h:VR1 K H g Ft kd d v F):Rp K H (λ_=>False) d v:=by
 cases kd with
 |sh=>show h.2.weak λb z=>z.elim
 |fr k=>show Tr.rd h
 |bo i k=>obtain⟨_,c,_,a⟩:=h;show a.rd
theorem VR.rd(h:VR K g H0 H kd d v):Rp K H (λ_=>False) d v:=let ⟨F,h1,h2⟩:=h;h2.rd
theorem VRL.rd:∀{kds:List (Kd×D)} {vs:List V} {F:Pr},VRL K H g Ft kds vs F->RpL K H (λ_=>False) (kds.map (·.2)) vs
 |[],_,_,h=>by rw[h.1];show .nil
 |(kd,d)::r,_,_,h=>by
  obtain⟨y,e,i,c,rfl,j,f,b,a⟩:=h;show .cons b.rd (VRL.rd a)
def q0:Kd->D->Bool
 |.bo _ _,d=>qZ d
 |_,_=>QJ
theorem MuOk.same(m:MuOk H S)(s:Same H H'):MuOk H' S:=λa z=>let ⟨o,e,n⟩:=m a z;⟨o,s a o e,n⟩
theorem VR1.sh{S:Pr}(c:q0 kd d=QJ)(m:MuOk H S)(a:∀b,S b->(g b≠QI\/Ft b)/\¬F b)(h:VR1 K H g Ft kd d v F):Rp K H S d v:=by
 cases kd with
 |sh=>show h.2.weak λb z=>(a b z).1
 |fr k=>show Tr.rp (λb z=>⟨(a b z).1,(a b z).2⟩) h
 |bo i k=>obtain⟨_,j,f,e⟩:=h;show e.rd.im m c
theorem VR.sh(i:q0 kd d=QJ)(m:MuOk H0 (Sg g))(s:Same H0 H)(h:VR K g H0 H kd d v):Rp K H (Sg g) d v:=by
 obtain⟨F,c,a⟩:=h;show a.sh i (m.same s) λb z=>⟨.inl z,λf=>?_⟩;obtain⟨o,e,_⟩:=m b z;rw[c b f] at e;cases e
theorem VRL.sh{S:Pr}(m:MuOk H S):∀{kds:List (Kd×D)} {vs:List V} {F:Pr},(kds.all λp=>q0 p.1 p.2)=QJ->(∀b,S b->(g b≠QI\/Ft b)/\¬F b)->VRL K H g Ft kds vs F->RpL K H S (kds.map (·.2)) vs
 |[],_,_,_,_,h=>by rw[h.1];show .nil
 |(kd,d)::r,_,F,ok,hS,h=>by
  obtain⟨y,j,l,i,rfl,c,k,f,e⟩:=h;rw[Oz,Nr] at ok;show .cons (f.sh ok.1 m λb z=>⟨(hS b z).1,λa=>(hS b z).2 ((c b).mpr (.inl a))⟩) (VRL.sh m ok.2 (λb z=>⟨(hS b z).1,λa=>(hS b z).2 ((c b).mpr (.inr a))⟩) e)
theorem VRs.sh{kds:List (Kd×D)}(d:(kds.all λp=>q0 p.1 p.2)=QJ)(m:MuOk H0 (Sg g))(s:Same H0 H)(h:VRs K g H0 H kds vs):RpL K H (Sg g) (kds.map (·.2)) vs:=by
 obtain⟨F,c,a⟩:=h;show a.sh (m.same s) d λb z=>⟨.inl z,λf=>?_⟩;obtain⟨o,e,_⟩:=m b z;rw[c b f] at e;cases e
theorem VRs.rd{kds:List (Kd×D)}(h:VRs K g H0 H kds vs):RpL K H (λ_=>False) (kds.map (·.2)) vs:=let ⟨F,h1,h2⟩:=h;h2.rd
theorem VRs.nil:VRs K g H0 H [] []:=⟨λ_=>False,λb z=>z.elim,rfl,λb z=>z⟩
open Classical in
noncomputable def Gh.plus(g:Gh)(F:Pr):Gh:=λb=>if F b then QH QI else g b
theorem al(b:QO):Sg (g.plus F) b↔Sg g b\/F b:=by
 unfold Gh.plus Sg;by_cases h:F b
 ·simp[h]
 ·simp[h]
theorem bJ(h:g.plus F b=QH (QH i)):g b=QH (QH i):=by
 unfold Gh.plus at h;split at h
 ·cases h
 ·show h
theorem ca(h:g b=QH (QH i))(n:¬F b):g.plus F b=QH (QH i):=by
 unfold Gh.plus;rw[if_neg n];show h
theorem VR1.unplus{F1:Pr}(h:VR1 K H (g.plus F1) Ft kd d v F):VR1 K H g (λb=>F1 b\/Ft b) kd d v F:=by
 let a:∀b o,H b=QH o->¬Sx (g.plus F1) Ft b->¬Sx g (λb=>F1 b\/Ft b) b:=λb o e n z=>n (z.elim (λz=>.inl ((al b).mpr (.inl z))) λz=>z.elim (λz=>.inl ((al b).mpr (.inr z))) .inr)
 cases kd with
 |sh=>show⟨h.1,h.2.go λb o n e=>⟨e,a b o e n⟩⟩
 |fr k=>show Tr.go (λb o _ e=>e) a h
 |bo i k=>obtain⟨f,l,c,j⟩:=h;show⟨f,l,λb z=>bJ (c b z),Tr.go (λb o _ e=>e) a j⟩
theorem VRL.unplus{F1:Pr}:∀{kds:List (Kd×D)} {vs:List V} {F:Pr},VRL K H (g.plus F1) Ft kds vs F->VRL K H g (λb=>F1 b\/Ft b) kds vs F
 |[],_,_,h=>h
 |(kd,d)::r,_,_,h=>by
  obtain⟨y,c,F1,a,e,k,i,j,f⟩:=h;show⟨y,c,F1,a,e,k,i,j.unplus,VRL.unplus f⟩
theorem VRs.cons{c:Kd}{d:D}{v:V}{kds:List (Kd×D)}{vs:List V}{F1:Pr}(s:Same H0 H)(s1:Same H H')(i:∀b,F1 b->H0 b=QI)(f:VR1 K H g F1 c d v F1)(h2:VRs K (g.plus F1) H H' kds vs):VRs K g H0 H' ((c,d)::kds) (v::vs):=by
 obtain⟨a,b1,b2⟩:=h2;let j:=f.dom;show⟨λb=>F1 b\/a b,λb z=>z.elim (i b) λz=>s.free (b1 b z),v,vs,F1,a,rfl,λb=>Iff.rfl,λb k h=>?_,f.go s1 λb o e z=>z.elim id λz=>?_,b2.unplus⟩
 ·obtain⟨o,e,_⟩:=j b k;rw[b1 b h] at e;cases e
 ·rw[b1 b z] at e;cases e
theorem VRs.one(h:VRs K g H0 H [(kd,d)] vs):∃v,vs=[v]/\VR K g H0 H kd d v:=by
 obtain⟨F,k,y,l,c,n,rfl,a,m,f,i,j⟩:=h;subst i;let e:∀b,F b->c b:=λb z=>((a b).mp z).elim id λz=>absurd z (j b);show⟨y,rfl,c,λb z=>k b ((a b).mpr (.inl z)),f.go (λ_ _ h=>h) λb _ _ z=>(a b).mpr (.inl z)⟩
end
structure Sl where
 lk:Bool
 k:Ow
 d:D
abbrev Ro:=List (Option Sl)
noncomputable def q5:Ow->Bool
 |.fz=>QJ
 |_=>QL
def oW(i:Nat)(s:Sl):Kd×D:=(if q5 s.k then .sh else .bo i s.k,s.d)
structure SE(K:Np)(g:Gh)(Z:Ro)(Y:St)(H:Hp):Prop where
 slot:∀(i:Nat) (s:Sl),Z[i]?=QH (QH s)->∃v F,Y[i]?=QH (QH v)/\(∀b,F b->g b=QH (QH i))/\Tr K H (Sg g) s.d s.k v F
 mu:MuOk H (Sg g)
 len:Z.length=Y.length
section
variable {K:Np} {H H' H0 H1:Hp} {g g':Gh} {Z:Ro} {Y:St}
theorem SE.same(h:SE K g Z Y H)(s:Same H H'):SE K g Z Y H':=
 ⟨λi a e=>let ⟨v,F,e1,e2,e3⟩:=h.slot i a e;⟨v,F,e1,e2,e3.go (λb o _ e=>s b o e) λb o _ n=>n⟩,h.mu.same s,h.len⟩
theorem jV(h:q5 k=QJ):k=.fz:=by cases k with|fz=>rfl|own es r=>cases h
theorem SE.get(h:SE K g Z Y H){i:Nat}(e:Z[i]?=QH (QH s)):∃v,Y[i]?=QH (QH v)/\VR K g H H (oW i s).1 (oW i s).2 v:=by
 obtain⟨v,F,e1,e2,e3⟩:=h.slot i s e;show⟨v,e1,λ_=>False,λb z=>z.elim,?_⟩;let t:Tr K H (Sx g λ_=>False) s.d s.k v F:=e3.go (λ_ _ _ h=>h) λb o _ n z=>n (z.elim id λz=>z.elim);unfold oW
 cases hk:q5 s.k with
 |true=>
  rw[jV hk] at t;show⟨λb z=>z,t.fz_inv.2⟩
 |false=>show⟨λb z=>z,F,e2,t⟩
theorem SE.plus{F:Pr}(h:SE K g Z Y H)(s:Same H H')(a:∀b,F b->H b=QI)(j:∀b,F b->∃o,H' b=QH o/\∀xs,o≠.tup xs):SE K (g.plus F) Z Y H':=by
 show⟨λi f e=>?_,λb z=>?_,h.len⟩
 ·obtain⟨v,d,e1,e2,e3⟩:=h.slot i f e;show⟨v,d,e1,λb z=>ca (e2 b z) λc=>?_,e3.go (λb o _ e=>s b o e) λb o e n z=>?_⟩
  ·obtain⟨o,q,_⟩:=e3.dom b z;rw[a b c] at q;cases q
  ·rcases(al b).mp z with z|z
   ·show n z
   ·rw[a b z] at e;cases e
 ·rcases(al b).mp z with z|z
  ·show h.mu.same s b z
  ·show j b z
end
section
variable (X:Cx)
def wE(e:QN):TE:=λY H Q=>∀pins s,Inv X pins Y H s->QR (QS X.prog X.w) X.A (eval e X.env) (EP X pins Y Q) X.xe s
def wT(e:QN):TT:=λY H Q=>∀pins s,Inv X pins Y H s->QR (QS X.prog X.w) X.A (isTrue e X.env (eval e X.env)) (TP X pins Y Q) X.xe s
def wW(e:QN):TT:=λY H Q=>∀q pins s,Inv X pins Y H s->QR (QS X.prog X.w) X.A (isTrue e X.env q) (TP X pins Y Q) X.xe s
def wA(es:List QN):TA:=λY H Q=>∀pos pins s,Inv X pins Y H s->QR (QS X.prog X.w) X.A (spliced (backTo pos (QU es X.env))) (AP X pins Y Q) X.xe s
def wG(tg:QN):TG:=λv Y H Q=>∀pins s u,Inv X pins Y H s->RelV v u->QR (QS X.prog X.w) X.A (assign tg X.env u) (λ_ s'=>∃Y' H',Inv X pins Y' H' s'/\Q Y' H') X.xe s
def wI(tg iter:QN):TI:=λY H R=>∀pins s,Inv X pins Y H s->QR (QS X.prog X.w) X.A (eval iter X.env) (λv s1=>QR (QS X.prog X.w) X.A (pyIter v) (KN X pins Y tg R) X.xe s1) X.xe s
end
section
variable {X:Cx}
theorem aq:PE X e (wE X e):=λa s Y H Q I h=>h a s I
theorem iQ:PT X e (wT X e):=λa s Y H Q I h=>h a s I
theorem AR:PW X e (wW X e):=λb a s Y H Q I h=>h b a s I
theorem cQ:PA X es (wA X es):=λb a s Y H Q I h=>h b a s I
theorem vO:PI X tg iter (wI X tg iter):=λa s Y H R I h=>h a s I
theorem vP:PG X tg (wG X tg):=λa s Y H v u Q I r h=>h a s u I r
theorem am{t:TE}(p:PE X e t)(h:t Y H Q):wE X e Y H Q:=λa s I=>p a s Y H Q I h
theorem xy{t:TT}(p:PT X e t)(h:t Y H Q):wT X e Y H Q:=λa s I=>p a s Y H Q I h
theorem mi{t:TT}(p:PW X e t)(h:t Y H Q):wW X e Y H Q:=λb a s I=>p b a s Y H Q I h
theorem kH{t:TA}(p:PA X es t)(h:t Y H Q):wA X es Y H Q:=λb a s I=>p b a s Y H Q I h
theorem kI{t:TI}(p:PI X tg iter t)(h:t Y H R):wI X tg iter Y H R:=λa s I=>p a s Y H R I h
theorem tB{t:TG}(p:PG X tg t)(h:t v Y H Q):wG X tg v Y H Q:=λa s u I r=>p a s Y H v u Q I r h
end
def SndE(X:Cx)(f:Ro->Option (Kd×D))(e:QN):Prop:=∀Z q d,f Z=QH (q,d)->∀g Y H Q,SE X.K g Z Y H->(∀v H',Same H H'->VR X.K g H H' q d v->Q v H')->wE X e Y H Q
def SndT(X:Cx)(f:Ro->Option Bool)(e:QN):Prop:=∀Z b,f Z=QH b->∀g Y H Q,SE X.K g Z Y H->(∀H',Same H H'->Q b H')->wT X e Y H Q
def kJ(X:Cx)(f:Ro->Option (List (Kd×D)))(es:List QN):Prop:=∀Z kds,f Z=QH kds->∀g Y H Q,SE X.K g Z Y H->(∀vs H',Same H H'->VRs X.K g H H' kds vs->Q vs H')->wA X es Y H Q
end J
namespace G
open PyProof.Rows
noncomputable def jC(n:Nat)(lo st:Option Int):List Nat:=sliceRange (sliceBounds lo QI st n).1 (sliceBounds lo QI st n).2.1 (sliceBounds lo QI st n).2.2
def ck{α:Type}(xs:List α)(lo st:Option Int):List α:=(jC xs.length lo st).filterMap λi=>xs[i]?
theorem mj{xs:List V}{us:List QK}(r:Vals xs us):∀a:List Nat,Vals (a.filterMap λi=>xs[i]?) (a.filterMap λi=>us[i]?)
 |[]=>.nil
 |i::a=>by
  let b:=mj r a;by_cases h:i<xs.length
  ·let c:i<us.length:=by rw[<- r.length];show h
   obtain⟨u,e1,e2⟩:=r.get (NC h);rw[N2,N2,NC h,e1];show .cons e2 b
  ·rw[N2,N2,N6 (by lia),N6 (by rw[<- r.length];lia)];show b
section
variable {X:Cx}
def La(te:TE)(tl:TO)(B:TE):TE:=λY H Q=>te Y H λx H1=>tl Y H1 λl H2=>B Y H2 λy q=>∃a xs k,x=.ref a/\y=.int k/\k≠0/\SqL X.K q a xs/\∀p,q p=QI->Q (.ref p) (upd q p (.lst (ck xs l (QH k))))
theorem En{e st:QN}{lo:Option QN}{te i:TE}{tl:TO}{p2 pos:Pos}(E:PE X e te)(K:PO X lo tl)(j:PE X st i):PE X (.Subscript e (.Slice lo QI (QH st) p2) pos) (La (X:=X) te tl i):=by
 intro c s Y H Q I h;show Subscript_ (aV (E c s Y H _ I h) λv s1 f=>?_);obtain⟨x,L,U,R,O⟩:=f;show wpAny_Slice (aV (K c s1 Y L _ U O) λz s2 f=>?_);obtain⟨l,F,W,M,B⟩:=f;rw[evalPart_none];show QQ ?_;show aV (j c s2 Y F _ W B) λS s3 f=>?_;obtain⟨y,C,D,T,N⟩:=f;obtain⟨a,u,k,rfl,rfl,hk,V,q⟩:=N;obtain⟨t,rfl⟩:=T;cases R;let m:Inv X c Y C { s3 with heap:=s3.heap.push { cls:=.type "slice",data:=.fields #[z,.none,.int k t] } }:=D.kept (t':=s3.toks) λb P q=>Nw _ q;obtain⟨d,r,p,f⟩:=m.list V;change QR (QS X.prog X.w) X.A (subscriptTail e (.Slice lo QI (QH st) p2) (.ref a) (.ref s3.heap.objs.size)) (EP X c Y Q) X.xe { s3 with heap:=s3.heap.push { cls:=.type "slice",data:=.fields #[z,.none,.int k t] } };show tail_any (ops:=[.ref a,.ref s3.heap.objs.size]) p.isList.typeIs slot_list_getitem.lookup ?_ (by with_unfolding_all rfl);show wpAny_getItem_list_slice p.isList (Heap.IsSliceOf.new ..) M .none (.int _ _) (by simpa using hk) ?_ (by rw[Nz,<- r.length];show f)
 let e1:slicePick d.toArray l QI (QH k)=(ck d l (QH k)).toArray:=by
  unfold slicePick ck jC;simp
 rw[e1];let g:=slicePick_size_le d.toArray l QI (QH k);rw[e1,Nz,Nz] at g
 let n:Vals (ck u l (QH k)) (ck d l (QH k)):=by
  unfold ck;rw[r.length];show mj r _
 show⟨.ref _,_,m.laid (t':=s3.toks) (o:=.lst (ck u l (QH k))) (λb P q=>Nw _ q) (Ny _) ?_,rfl,q _ (m.hok.fresh (Ny _))⟩;show⟨by rw[n.length];show NT g (by rw[<- r.length];show f),_,0,n,NI _ rfl⟩
end
abbrev Kk:=L2.aN
instance:LawfulBEq Kk where
 eq_of_beq:=λ{a b} h=>by
  cases a<;>cases b
  ·let h:_==_:=h;show congrArg Sum.inl (eq_of_beq h)
  ·cases h
  ·cases h
  ·show congrArg Sum.inr (eq_of_beq (h))
 rfl:=λ{a}=>by
  cases a
  ·show beq_self_eq_true (α:=Int) _
  ·show beq_self_eq_true (α:=Str) _
end G
set_option exponentiation.threshold 5000
namespace J
mutual
noncomputable def py:D->PyData
 |.non=>.none
 |.bl b=>.bool b
 |.int i=>.int i
 |.str x=>.str x
 |.scr ns=>.list (ns.map .int)
 |.nd .lst ds=>.list (tD ds)
 |.nd .tup ds=>.tuple (tD ds)
 |.nd (.dic _ _) _=>.dict []
 |.nd (.obj _ _) _=>.none
noncomputable def tD:List D->List PyData
 |[]=>[]
 |d::ds=>py d::tD ds
end
mutual
noncomputable def dB:Nat->D->Bool
 |_,.non=>QJ
 |_,.bl _=>QJ
 |_,.int _=>QJ
 |_,.str x=>PyData.strOk x
 |n,.scr _=>decide (1<=n)
 |n,.nd .lst ds=>decide (1<=n)&&gX (n-1) ds
 |n,.nd .tup ds=>decide (1<=n)&&gX (n-1) ds
 |_,.nd (.dic _ _) _=>QL
 |_,.nd (.obj _ _) _=>QL
noncomputable def gX:Nat->List D->Bool
 |_,[]=>QJ
 |n,d::ds=>dB n d&&gX n ds
end
section
variable {X:Cx} {pins:List (QO×Obj)} {Y:L2.St} {H:Hp} {s:QP} {S:Pr}
theorem fZ:∀{ns:List Int} {us:List QK},Vals (ns.map V.int) us->∃a,ReadsAll h us (ns.map .int) a
 |[],_,.nil=>⟨_,.nil⟩
 |n::ns,_,.cons r t=>by
  obtain⟨b,e⟩:=(show ∃t,_=Value.int n t from r);subst e;obtain⟨a,q⟩:=fZ t;show⟨_,.cons (.int n b) q⟩
theorem jW:∀ns:List Int,PyData.canLayAll0 (ns.map .int)=QJ/\PyData.depthAll (ns.map .int)=0
 |[]=>by simp[PyData.canLayAll0,PyData.depthAll]
 |n::ns=>by
  have:=jW ns;simp[PyData.canLayAll0,PyData.depthAll,PyData.canLay0,PyData.depth,this]
mutual
theorem c8(I:Inv X pins Y H s):∀{d:D} {n:Nat} {v:V} {u:QK},dB n d=QJ->Rp X.K H S d v->RelV v u->(∃w,Reads s.heap u (py d) w)/\(py d).canLay0=QJ/\(py d).depth<=n
 |.non,n,v,u,_,r,e=>by unfold Rp at r;subst r;cases e;simp only[py];show⟨⟨_,.none⟩,by simp[PyData.canLay0],by simp[PyData.depth]⟩
 |.bl b,n,v,u,_,r,e=>by unfold Rp at r;subst r;cases e;simp only[py];show⟨⟨_,.bool b⟩,by simp[PyData.canLay0],by simp[PyData.depth]⟩
 |.int i,n,v,u,_,r,e=>by unfold Rp at r;subst r;obtain⟨t,rfl⟩:=e;simp only[py];show⟨⟨_,.int i t⟩,by simp[PyData.canLay0],by simp[PyData.depth]⟩
 |.str x,n,v,u,h,r,e=>by unfold Rp at r;subst r;obtain⟨t,rfl⟩:=e;simp only[py];show⟨⟨_,.str x t⟩,by simpa[PyData.canLay0,dB] using h,by simp[PyData.depth]⟩
 |.scr ns,n,v,u,h,r,e=>by
  unfold Rp at r;obtain⟨a,rfl,r⟩:=r;cases e;let q:SqL X.K H a (ns.map V.int):=r.elim (λr=>.inl r.2) .inr;obtain⟨k,p,⟨o,m,j,l,L,c⟩,z⟩:=I.list q;obtain⟨w,f⟩:=fZ (h:=s.heap) p;simp only[py];let E:1<=n:=by simpa[dB] using h
  show⟨⟨_,.list j l c (by simpa using f)⟩,by simpa[PyData.canLay0] using(jW ns).1,by simp[PyData.depth,(jW ns).2,E]⟩
 |.nd .lst ds,n,v,u,h,r,e=>by
  unfold Rp at r;obtain⟨a,o,A,rfl,F,g,q,B⟩:=r;cases e;let q:o=.lst A:=q;subst q;obtain⟨k,p,⟨o,m,j,l,L,c⟩,z⟩:=I.list (SqL.of g);simp only[dB,Nr,decide_eq_true_eq] at h;obtain⟨⟨w,f⟩,y,C⟩:=iR I h.2 B p;simp only[py];show⟨⟨_,.list j l c (by simpa using f)⟩,by simpa[PyData.canLay0] using y,by simp only[PyData.depth];lia⟩
 |.nd .tup ds,n,v,u,h,r,e=>by
  unfold Rp at r;obtain⟨a,o,A,rfl,F,g,q,B⟩:=r;cases e;let q:o=.tup A:=q;subst q;obtain⟨k,p,⟨o,j,l,m,c⟩,z⟩:=I.tuple (SqT.of g);simp only[dB,Nr,decide_eq_true_eq] at h;obtain⟨⟨w,f⟩,y,C⟩:=iR I h.2 B p;simp only[py];show⟨⟨_,.tuple j l c (by simpa using f)⟩,by simpa[PyData.canLay0] using y,by simp only[PyData.depth];lia⟩
 |.nd (.dic _ _) _,n,v,u,h,r,e=>by simp[dB] at h
 |.nd (.obj _ _) _,n,v,u,h,r,e=>by simp[dB] at h
theorem iR(I:Inv X pins Y H s):∀{ds:List D} {n:Nat} {xs:List V} {us:List QK},gX n ds=QJ->RpL X.K H S ds xs->Vals xs us->(∃a,ReadsAll s.heap us (tD ds) a)/\PyData.canLayAll0 (tD ds)=QJ/\PyData.depthAll (tD ds)<=n
 |[],n,xs,us,_,r,e=>by rw[r.nil_inv] at e;cases e;simp only[tD];show⟨⟨_,.nil⟩,by simp[PyData.canLayAll0],by simp[PyData.depthAll]⟩
 |d::ds,n,xs,us,h,r,e=>by
  obtain⟨y,k,rfl,g,j⟩:=r.cons_inv;simp only[gX,Nr] at h
  cases e with
  |cons e1 e2=>
   obtain⟨⟨a,b⟩,c,l⟩:=c8 I h.1 g e1;obtain⟨⟨o,f⟩,i,m⟩:=iR I h.2 j e2;simp only[tD];show⟨⟨_,.cons b f⟩,by simp[PyData.canLayAll0,c,i],by simp only[PyData.depthAll];lia⟩
end
end
def vQ(x y:D):Bool:=PyData.eqv (py x) (py y)
noncomputable def lim:Nat:=2^4000
noncomputable abbrev bS:Ow:=.own [] .fz
def eW:Ow->Bool
 |.fz=>QJ
 |.own es r=>es.all q5&&q5 r
def dY:Kd->List D->Bool
 |.bo _ k,ds=>eW k||AQ ds
 |_,_=>QJ
abbrev KD:=Kd×D
def oX:Q1->Int->Int->Option Int
 |.Add,i,j=>QH (i+j)
 |.Sub,i,j=>QH (i-j)
 |.Mult,i,j=>if i.natAbs<lim/\j.natAbs<lim then QH (i*j) else QI
 |.FloorDiv,i,j=>if 0<j/\j.natAbs<lim then QH (i / j) else QI
 |.Mod,i,j=>if 0<j then QH (i%j) else QI
 |.LShift,i,j=>if 0<=j/\j<=1000000/\i.natAbs<lim then QH (i*2^j.toNat) else QI
 |.Pow,i,j=>if 0<=j/\j<=1000000/\i.natAbs<2^64 then QH (i^j.toNat) else QI
 |.RShift,i,j=>if 0<=j then QH (i / 2^j.toNat) else QI
 |.BitAnd,i,j=>QH (Builtin.bitAnd i j)
 |.BitOr,i,j=>QH (Builtin.bitOr i j)
 |.BitXor,i,j=>QH (Builtin.bitXor i j)
 |_,_,_=>QI
def HG(op:Q1)(k:Kd)(xs:List D)(y:KD):Option KD:=match op with
 |.Add=>(match y.2 with
  |.nd hd ys=>(match hd with
   |.lst=>if dY k xs=QJ/\dY y.1 ys=QJ/\xs.length+ys.length<=100000 then QH (.fr bS,.lst (xs++ys)) else QI
   |_=>QI)
  |_=>QI)
 |.Mult=>(match y.2 with
  |.int n=>if dY k xs=QJ/\0<=n/\n<=100000/\xs.length*n.toNat<=100000 then QH (.fr bS,.lst (N1 n.toNat xs).flatten) else QI
  |_=>QI)
 |_=>QI
noncomputable def HI(op:Q1)(k:Kd)(xs:List D)(y:KD):Option KD:=QI
noncomputable def HJ(op:Q1)(i:Str)(y:D):Option KD:=QI
def dZ(op:Q1)(x y:KD):Option KD:=match x.2 with
 |.int i=>(match y.2 with|.int j=>(match oX op i j with|some z=>QH (.sh,.int z)|none=>QI)|_=>QI)
 |.nd hd xs=>(match hd with|.lst=>HG op x.1 xs y|.tup=>HI op x.1 xs y|_=>QI)
 |.str i=>HJ op i y.2
 |_=>QI
theorem fF(h:oX op i j=QH z):dZ op (k,.int i) (k',.int j)=QH (.sh,.int z):=by
 change(match oX op i j with|some z=>QH (Kd.sh,D.int z)|none=>QI)=_
 rw[h]
theorem wF{p:Prop}[Decidable p]{α:Type}{a b:α}(h:(if p then QH a else QI)=QH b):p/\b=a:=by
 by_cases c:p
 ·rw[if_pos c] at h;cases h;show⟨c,rfl⟩
 ·rw[if_neg c] at h;cases h
theorem aP{n:Nat}(h:n<=100000):n<=sizeLine:=NT h (by decide)
section
variable {K:Np} {H H' H0:Hp} {S:Pr} {g:Gh}
theorem Rp.int(h:Rp K H S (.int i) v):v=.int i:=by unfold Rp at h;show h
theorem Rp.bl(h:Rp K H S (.bl i) v):v=.bl i:=by unfold Rp at h;show h
theorem Rp.str(h:Rp K H S (.str i) v):v=.str i:=by unfold Rp at h;show h
theorem Rp.non(h:Rp K H S .non v):v=.non:=by unfold Rp at h;show h
theorem Rp.nd(h:Rp K H S (.nd hd ds) v):∃a o xs,v=.ref a/\¬S a/\H a=QH o/\cP K o hd xs/\RpL K H S ds xs:=by unfold Rp at h;show h
theorem Rp.scr{ns:List Int}(h:Rp K H S (.scr ns) v):∃a,v=.ref a/\SqL K H a (ns.map V.int):=by
 unfold Rp at h;obtain⟨a,e,h⟩:=h;show⟨a,e,h.elim (λh=>.inl h.2) .inr⟩
theorem oY:VR K g H0 H .sh (.int i) (.int i):=⟨λ_=>False,λ_ z=>z.elim,λ_ z=>z,by unfold Rp;rfl⟩
theorem Cv:VR K g H0 H .sh (.bl i) (.bl i):=⟨λ_=>False,λ_ z=>z.elim,λ_ z=>z,by unfold Rp;rfl⟩
theorem HK:VR K g H0 H .sh (.str i) (.str i):=⟨λ_=>False,λ_ z=>z.elim,λ_ z=>z,by unfold Rp;rfl⟩
theorem Eo:VR K g H0 H .sh .non .non:=⟨λ_=>False,λ_ z=>z.elim,λ_ z=>z,by unfold Rp;rfl⟩
theorem GE(h:Rp K H (Sg g) d v):VR K g H0 H .sh d v:=⟨λ_=>False,λ_ z=>z.elim,λ_ z=>z,h.weak λb z=>z.elim id λz=>z.elim⟩
theorem ag(a:H p=QI):Same H (upd H p o):=λb u q=>by rw[ae (aA q a)];show q
theorem TrL.ofFz:∀{ds:List D} {xs:List V},RpL K H S ds xs->TrL K H S ds [] .fz xs λ_=>False
 |[],_,h=>by unfold TrL;show⟨h.nil_inv,λ_ z=>z⟩
 |d::ds,_,h=>by
  obtain⟨y,a,rfl,r,t⟩:=h.cons_inv;unfold TrL;show⟨y,a,_,_,rfl,λb=>⟨.inl,λz=>z.elim id id⟩,λ_ z=>z.elim,Tr.fz r,TrL.ofFz t⟩
theorem lH(a:H p=QI)(r:RpL K H (Sg g) ds xs):VR K g H (upd H p (.lst xs)) (.fr bS) (.lst ds) (.ref p):=by
 show⟨λb=>b=p,λb z=>z▸a,?_⟩;change Tr K _ _ _ _ _ _;unfold Tr
 show⟨p,_,xs,λ_=>False,rfl,ak,rfl,λ_ z=>z,(λh=>nomatch h),λb=>⟨λz=>.inl ⟨rfl,z⟩,λz=>z.elim (λz=>z.2) λz=>z.elim⟩,.ofFz (r.go λb o n e=>⟨ag a b o e,λz=>z.elim n λz=>?_⟩)⟩
 subst z;rw[a] at e;cases e
theorem AS(m:MuOk H (Sg g))(a:H p=QI)(r:RpL K H (Sg g) ds xs):VR K g H (upd H p (.tup xs)) .sh (.tup ds) (.ref p):=by
 show GE ?_;unfold Rp;show⟨p,_,xs,rfl,λz=>?_,ak,rfl,r.same (ag a)⟩;obtain⟨o,e,_⟩:=m p z;rw[a] at e;cases e
theorem tG{es:List Ow}(h:eW (.own es r)=QJ):(∀e∈es,e=.fz)/\r=.fz:=by
 simp only[eW,Nr,N5] at h;show⟨λe a=>jV (h.1 e a),jV h.2⟩
theorem TrL.flat:∀{ds:List D} {es:List Ow} {xs:List V} {F:Pr},(∀e∈es,e=.fz)->TrL K H S ds es .fz xs F->(∀b,¬F b)/\RpL K H S ds xs
 |[],_,_,_,_,h=>by unfold TrL at h;show⟨h.2,by rw[h.1];show .nil⟩
 |d::ds,es,_,_,he,h=>by
  unfold TrL at h;obtain⟨y,m,o,p,rfl,i,n,c,f⟩:=h
  let e:es.headD .fz=.fz:=by
   cases es with
   |nil=>rfl
   |cons a r=>show he a (.head _)
  rw[e] at c;obtain⟨j,g⟩:=c.fz_inv
  obtain⟨k,l⟩:=TrL.flat (λe q=>he e (by cases es with|nil=>cases q|cons a r=>show .tail _ q)) f
  show⟨λb z=>((i b).mp z).elim (j b) (k b),.cons g l⟩
theorem VR.items(c:dY kd ds=QJ)(m:MuOk H0 (Sg g))(s:Same H0 H)(h:VR K g H0 H kd (.nd hd ds) v):∃a o xs,v=.ref a/\H a=QH o/\cP K o hd xs/\RpL K H (Sg g) ds xs:=by
 let ns:∀{j:Kd},q0 j (.nd hd ds)=QJ->VR K g H0 H j (.nd hd ds) v->∃a o xs,v=.ref a/\H a=QH o/\cP K o hd xs/\RpL K H (Sg g) ds xs:=λc h=>by
  obtain⟨a,o,xs,e,_,f,d,l⟩:=(h.sh c m s).nd;show⟨a,o,xs,e,f,d,l⟩
 cases kd with
 |sh=>show ns rfl h
 |fr k=>show ns rfl h
 |bo i k=>
  simp only[dY,Op] at c;rcases c with c|c
  ·obtain⟨F,C,q,A,w,n⟩:=h
   cases k with
   |fz=>
    obtain⟨_,r⟩:=n.fz_inv;obtain⟨a,o,xs,e,_,f,d,l⟩:=r.nd;show⟨a,o,xs,e,f,d,l.weak λb z=>.inl z⟩
   |own D r=>
    obtain⟨p,rfl⟩:=tG c;unfold Tr at n;obtain⟨a,o,xs,u,e,f,d,y,B,x,t⟩:=n;show⟨a,o,xs,e,f,d,(t.flat p).2.weak λb z=>.inl z⟩
  ·obtain⟨a,o,xs,e,_,f,d,l⟩:=h.rd.nd;show⟨a,o,xs,e,f,d,l.im (m.same s) c⟩
end
def Lb(K:Np)(op:Q1):R2:=λx y H Q=>∃g H0 kx q B d,MuOk H0 (Sg g)/\Same H0 H/\VR K g H0 H kx.1 kx.2 x/\VR K g H0 H q.1 q.2 y/\dZ op kx q=QH (B,d)/\∀v H',Same H H'->VR K g H H' B d v->Q v H'
theorem HL{i j:Int}(h:i.natAbs<lim/\j.natAbs<lim):IntMulOk i j:=
 IntMulOk.of_bits (NT (PyProof.Rows.intBits_le (k:=4000) h.1) (by decide)) (NT (PyProof.Rows.intBits_le (k:=4000) h.2) (by decide))
theorem AT{j:Int}(h:j.natAbs<lim):j.natAbs.log2<9000:=by
 by_cases z:j.natAbs=0
 ·rw[z];decide
 ·show ND ((Nat.log2_lt z).mpr h) (by decide)
theorem AU:gu X (binaryOp .Mult) (rI (λi j=>i.natAbs<lim/\j.natAbs<lim) λi j=>.int (i*j)):=GC λ_ _ _ _ _ _ _ a q=>PyProof.Rows.mul_int q (HL a)
theorem xz:gu X (binaryOp .FloorDiv) (rI (λi j=>0<j/\j.natAbs<lim) λi j=>.int (i / j)):=GC λi j _ _ _ _ _ a q=>by
 let b:(0:Int)<j:=a.1;show PyProof.Rows.floordiv_int (by lia) (by rw[PH i (by lia)];show q) (.inl (PyProof.noPylong_of_log2 (AT a.2)))
theorem AV:gu X (binaryOp .LShift) (rI (λi j=>0<=j/\j<=1000000/\i.natAbs<lim) λi j=>.int (i*2^j.toNat)):=GC λi j _ _ _ _ _ a q=>by
 let b:=PyProof.Rows.intBits_le (k:=4000) a.2.2;show PyProof.Rows.lshift_int a.1 (by have:=a.2.1;lia) q
theorem xA{X:Cx}(op:Q1):gu X (binaryOp op) (Lb X.K op):=by
 intro c s Y H x y v u Q I r l h;obtain⟨g,H0,⟨kx,W⟩,⟨ky,E⟩,N,d,m,F,C,B,k,q⟩:=h;dsimp only at C B
 cases W with
 |int i=>cases E with
  |int j=>
   obtain⟨rfl,rfl⟩:x=.int i/\y=.int j:=⟨C.rd.int,B.rd.int⟩
   let k:(match oX op i j with|some z=>QH (Kd.sh,D.int z)|none=>QI)=QH (N,d):=k
   cases f:oX op i j with
   |none=>rw[f] at k;cases k
   |some z=>
    rw[f] at k;cases k;let q:Q (.int z) H:=q _ H (Same.refl H) oY
    cases op with
    |Add=>cases f;show D0 c s Y H _ _ v u Q I r l ⟨_,_,rfl,rfl,q⟩
    |Sub=>cases f;show D2 c s Y H _ _ v u Q I r l ⟨_,_,rfl,rfl,q⟩
    |Mult=>obtain⟨t,rfl⟩:=wF (show(if _ then QH (i*j) else QI)=QH z from f);show AU c s Y H _ _ v u Q I r l ⟨_,_,rfl,rfl,t,q⟩
    |FloorDiv=>obtain⟨t,rfl⟩:=wF (show(if _ then QH (i / j) else QI)=QH z from f);show xz c s Y H _ _ v u Q I r l ⟨_,_,rfl,rfl,t,q⟩
    |Mod=>obtain⟨t,rfl⟩:=wF (show(if _ then QH (i%j) else QI)=QH z from f);show D3 c s Y H _ _ v u Q I r l ⟨_,_,rfl,rfl,t,q⟩
    |LShift=>obtain⟨t,rfl⟩:=wF (show(if _ then QH (i*2^j.toNat) else QI)=QH z from f);show AV c s Y H _ _ v u Q I r l ⟨_,_,rfl,rfl,t,q⟩
    |Pow=>obtain⟨t,rfl⟩:=wF (show(if _ then QH (i^j.toNat) else QI)=QH z from f);show D4 c s Y H _ _ v u Q I r l ⟨_,_,rfl,rfl,t,q⟩
    |RShift=>obtain⟨t,rfl⟩:=wF (show(if _ then QH (i / 2^j.toNat) else QI)=QH z from f);show D5 c s Y H _ _ v u Q I r l ⟨_,_,rfl,rfl,t,q⟩
    |BitAnd=>cases f;show D6 c s Y H _ _ v u Q I r l ⟨_,_,rfl,rfl,q⟩
    |BitOr=>cases f;show He c s Y H _ _ v u Q I r l ⟨_,_,rfl,rfl,q⟩
    |BitXor=>cases f;show D7 c s Y H _ _ v u Q I r l ⟨_,_,rfl,rfl,q⟩
    |_=>cases f
  |_=>cases k
 |nd T S=>cases T with
  |lst=>cases op with
   |Add=>cases E with
    |nd P Z=>cases P with
     |lst=>
      obtain⟨f,e⟩:=wF (show(if _ then QH (Kd.fr bS,D.lst (S++Z)) else QI)=QH (N,d) from k)
      cases e;obtain⟨a,o,L,rfl,O,M,A⟩:=C.items f.1 m F;obtain⟨b,V,vs,rfl,gb,U,R⟩:=B.items f.2.1 m F;cases(show o=_ from M);cases(show V=_ from U);show Ee c s Y H _ _ v u Q I r l ⟨a,b,L,vs,rfl,rfl,O,gb,by rw[A.len,R.len];show aP f.2.2,λp w=>q _ _ (ag w) (lH w (A.append R))⟩
     |_=>cases k
    |_=>cases k
   |Mult=>cases E with
    |int n=>
     obtain⟨f,e⟩:=wF (show(if _ then QH (Kd.fr bS,D.lst (N1 n.toNat S).flatten) else QI)=QH (N,d) from k)
     cases e;obtain⟨a,o,L,rfl,O,M,A⟩:=C.items f.1 m F;cases(show o=_ from M);obtain rfl:=B.rd.int;show Ef c s Y H _ _ v u Q I r l ⟨a,_,L,rfl,rfl,O,by lia,by lia,by rw[A.len];show aP f.2.2.2,λp w=>q _ _ (ag w) (lH w (A.rep _))⟩
    |_=>cases k
   |_=>cases k
  |tup=>cases k
  |_=>cases k
 |str i=>cases k
 |_=>cases k
end J
namespace G
open PySem PySem.Spec PySem.Calls PyProof.Rows L2
noncomputable def AW:List Int->List Int->Bool
 |[],[]=>QL
 |[],_::_=>QJ
 |_::_,[]=>QL
 |a::r,b::t=>if a=b then AW r t else decide (a<b)
theorem tH{xs:List Int}{a:List QK}(h:Vals (xs.map V.int) a){i:Nat}(hi:i<xs.length):∃t,a[i]?=QH (.int xs[i] t):=by
 obtain⟨u,e,r⟩:=h.get (by rw[Nu,NC hi];rfl);obtain⟨t,rfl⟩:=r;show⟨t,e⟩
theorem vR(l b:QO)(c a:List QK)(n M:Nat)(F r:Option QO)(N x:Array (Option QK))(xs ys:List Int)(C:Vals (xs.map V.int) c)(z:Vals (ys.map V.int) a)(k:Nat) :
  ∀i:Nat,c.length-i=k->i<=c.length->i<=a.length->Meets (Builtin.«list.__eq__.loop» ⟨[.ref l,.ref b,Re i,Re 0],[]⟩)
   (λA R s=>s.heap.get? l=QH { cls:=.type "list",dict:=F,data:=.seq c.toArray n,slots:=N }/\s.heap.get? b=QH { cls:=.type "list",dict:=r,data:=.seq a.toArray M,slots:=x }/\R (.ok (.ret (.bool (AW (xs.drop i) (ys.drop i))))) s):=by
 let e1:c.length=xs.length:=by rw[<- C.length];simp
 let e2:a.length=ys.length:=by rw[<- z.length];simp
 induction k with
 |zero=>
  intro i hk I q e w A R s h;obtain⟨D,g,d,P,O⟩:=s;obtain⟨m,o,h⟩:=h
  wp_walk using wpAny_loadPart' m,wpAny_loadPart' o
  let f:c.toArray[((i:Nat):Int).toNat]?=QI:=by simp;lia
  rw[f]
  wp_walk using wpAny_loadPart' m,wpAny_loadPart' o
  change R (.ok (.ret (.bool (decide (c.toArray.size<a.toArray.size))))) _;let L:xs.drop i=[]:=Pe (by lia);rw[L] at h;by_cases v:i<a.length
  ·rw[N8 (by lia:i<ys.length)] at h;rw[decide_eq_true (by simp;lia)];show h
  ·rw[Pe (by lia:ys.length<=i)] at h;rw[decide_eq_false (by simp;lia)];show h
 |succ k Q=>
  intro i hk I q e w A R s h;obtain⟨D,g,d,P,O⟩:=s;obtain⟨m,o,h⟩:=h;let B:i<xs.length:=by lia
  obtain⟨t,H⟩:=tH C B;let f:c.toArray[((i:Nat):Int).toNat]?=QH (.int xs[i] t):=by simpa using H
  rw[N8 B] at h;by_cases v:i<a.length
  ·let y:i<ys.length:=by lia
   obtain⟨u,E⟩:=tH z y;let j:a.toArray[((i:Nat):Int).toNat]?=QH (.int ys[i] u):=by simpa using E
   let K:((i:Int)+1)=((i+1:Nat):Int):=by push_cast;rfl
   rw[N8 y] at h
   wp_walk using wpAny_loadPart' m,wpAny_loadPart' o
   rw[f,j];show QM (PySem.SeqAt.EqAt.int_int _ _ _ _ e w _ _ ?_);by_cases p:xs[i]=ys[i]
   ·rw[AW,if_pos p] at h;rw[beq_iff_eq.mpr p]
    wp_walk
    rw[K]
    show⟨plainId_quiet PySem.MeetsSeq3.plain_eq_loop _,codeAny_builtin PySem.MeetsSeq3.entry_eq_loop (by
     rw[Around.under_plainId PySem.MeetsSeq3.plain_eq_loop _];show Q (i+1) (by lia) (by lia) (by lia) e w A R _ ⟨m,o,h⟩)⟩
   ·rw[AW,if_neg p] at h;rw[beq_eq_false_iff_ne.mpr p]
    wp_walk using wpAny_loadPart' m,wpAny_loadPart' o
    rw[f,j];show QM (PyProof.Rows.lt_int ?_)
    wp_walk
    show h
  ·let j:a.toArray[((i:Nat):Int).toNat]?=QI:=by simp;lia
   wp_walk using wpAny_loadPart' m,wpAny_loadPart' o
   rw[f,j]
   wp_walk using wpAny_loadPart' m,wpAny_loadPart' o
   change R (.ok (.ret (.bool (decide (c.toArray.size<a.toArray.size))))) _;rw[Pe (by lia:ys.length<=i)] at h;rw[decide_eq_false (by simp;lia)];show h
theorem vS(l b:QO)(c a:List QK)(n k:Nat)(o e:Option QO)(p i:Array (Option QK))(xs ys:List Int)(r:Vals (xs.map V.int) c)(q:Vals (ys.map V.int) a):Meets (Builtin.«list.__lt__» ⟨[.ref l,.ref b],[]⟩)
   (λA R s=>s.heap.get? l=QH { cls:=.type "list",dict:=o,data:=.seq c.toArray n,slots:=p }/\s.heap.get? b=QH { cls:=.type "list",dict:=e,data:=.seq a.toArray k,slots:=i }/\R (.ok (.ret (.bool (AW xs ys)))) s):=by
 intro f w A R s h;obtain⟨t,g,d,v,u⟩:=s;obtain⟨m,j,h⟩:=h;let x:=PySem.AutoSeq1.sub_list_list
 wp_walk using wpAny_loadPart' m,wpAny_loadPart' j
 show⟨plainId_quiet PySem.MeetsSeq3.plain_eq_loop _,codeAny_builtin PySem.MeetsSeq3.entry_eq_loop (by
  rw[Around.under_plainId PySem.MeetsSeq3.plain_eq_loop _];show vR l b c a n k o e p i xs ys r q _ 0 rfl (NZ _) (NZ _) f w A R _ ⟨m,j,h⟩)⟩
theorem Ep{X:Cx}:gu X (compareOp .Lt) (λx y H Q=>∃a b xs ys,x=.ref a/\y=.ref b/\SqL X.K H a (xs.map V.int)/\SqL X.K H b (ys.map V.int)/\X.A.units<cLine/\Q (.bl (AW xs ys)) H):=by
 intro w s Y H x y v u Q I T S h;obtain⟨a,b,xs,ys,rfl,rfl,E,O,C,q⟩:=h;cases(T);cases(S);obtain⟨i,P,N,U⟩:=I.list E;obtain⟨e,j,g,B⟩:=I.list O;obtain⟨⟨R,M,r,L⟩,t,z,n,o⟩:=N.isList;obtain⟨⟨p,l,k,m⟩,f,d,D,c⟩:=g.isList;simp only at z o d c;subst z o d c;show PySem.richCompare_meets_room (op:=.Lt) ⟨_,t,rfl⟩ ⟨_,f,rfl⟩ PySem.F.slot_list_lt PySem.F.entry_list_lt (PySem.F.args_list_lt_2 _ _) (vS a b i e n D M l L m xs ys P j)
  ⟨t,f,show Value.bool (AW xs ys)≠Value.notImplemented/\_ from⟨(λx=>nomatch x),⟨.bl (AW xs ys),H,I,rfl,q⟩⟩⟩ C
end G
namespace J
noncomputable def eX:D->Option aN
 |.int i=>QH (.inl i)
 |.str x=>QH (.inr x)
 |_=>QI
def iS:List D->Option (List aN)
 |[]=>QH []
 |d::ds=>match eX d,iS ds with
  |some k,QH ks=>QH (k::ks)
  |_,_=>QI
def Er:D->Option (aN ⊕ List aN)
 |.nd .tup ds=>(iS ds).map .inr
 |d=>(eX d).map .inl
def oZ:List D->Option (List (aN ⊕ List aN))
 |[]=>QH []
 |d::ds=>match Er d,oZ ds with
  |some k,QH ks=>QH (k::ks)
  |_,_=>QI
noncomputable def Es:Nat->List (aN ⊕ List aN)->Bool
 |_,[]=>QJ
 |m,.inl _::r=>m%2==0&&Es (m / 2) r
 |m,.inr _::r=>m%2==1&&Es (m / 2) r
def iT:D->Option DK
 |.nd .tup ds=>(oZ ds).map .inr
 |d=>(eX d).map .inl
noncomputable def aR(ks:List DK)(k:DK):Option Nat:=ks.findIdx? λx=>decide (x=k)
section
variable {K:Np} {H:Hp} {S:Pr}
theorem nj(h:eX d=QH k)(r:Rp K H S d v):v=kV k:=by
 cases d<;>simp only[eX] at h<;>first|(cases h;done)|(cases h;first|show r.int|show r.str)
theorem o3:∀{ds:List D} {ks:List aN} {vs:List V},iS ds=QH ks->RpL K H S ds vs->vs=ks.map kV
 |[],ks,vs,h,r=>by cases h;show r.nil_inv
 |d::ds,ks,vs,h,r=>by
  obtain⟨y,e,rfl,b,c⟩:=r.cons_inv;unfold iS at h;split at h
  ·ext k a e1 e2;cases h;rw[nj e1 b,o3 e2 c];rfl
  ·cases h
theorem nl:∀{ds:List D} {ks:List (aN ⊕ List aN)} {vs:List V} {m:Nat},oZ ds=QH ks->RpL K H S ds vs->Es m ks=QJ->TkIts H m ks vs
 |[],ks,vs,m,h,r,hm=>by cases h;show r.nil_inv
 |d::ds,ks,vs,m,h,r,hm=>by
  obtain⟨y,b,rfl,c,f⟩:=r.cons_inv;unfold oZ at h;split at h
  ·ext k i e1 e2;cases h
   cases k with
   |inl k=>
    simp only[Es,Nr,beq_iff_eq] at hm;show⟨b,?_,hm.1,nl e2 f hm.2⟩
    have:eX d=QH k:=by
     unfold Er at e1;split at e1
     ·cases e:iS _<;>rw[e] at e1<;>cases e1
     ·cases e:eX d with
      |none=>rw[e] at e1;cases e1
      |some z=>rw[e] at e1;cases e1;rfl
    rw[nj this c]
   |inr k=>
    simp only[Es,Nr,beq_iff_eq] at hm;unfold Er at e1;split at e1
    ·ext j
     cases e:iS j with
     |none=>rw[e] at e1;cases e1
     |some z=>
      rw[e] at e1;cases e1;obtain⟨a,o,n,rfl,_,g,q,l⟩:=c.nd;cases(show o=_ from q);rw[o3 e l] at g;show⟨a,b,rfl,hm.1,g,nl e2 f hm.2⟩
    ·cases e:eX d<;>rw[e] at e1<;>cases e1
  ·cases h
theorem nq(h:iT d=QH k)(r:Rp K H S d v):(∃x,k=.inl x/\v=kV x)\/∃xs b,k=.inr xs/\v=.ref b/\∀m,Es m xs=QJ->TkAt H m xs b:=by
 let l:∀{d:D},(eX d).map Sum.inl=QH k->Rp K H S d v->(∃x,k=.inl x/\v=kV x):=λ{d} h r=>by
  cases e:eX d with
  |none=>rw[e] at h;cases h
  |some x=>rw[e] at h;cases h;show⟨x,rfl,nj e r⟩
 unfold iT at h;split at h
 ·ext c
  cases e:oZ c with
  |none=>rw[e] at h;cases h
  |some i=>
   rw[e] at h;cases h;obtain⟨a,o,xs,rfl,_,g,q,j⟩:=r.nd;cases(show o=_ from q);show .inr ⟨i,a,rfl,rfl,λm f=>⟨xs,g,nl e j f⟩⟩
 ·show .inl (l h r)
end
theorem iU{κ:Type}[DecidableEq κ]:∀(c:List (κ×V)) (k:κ),gT c k=(c.findIdx? λd=>decide (d.1=k)).bind λi=>(c.map (·.2))[i]?
 |[],k=>rfl
 |(a,b)::r,k=>by
  let f:=iU r k;unfold gT at f⊢;rw[OH,N4];by_cases h:a=k
  ·simp[h]
  ·simp only[h,decide_false];rw[f]
   cases e:r.findIdx? λd=>decide (d.1=k) with
   |none=>simp
   |some i=>simp
def gY(t:Nat):DK->Bool
 |.inl _=>t==0
 |.inr xs=>(match t with|0=>QL|m+1=>Es m xs)
theorem jX{K:Np}{H:Hp}{S:Pr}{a:QO}{o:HO}{t:Nat}{ks:List DK}{xs:List V}{d:D}{k:DK}{v:V}(g:H a=QH o)(q:cP K o (.dic t ks) xs)(h:iT d=QH k)(r:Rp K H S d v)(hk:gY t k=QJ) :
  DGet H a v ((aR ks k).bind λi=>xs[i]?):=by
 rcases q with⟨rfl,c,rfl,e1,e2⟩|⟨m,rfl,c,l,rfl,e1,e2⟩
 ·rcases nq h r with⟨x,rfl,rfl⟩|⟨e,b,rfl,rfl,j⟩
  ·have:=DGet.k (k:=x) g;rw[iU] at this
   let e3:aR ks (.inl x)=c.findIdx? λf=>decide (f.1=x):=by
    unfold aR;rw[e1,OX];congr 1;funext p;simp[Sum.inl.injEq]
   rw[e3,e2];show this
  ·cases hk
 ·rcases nq h r with⟨x,rfl,rfl⟩|⟨e,b,rfl,rfl,j⟩
  ·cases hk
  ·have:=DGet.t (k:=e) g (j m hk);rw[iU] at this
   let e3:aR ks (.inr e)=c.findIdx? λf=>decide (f.1=e):=by
    unfold aR;rw[e1,OX];congr 1;funext p;simp[Sum.inr.injEq]
   rw[e3,e2];show this
theorem AX{ks:List DK}{i:Nat}(h:aR ks k=QH i):i<ks.length:=by
 unfold aR at h;show(List.findIdx?_eq_some_iff_findIdx_eq.mp h).1
theorem tI{ks:List DK}{xs:List V}(q:cP K o (.dic t ks) xs):ks.length=xs.length:=by
 rcases q with⟨rfl,a,rfl,e1,e2⟩|⟨m,rfl,a,b,rfl,e1,e2⟩<;>rw[e1,e2,Nt,Nt]
theorem jD{ks:List DK}{xs:List V}(a:ks.length=xs.length):((aR ks k).bind λi=>xs[i]?).isSome=(aR ks k).isSome:=by
 cases e:aR ks k with
 |none=>rfl
 |some i=>
  have:=AX e;rw[Ob,NC (by lia)];rfl
noncomputable def xB:D->Bool
 |.non=>QJ
 |_=>QL
noncomputable def HM(b:Bool):D->Bool
 |.bl c=>c==b
 |_=>QL
def Nn:D->Bool
 |.nd (.dic 0 []) _=>QJ
 |_=>QL
noncomputable def toInts:List D->Option (List Int)
 |[]=>QH []
 |.int b::r=>(toInts r).map (b::·)
 |_=>QI
theorem iV:∀{ds:List D} {bs:List Int},toInts ds=QH bs->ds=bs.map D.int
 |[],bs,h=>by cases h;rfl
 |d::r,bs,h=>by
  cases d<;>simp only[toInts] at h<;>try cases h
  ext b
  cases e:toInts r with
  |none=>rw[e] at h;cases h
  |some a=>rw[e] at h;cases h;rw[iV e];rfl
theorem RpL.toInts:∀{ns:List Int} {vs:List V},RpL K H S (ns.map D.int) vs->vs=ns.map V.int
 |[],_,h=>h.nil_inv
 |b::bs,_,h=>by
  obtain⟨y,a,rfl,r,t⟩:=h.cons_inv;rw[r.int,RpL.toInts t];rfl
def Lc(x y:D):Option Bool:=match x with
 |.int i=>(match y with|.int j=>QH (decide (i<j))|_=>QI)
 |.nd .lst as=>(match y with
  |.nd .lst bs=>(match toInts as with
   |some xs=>(match toInts bs with
    |some ys=>QH (G.AW xs ys)
    |none=>QI)
   |none=>QI)
  |_=>QI)
 |_=>QI
def cH(op:Rc)(x y:D):Option Bool:=
 match op with
 |.Lt=>Lc x y
 |.LtE=>(match x,y with|.int i,.int j=>QH (decide (i<=j))|_,_=>QI)
 |.Gt=>(match x,y with|.int i,.int j=>QH (decide (j<i))|_,_=>QI)
 |.GtE=>(match x,y with|.int i,.int j=>QH (decide (j<=i))|_,_=>QI)
 |.Eq=>if dB 90 x=QJ/\dB 90 y=QJ then QH (vQ x y) else QI
 |.NotEq=>if dB 90 x=QJ/\dB 90 y=QJ then QH (!vQ x y) else QI
 |.In=>(match y with
  |.nd (.dic t ks) _=>(match iT x with|some k=>if gY t k=QJ then QH (aR ks k).isSome else QI|none=>QI)
  |_=>QI)
 |.NotIn=>(match y with
  |.nd .lst ds=>if dB 90 x=QJ/\gX 90 ds=QJ then QH (!(ds.any λz=>vQ z x)) else QI
  |.nd (.dic t ks) _=>(match iT x with|some k=>if gY t k=QJ then QH (!(aR ks k).isSome) else QI|none=>QI)
  |_=>QI)
 |.Is=>(match y with
  |.non=>QH (xB x)
  |_=>QI)
 |.IsNot=>(match y with
  |.bl b=>QH (!HM b x)
  |_=>QI)
abbrev Nv:Pr:=λ_=>False
def Et(K:Np)(op:Rc):R2:=λx y H Q=>∃dx q b,Rp K H Nv dx x/\Rp K H Nv q y/\cH op dx q=QH b/\Q (.bl b) H
theorem tJ(x:D):∀ds:List D,((tD ds).any λz=>PyData.eqv z (py x))=ds.any λz=>vQ z x
 |[]=>by simp[tD]
 |d::ds=>by simp only[tD,PJ,tJ x ds];rfl
theorem nr{X:Cx}(hu:X.A.units+100<cLine)(op:Rc):gu X (compareOp op) (Et X.K op):=by
 intro m s Y H x y v u Q I l w h;obtain⟨E,F,b,f,r,d,q⟩:=h;let hj:X.A.units+1<cLine:=by lia
 let z:∀{C:Bool},C=b->EP X m Y Q (.bool C) s:=λe=>⟨.bl b,H,I,by rw[e];rfl,q⟩
 let R:∀(C:Bool),F=.bl C->plainIs v u=QJ/\(v==u)=HM C E:=λC e=>by
  subst e;let T:=r.bl;subst T;cases w
  cases E with
  |non=>have e:=f.non;subst e;cases l;show⟨rfl,rfl⟩
  |bl c=>have e:=f.bl;subst e;cases l;show⟨rfl,by cases c<;>cases C<;>rfl⟩
  |int i=>have e:=f.int;subst e;obtain⟨t,rfl⟩:=l;show⟨rfl,rfl⟩
  |str i=>have e:=f.str;subst e;obtain⟨t,rfl⟩:=l;show⟨rfl,rfl⟩
  |scr ns=>obtain⟨a,rfl,_⟩:=f.scr;cases l;show⟨rfl,rfl⟩
  |nd W V=>obtain⟨a,o,N,rfl,_⟩:=f.nd;cases l;show⟨rfl,rfl⟩
 let P:F=.non->plainIs v u=QJ/\(v==u)=xB E:=λe=>by
  subst e;let T:=r.non;subst T;cases w
  cases E with
  |non=>have e:=f.non;subst e;cases l;show⟨rfl,rfl⟩
  |bl c=>have e:=f.bl;subst e;cases l;show⟨rfl,by cases c<;>rfl⟩
  |int i=>have e:=f.int;subst e;obtain⟨t,rfl⟩:=l;show⟨rfl,rfl⟩
  |str i=>have e:=f.str;subst e;obtain⟨t,rfl⟩:=l;show⟨rfl,rfl⟩
  |scr ns=>obtain⟨a,rfl,_⟩:=f.scr;cases l;show⟨rfl,rfl⟩
  |nd W V=>obtain⟨a,o,N,rfl,_⟩:=f.nd;cases l;show⟨rfl,rfl⟩
 cases op with
 |Lt=>
  replace d:Lc E F=QH b:=d
  cases E with
  |int i=>cases F with
   |int j=>cases d;obtain rfl:=f.int;obtain rfl:=r.int;show Hf m s Y H _ _ v u Q I l w ⟨_,_,rfl,rfl,q⟩
   |_=>cases d
  |nd W V=>cases W with
   |lst=>cases F with
    |nd he hh=>cases he with
     |lst=>
      dsimp only[Lc] at d;split at d
      ·ext N hx;split at d
       ·ext ys hy;cases d;rw[iV hx] at f;rw[iV hy] at r;obtain⟨a,o,us,rfl,n1,g1,q1,r1⟩:=f.nd;obtain⟨a',o',hg,rfl,hi,ha,hc,U⟩:=r.nd;cases(show o=_ from q1);cases(show o'=_ from hc);obtain rfl:=r1.toInts;obtain rfl:=U.toInts;show G.Ep m s Y H _ _ v u Q I l w ⟨a,a',N,ys,rfl,rfl,.of g1,.of ha,by lia,q⟩
       ·cases d
      ·cases d
     |_=>cases d
    |_=>cases d
   |_=>cases d
  |_=>cases d
 |LtE=>
  simp only[cH] at d;split at d
  ·cases d;obtain rfl:=f.int;obtain rfl:=r.int;show Hg m s Y H _ _ v u Q I l w ⟨_,_,rfl,rfl,q⟩
  ·cases d
 |Gt=>
  simp only[cH] at d;split at d
  ·cases d;obtain rfl:=f.int;obtain rfl:=r.int;show Hh m s Y H _ _ v u Q I l w ⟨_,_,rfl,rfl,q⟩
  ·cases d
 |GtE=>
  simp only[cH] at d;split at d
  ·cases d;obtain rfl:=f.int;obtain rfl:=r.int;show Hj m s Y H _ _ v u Q I l w ⟨_,_,rfl,rfl,q⟩
  ·cases d
 |Eq=>
  simp only[cH] at d;split at d
  ·ext B;cases d;obtain⟨⟨as,O⟩,M,a2⟩:=c8 I B.1 f l;obtain⟨⟨bs,D⟩,b1,b2⟩:=c8 I B.2 r w;show SeqAt.compareEq_reads O D M b1 (by lia) (z rfl)
  ·cases d
 |NotEq=>
  simp only[cH] at d;split at d
  ·ext B;cases d;obtain⟨⟨as,O⟩,M,a2⟩:=c8 I B.1 f l;obtain⟨⟨bs,D⟩,b1,b2⟩:=c8 I B.2 r w;show SeqAt.compareNe_reads O D M b1 (by lia) (z rfl)
  ·cases d
 |In=>
  simp only[cH] at d;split at d
  ·ext t ks vs;split at d
   ·ext k ek;split at d
    ·ext Z;cases d;obtain⟨a,o,N,rfl,_,g,L,rl⟩:=r.nd;cases w;show K6 (by lia) I (jX g L ek f Z) l λs3 S=>⟨.bl _,H,S,rfl,?_⟩;rw[jD (tI L)];show q
    ·cases d
   ·cases d
  ·cases d
 |NotIn=>
  simp only[cH] at d;split at d
  ·ext V;split at d
   ·ext B;cases d;obtain⟨⟨as,O⟩,M,a2⟩:=c8 I B.1 f l;obtain⟨⟨bs,D⟩,b1,b2⟩:=c8 (n:=91) I (by simp only[dB,Nr];show⟨rfl,B.2⟩) r w;simp only[py,PyData.canLay0,PyData.depth] at D b1 b2;show SeqAt.notIn_list_reads D O b1 M (by lia) (z (by rw[tJ]))
   ·cases d
  ·ext t ks vs;split at d
   ·ext k ek;split at d
    ·ext Z;cases d;obtain⟨a,o,N,rfl,_,g,L,rl⟩:=r.nd;cases w;show AJ (by lia) I (jX g L ek f Z) l λs3 S=>⟨.bl _,H,S,rfl,?_⟩;rw[jD (tI L)];show q
    ·cases d
   ·cases d
  ·cases d
 |Is=>
  simp only[cH] at d;split at d
  ·cases d;obtain⟨p,e⟩:=P rfl;show wpAny_is_plain p (z e)
  ·cases d
 |IsNot=>
  simp only[cH] at d;split at d
  ·cases d;obtain⟨p,e⟩:=R _ rfl;show wpAny_isNot_plain p (z (by rw[e]))
  ·cases d
noncomputable def vT:D->Option Bool
 |.non=>QH QL
 |.bl b=>QH b
 |.int i=>QH (i != 0)
 |.scr ns=>QH (!ns.isEmpty)
 |.nd .lst xs=>QH (!xs.isEmpty)
 |.nd .tup xs=>QH (!xs.isEmpty)
 |_=>QI
theorem RpL.empty{ds:List D}{vs:List V}(h:RpL K H S ds vs):vs.isEmpty=ds.isEmpty:=by
 have:=h.len
 cases vs<;>cases ds<;>simp_all
theorem xC(t:Rp K H S d v)(h:vT d=QH b):Ax K v H b:=by
 cases d with
 |non=>obtain rfl:=t.non;cases h;rfl
 |bl k=>obtain rfl:=t.bl;cases h;rfl
 |int i=>obtain rfl:=t.int;cases h;rfl
 |str x=>cases h
 |scr ns=>
  obtain⟨a,rfl,g⟩:=t.scr;cases h
  show .inl ⟨_,g,by cases ns<;>rfl⟩
 |nd f l=>
  obtain⟨a,o,e,rfl,_,g,q,r⟩:=t.nd
  cases f with
  |lst=>cases h;cases(show o=_ from q);show .inl ⟨e,.of g,by rw[r.empty]⟩
  |tup=>cases h;cases(show o=_ from q);show .inr (.inl ⟨e,.of g,by rw[r.empty]⟩)
  |dic t j=>cases h
  |obj c ns=>cases h
noncomputable def Ow.ch:Ow->Nat->Ow
 |.fz,_=>.fz
 |.own es r,i=>es.getD i r
def mn:Kd->Nat->Kd
 |.sh,_=>.sh
 |.fr k,i=>(match k.ch i with|.fz=>.sh|c=>.fr c)
 |.bo j k,i=>(match k.ch i with|.fz=>.sh|c=>.bo j c)
section
variable {K:Np} {H H' H0:Hp} {S:Pr} {g:Gh}
theorem TrL.len:∀{ds:List D} {es:List Ow} {r:Ow} {xs:List V} {F:Pr},TrL K H S ds es r xs F->xs.length=ds.length
 |[],_,_,_,_,h=>by unfold TrL at h;rw[h.1];rfl
 |d::ds,es,r,xs,F,h=>by
  unfold TrL at h;obtain⟨y,c,e,b,rfl,_,_,_,a⟩:=h;rw[N3,N3,TrL.len a]
theorem TrL.get:∀{ds:List D} {es:List Ow} {r:Ow} {xs:List V} {F:Pr} {i:Nat} {d:D},TrL K H S ds es r xs F->ds[i]?=QH d->∃x a,xs[i]?=QH x/\(∀b,a b->F b)/\Tr K H S d (es.getD i r) x a
 |[],_,_,_,_,_,_,h,e=>by simp at e
 |d::ds,es,r,xs,F,0,d',h,e=>by
  unfold TrL at h;obtain⟨y,k,g,l,rfl,c,_,j,f⟩:=h;simp at e;subst e
  show⟨y,g,rfl,λb z=>(c b).mpr (.inl z),by cases es<;>simpa using j⟩
 |d::ds,es,r,xs,F,i+1,d',h,e=>by
  unfold TrL at h;obtain⟨y,k,g,l,rfl,c,_,j,f⟩:=h;obtain⟨x,a,e1,e2,e3⟩:=TrL.get f (by simpa using e)
  show⟨x,a,by simpa using e1,λb z=>(c b).mpr (.inr (e2 b z)),by cases es<;>simpa using e3⟩
theorem VR.ch{ds:List D}(h:VR K g H0 H kd (.nd hd ds) v):∃a o xs,v=.ref a/\H a=QH o/\cP K o hd xs/\xs.length=ds.length/\∀(i:Nat) d,ds[i]?=QH d->∃x,xs[i]?=QH x/\VR K g H0 H (mn kd i) d x:=by
 obtain⟨F,I,m⟩:=h
 let p:∀{L:Pr},(∀b,g b≠QI->L b)->Rp K H L (.nd hd ds) v->∃a o xs,v=.ref a/\H a=QH o/\cP K o hd xs/\xs.length=ds.length/\∀(i:Nat) d,ds[i]?=QH d->∃x,xs[i]?=QH x/\VR K g H0 H .sh d x:=λB r=>by
  obtain⟨a,o,xs,e,n,l,f,q⟩:=r.nd;show⟨a,o,xs,e,l,f,q.len,λi d e=>?_⟩;obtain⟨x,e1,e2⟩:=q.getD e;show⟨x,e1,GE (e2.weak λb z=>B b z)⟩
 cases kd with
 |sh=>show p (λb z=>.inl z) m.2
 |fr k=>
  let m:Tr K H (Sx g F) _ k v F:=m
  cases k with
  |fz=>
   obtain⟨a,o,xs,e,l,f,q,C⟩:=p (λb z=>.inl z) m.fz_inv.2;show⟨a,o,xs,e,l,f,q,C⟩
  |own s r=>
   unfold Tr at m;obtain⟨a,o,xs,O,e,l,f,Q,M,y,t⟩:=m;show⟨a,o,xs,e,l,f,t.len,λi d e=>?_⟩;obtain⟨x,w,e1,e2,e3⟩:=t.get e;show⟨x,e1,?_⟩;let B:∀b o,H b=QH o->¬Sx g F b->¬Sx g w b:=λb o _ n z=>n (z.imp id λz=>(y b).mpr (.inr (e2 b z)))
   change VR K g H0 H (match s.getD i r with|.fz=>.sh|c=>.fr c) d x
   cases u:s.getD i r with
   |fz=>
    rw[u] at e3;show GE (e3.fz_inv.2.weak λb z=>.inl z)
   |own E R=>
    rw[u] at e3;show⟨w,λb z=>I b ((y b).mpr (.inr (e2 b z))),e3.go (λ_ _ _ h=>h) B⟩
 |bo j k=>
  obtain⟨N,S,P,A⟩:=m
  cases k with
  |fz=>
   obtain⟨a,o,xs,e,l,f,q,C⟩:=p (λb z=>.inl z) A.fz_inv.2;show⟨a,o,xs,e,l,f,q,C⟩
  |own s r=>
   unfold Tr at A;obtain⟨a,o,xs,O,e,l,f,Q,M,y,t⟩:=A;show⟨a,o,xs,e,l,f,t.len,λi d e=>?_⟩;obtain⟨x,w,e1,e2,e3⟩:=t.get e;show⟨x,e1,?_⟩
   change VR K g H0 H (match s.getD i r with|.fz=>.sh|c=>.bo j c) d x
   cases u:s.getD i r with
   |fz=>
    rw[u] at e3;show GE (e3.fz_inv.2.weak λb z=>.inl z)
   |own E R=>
    rw[u] at e3;show⟨F,I,N,w,λb z=>P b ((y b).mpr (.inr (e2 b z))),e3⟩
end
structure Cz where
 sc:Q0
 N:List Str
 fn:Str->Bool
abbrev Fn:=List D->Option KD
structure Tab where
 fn:Str->Option Fn
 fm:Str->Option (Np->Sp)
 cst:Str->Option D
 cf:Str->Option (List Str)
noncomputable def aZ(x:Str):List Str->Option Nat
 |[]=>QI
 |y::r=>if x=y then QH 0 else(aZ x r).map (·+1)
theorem aU:∀{N:List Str} {i:Nat},aZ x N=QH i->N[i]?=QH x
 |[],_,h=>by cases h
 |y::r,i,h=>by
  unfold aZ at h;split at h
  ·ext e;cases h;simp[e]
  ·cases q:aZ x r with
   |none=>rw[q] at h;cases h
   |some j=>
    rw[q] at h;cases h;simpa using aU q
noncomputable def Eu(q:Q0)(x:Str):Bool:=q.names.lookup x==QH .local||q.names.lookup x==QH .cell||q.names.lookup x==QH .free
noncomputable def lI(c:Cz)(x:Str):Bool:=c.sc.names.lookup x==QH .local||(c.fn x&&c.sc.names.lookup x==QH .cell)
noncomputable def gw(scope:Q0)(x:Str):Bool:=scope.names.lookup x==QH .cell
noncomputable def qz(x:Str):Bool:=x.cps.toList.contains 46
noncomputable def mC(x:Str):Str:=⟨(x.cps.toList.takeWhile (· != 46)).toArray⟩
noncomputable def mM(x:Str):Str:=⟨((x.cps.toList.dropWhile (· != 46)).drop 1).toArray⟩
noncomputable def GF(c m:Str):List D->Bool
 |.nd (.obj c' ns) _::_=>decide (c'=c)&&!ns.contains m
 |_=>QL
def iW(q:Q0)(x:Str):Bool:=q.names.lookup x==QH .globalImplicit&&!qz x
theorem Ld{x:Str}(h:iW sc x=QJ):qz x=QL:=by
 simp only[iW,Nr,OK] at h;show h.2
theorem ny(h:Eu sc x=QJ):G3 sc x:=by
 simp only[Eu,Op,beq_iff_eq] at h;rcases h with(h|h)|h
 ·show .inl h
 ·show .inr (.inl h)
 ·show .inr (.inr h)
noncomputable def nA(x:Str):Bool:=!(x==("__debug__":Str))&&!(x==("__classdict__":Str))
def nB(K:Np)(B:Fn):Sp:=λvs H Q _=>∃ds g q d,RpL K H (Sg g) ds vs/\MuOk H (Sg g)/\B ds=QH (q,d)/\∀v H',Same H H'->VR K g H H' q d v->Q v H'
noncomputable def aE:List Str:=["len","isinstance","int","bool","list","all","range","enumerate","str","sum","min","max","abs","tuple","zip","dict","sorted","reversed","any","set","repr"]
def q8(C:QO)(sp q:Sp):Prop:=∀vs H Q,sp vs H Q E0->∀a dx,H a=QI->H dx=QI->dx≠a->q (.ref a::vs) (upd (upd H dx (.own a)) a (.ins C dx [])) (λv H2=>v=.non/\Q (.ref a) H2) E0
def gZ(X:Cx)(x:Str)(B:Fn):Prop:=if qz x=QJ then
 ∃C k f fd ps,Oa X.K QZ (mC x)=QH (QH (.ref C))/\Cls X.K C/\oH X.K C (mM x) f/\FnOk X.prog X.w X.K X.mg X.base iO k f fd ps (nB X.K B)/\Room k X.A/\Binds X.K fd ps []/\∀ds r,B ds=QH r->GF (mC x) (mM x) ds=QJ else
 (∃k f fd ps,FnOk X.prog X.w X.K X.mg X.base iO k f fd ps (nB X.K B)/\Room k X.A/\X.mg x=QH (.ref f)/\Om X.K (.ref f)=QJ/\Binds X.K fd ps []/\(x==("__debug__":Str))=QL)\/
 (∃C k f fd ps q,Mk X.K C f/\FnOk X.prog X.w X.K X.mg X.base iO k f fd ps q/\Room (k+1) X.A/\X.mg x=QH (.ref C)/\Binds X.K fd ps []/\(x==("__debug__":Str))=QL/\q8 C (nB X.K B) q)
def Nb(sp:Sp)(t:TA):TE:=λY H Q=>t Y H λvs H1=>sp vs H1 Q E0
theorem HN{X:Cx}{t:TA}(o:∀(Y:L2.St) (H:Hp) (Q R:List V->Hp->Prop),t Y H Q->(∀vs H1,Q vs H1->R vs H1)->t Y H R)(h:gZ X x B)(N:qz x=QL)(l:Gl X x)(m:PA X (e::es) t)(n:QU (e::es) X.env=(QL,eval e X.env)::QU es X.env)(d:(backTo pos (QU es X.env)).any (·.1)=QL) :
  PE X (.Call (.Name x p) (e::es) [] pos) (Nb (nB X.K B) t):=by
 intro b s Y H Q I q;unfold gZ at h;rw[if_neg (by rw[N];show NV)] at h;rcases h with⟨k,f,u,L,F,g,i,hk,j,c⟩|⟨C,k,f,u,L,D,M,F,g,i,j,c,A⟩
 ·show sX (E:=E0) F g l i hk j .nil oO m c n d b s Y H Q I (o _ _ _ _ q λvs H1 z=>by rw[N9];show z)
 ·show AB (E:=E0) M F g l i j .nil oO m c n d b s Y H Q I (o _ _ _ _ q λvs H1 z a v r w y=>by rw[N9];show A vs H1 Q z a v r w y)
structure Cw(X:Cx)(U:Tab):Prop where
 fn:∀x B,U.fn x=QH B->gZ X x B
 cf:∀c fs C,U.cf c=QH fs->Oa X.K QZ c=QH (QH (.ref C))->Cls X.K C/\∀a∈fs,NoAttr X.K C a
 fm:∀x sp,U.fm x=QH sp->∃k f fd ps,FnOk X.prog X.w X.K X.mg X.base iO k f fd ps (sp X.K)/\Room k X.A/\X.mg x=QH (.ref f)/\Om X.K (.ref f)=QJ/\Binds X.K fd ps []/\(x==("__debug__":Str))=QL
 bl:∀x∈aE,X.mg x=QI
 units:X.A.units+100<cLine
 gd:X.A.guards=QH []
 cst:∀x d,U.cst x=QH d->∃u v,X.mg x=QH u/\RelV v u/\(∀H S,Rp X.K H S d v)/\(x==("__debug__":Str))=QL
structure ao(X:Cx)(U:Tab)(c:Cz):Prop where
 sc:X.env.scope=c.sc
 N:X.N=c.N
 fn:∀x,c.fn x=QJ->X.fn x=QJ
 calm:X.calm=QJ
 nd:c.N.Nodup
 tab:Cw X U
section
variable {X:Cx} {U:Tab} {c:Cz}
theorem dC(O:ao X U c)(h:iW c.sc x=QJ):Gl X x:=by
 change X.env.scope.names.lookup x=_;rw[O.sc];simp only[iW,Nr,beq_iff_eq] at h;show h.1
theorem iX(O:ao X U c){x:Str}(h:lI c x=QJ):Ck X.env.scope x/\(X.fn x=QJ\/X.env.scope.names.lookup x=QH .local):=by
 simp only[lI,Op,Nr,beq_iff_eq] at h;rw[O.sc];rcases h with h|h
 ·show⟨.inl h,.inr h⟩
 ·show⟨.inr h.2,.inl (O.fn x h.1)⟩
def eG(i:Nat)(o:Option (Option Sl)):Option KD:=match o with|some (QH s)=>QH (oW i s)|_=>QI
def fR(c:Cz)(x:Str):Option Nat:=match aZ x c.N with|some i=>if Eu c.sc x&&nA x then QH i else QI|none=>QI
theorem g6(O:ao X U c){i:Nat}(a:fR c x=QH i)(pos:Pos):SndE X (λZ=>eG i Z[i]?) (.Name x pos):=by
 intro Z l d h g Y H Q k q;unfold fR at a;split at a
 ·ext j f;split at a
  ·ext b;cases a;simp only[Nr,nA,OK] at b;dsimp only[eG] at h;split at h
   ·ext m e;cases h;obtain⟨v,e1,e2⟩:=k.get e;show am (qB (i:=i) (by rw[O.N];show aU f) (by rw[O.sc];show ny b.1) b.2.1 b.2.2) ⟨v,e1,q v H (Same.refl H) e2⟩
   ·cases h
  ·cases a
 ·cases a
theorem HP(i:Int)(j:Nat)(pos:Pos):SndE X (λ_=>QH (.sh,.int i)) (.Constant (.int i) j pos):=by
 intro Z a d h g Y H Q b q;cases h;show am DI (q _ H (Same.refl H) oY)
theorem Lf(i:Bool)(j:Nat)(pos:Pos):SndE X (λ_=>QH (.sh,.bl i)) (.Constant (.bool i) j pos):=by
 intro Z a d h g Y H Q b q;cases h;show am G4 (q _ H (Same.refl H) Cv)
theorem HQ(j:Nat)(pos:Pos):SndE X (λ_=>QH (.sh,.non)) (.Constant .none j pos):=by
 intro Z a d h g Y H Q b q;cases h;show am DJ (q _ H (Same.refl H) Eo)
theorem HR(x:Str)(j:Nat)(pos:Pos):SndE X (λ_=>QH (.sh,.str x)) (.Constant (.str x) j pos):=by
 intro Z a d h g Y H Q b q;cases h;show am DL (q _ H (Same.refl H) HK)
theorem HS(O:ao X U c)(i:iW c.sc x=QJ)(e:U.cst x=QH d)(pos:Pos):SndE X (λ_=>QH (.sh,d)) (.Name x pos):=by
 intro Z k l h g Y H Q m q;cases h;obtain⟨u,v,j,a,b,f⟩:=O.tab.cst x d e;show am (Ai (dC O i) j a f) (q v H (Same.refl H) (GE (b H _)))
theorem two{d c:Ro->Option KD}(i:SndE X d a)(f:SndE X c b)(h:d Z=QH (ka,da))(l:c Z=QH (kb,db)){R:V->V->Hp->Prop}(e:SE X.K g Z Y H)(q:∀x y H',Same H H'->VR X.K g H H' ka da x->VR X.K g H H' kb db y->R x y H'):wE X a Y H λx H1=>wE X b Y H1 λy H2=>R x y H2:=
 i Z ka da h g Y H _ e λx H1 s1 k=>f Z kb db l g Y H1 _ (e.same s1) λy H2 s2 j=>q x y H2 (s1.trans s2) (k.same s2) (j.older s1)
def AY(op:Q1)(a b:Option KD):Option KD:=match a,b with
 |some x,QH y=>dZ op x y
 |_,_=>QI
theorem HU{e c:Ro->Option KD}(k:SndE X e a)(o:SndE X c b):SndE X (λZ=>AY op (e Z) (c Z)) (.BinOp a op b pos):=by
 intro Z l d h g Y H Q f q;dsimp only[AY] at h;split at h
 ·ext x y i n;show am (Cq (xA op) aq aq) (two k o i n f λw t u s j p=>⟨g,H,x,y,l,d,f.mu,s,j,p,h,λv m s2 r=>q v m (s.trans s2) (r.older s)⟩)
 ·cases h
def nC(op:Rc)(a b:Option KD):Option Bool:=match a,b with
 |some (_,x),QH (_,y)=>cH op x y
 |_,_=>QI
noncomputable def bV(o:Option Bool):Option KD:=o.map λb=>(.sh,.bl b)
theorem HV{k j:Ro->Option KD}{a b:QN}{op:Rc}(O:ao X U c)(n:Q9 op b=QL)(m:SndE X k a)(t:SndE X j b):SndE X (λZ=>bV (nC op (k Z) (j Z))) (.Compare a [op] [b] pos):=by
 intro Z A d h g Y H Q u q
 cases e:nC op (k Z) (j Z) with
 |none=>simp only[e,bV] at h;cases h
 |some r=>
  simp only[e,bV] at h;cases h;unfold nC at e;split at e
  ·ext w x v y l p;show am (Av (nr O.tab.units op) aq aq n) (two m t l p u λB z o s i f=>⟨x,y,r,i.rd,f.rd,e,q _ o s Cv⟩)
  ·cases e
theorem cb{i h:Ro->Option KD}{a b:QN}{op:Rc}(O:ao X U c)(l:Q9 op b=QL)(k:SndE X i a)(o:SndE X h b):SndT X (λZ=>nC op (i Z) (h Z)) (.Compare a [op] [b] pos):=by
 intro Z r d g Y H Q p q;dsimp only[nC] at d;split at d
 ·ext u x t y j n;show xy (Aw (nr O.tab.units op) aq aq l) (two k o j n p λw v m s f e=>⟨x,y,r,f.rd,e.rd,d,r,rfl,q m s⟩)
 ·cases d
def iY(op q:Rc)(a b z:Option KD):Option Bool:=match a,b with
 |some (_,x),QH (_,y)=>(match cH op x y with
  |some QJ=>(match z with|some (_,z)=>cH q y z|none=>QI)
  |some QL=>QH QL
  |none=>QI)
 |_,_=>QI
theorem q9{o n m:Ro->Option KD}(l:SndE X o a)(p:SndE X n b)(u:SndE X m e)(h:iY op op' (o Z) (n Z) (m Z)=QH r){Q:VK}(j:SE X.K g Z Y H)(q:∀H',Same H H'->Q (.bl r) H') :
  wZ (Et X.K op) (Et X.K op') (wE X a) (wE X b) (wE X e) Y H Q:=by
 unfold iY at h;split at h
 ·ext F x D y k t;split at h
  ·ext i;split at h
   ·ext w z C;show two l p k t j λB v H' s d c=>⟨x,y,QJ,d.rd,c.rd,i,QJ,rfl,?_⟩;show vK (u Z w z C g Y H' _ (j.same s) λE A s2 f=>⟨y,z,r,(c.same s2).rd,f.rd,h,q A (s.trans s2)⟩)
   ·cases h
  ·ext i;cases h;show two l p k t j λB v H' s d c=>⟨x,y,QL,d.rd,c.rd,i,QL,rfl,vJ (q H' s)⟩
  ·cases h
 ·cases h
theorem AZ{k j i:Ro->Option KD}(O:ao X U c)(m:Q9 op' e=QL)(l:SndE X k a)(p:SndE X j b)(n:SndE X i e):SndE X (λZ=>bV (iY op op' (k Z) (j Z) (i Z))) (.Compare a [op,op'] [b,e] pos):=by
 intro Z u d h g Y H Q t q
 cases f:iY op op' (k Z) (j Z) (i Z) with
 |none=>simp only[f,bV] at h;cases h
 |some r=>
  simp only[f,bV] at h;cases h;show am (w4 (nr O.tab.units op) (nr O.tab.units op') aq aq aq m) (q9 l p n f t (Q:=Q) λo s=>q _ o s Cv)
def eI(a:Option KD):Option Bool:=match a with|some (_,d)=>vT d|none=>QI
theorem HW{j:Ro->Option KD}(p:SndE X j a):SndE X (λZ=>bV ((eI (j Z)).map (!·))) (.UnaryOp .Not a pos):=by
 intro Z z d h g Y H Q y q
 cases e:eI (j Z) with
 |none=>simp only[e,bV] at h;cases h
 |some b=>
  simp only[e,bV] at h;cases h;unfold eI at e;split at e
  ·ext k d e1;intro c s I;show PyProof.Rows.UnaryOp_ (aV (p Z _ _ e1 g Y H (λv f=>Ax X.K v f b/\Q (.bl (!b)) f) y (λv f s r=>⟨xC r.rd e,q _ f s Cv⟩) c s I) λv s1 ⟨x,u,t,o,n,m⟩=>?_);show PyProof.Rows.not_of (aV (w5 c s1 Y u x v (λk i=>Q (.bl (!k)) i) t o ⟨b,n,m⟩) λk s2 ⟨i,w,l⟩=>⟨.bl (!k),i,w,rfl,l⟩)
  ·cases e
theorem c9{c:Ro->Option Bool}(f:SndT X c a):SndT X (λZ=>(c Z).map (!·)) (.UnaryOp .Not a pos):=by
 intro Z r h g Y H Q i q
 cases e:c Z with
 |none=>simp only[e] at h;cases h
 |some b=>
  simp only[e] at h;cases h;show xy (DN iQ) (f Z b e g Y H _ i λd s=>q d s)
theorem xD{c:Ro->Option KD}{a:QN}(i:SndE X c a)(f:∀b,isTrue a X.env b=(do let v <- b;standAt a.pos;holding [v] (truthy v))):SndT X (λZ=>eI (c Z)) a:=by
 intro Z r h g Y H Q m q;dsimp only[eI] at h;split at h
 ·ext k d e;show xy (w6 aq f) (i Z _ _ e g Y H _ m λv l s j=>⟨r,xC j.rd h,q l s⟩)
 ·cases h
noncomputable def JY(t:Option Bool)(a b:Option KD):Option KD:=match t with|some QJ=>a|some QL=>b|none=>QI
theorem Lg{n:Ro->Option Bool}{m l:Ro->Option KD}(j:SndT X n t)(o:SndE X m a)(p:SndE X l b):SndE X (λZ=>JY (n Z) (m Z) (l Z)) (.IfExp t a b pos):=by
 intro Z k d h g Y H Q c q;dsimp only[JY] at h;split at h
 ·ext e;show am (oC iQ aq aq) (j Z _ e g Y H _ c λi s1=>vK (o Z k d h g Y i Q (c.same s1) λv f s2 r=>q v f (s1.trans s2) (r.older s1)))
 ·ext e;show am (oC iQ aq aq) (j Z _ e g Y H _ c λi s1=>vJ (p Z k d h g Y i Q (c.same s1) λv f s2 r=>q v f (s1.trans s2) (r.older s1)))
 ·cases h
noncomputable def ah:QN->Bool
 |.Starred ..=>QL
 |_=>QJ
theorem aj(h:ah e=QJ):QU (e::es) env=(QL,eval e env)::QU es env:=by
 cases e<;>first|rfl|cases h
theorem br{es:List QN}(h:es.all ah=QJ):(backTo pos (QU es env)).any (·.1)=QL:=by
  let d:∀es:List QN,es.all ah=QJ->∀p∈QU es env,p.1=QL:=by
    intro es
    induction es with
    |nil=>intro _ p a;cases a
    |cons e es f=>
      intro h p a;simp only[Oz,Nr] at h;rw[aj h.1] at a;rcases NB.mp a with rfl|a
      · rfl
      · show f h.2 p a
  let b:=d es h
  cases e:QU es env with
  |nil=>rfl
  |cons p r=>
    rw[e] at b
    let g:∀q∈backTo pos (p::r),q.1=QL:=by
      intro q hq;unfold backTo at hq
      first
        |show b q hq
        | (simp only[NR,NB] at hq
           first
             |(obtain⟨z,c,rfl⟩:=hq;show b z (by simpa using c))
             | (rcases hq with rfl|hq
                · show b p (by simp)
                · first
                    |show b q (by simp[hq])
                    |(obtain⟨z,c,rfl⟩:=hq;show b z (by simp[c]))))
    rw[Qq];intro q hq;rw[g q hq];decide
noncomputable def cy(a:Option KD)(r:Option (List KD)):Option (List KD):=match a,r with|some x,QH xs=>QH (x::xs)|_,_=>QI
theorem jY:kJ X (λ_=>QH []) []:=by
 intro Z a h g Y H Q b q;cases h;show kH dO (q [] H (Same.refl H) .nil)
theorem fG{c:Ro->Option KD}{a:Ro->Option (List KD)}(o:ah e=QJ)(n:SndE X c e)(s:kJ X a es):kJ X (λZ=>cy (c Z) (a Z)) (e::es):=by
 intro Z j h g Y H Q i q;dsimp only[cy] at h;split at h
 ·ext x u e1 e2;cases h;obtain⟨k,d⟩:=x;show kH (bq aq cQ (aj o)) (n Z k d e1 g Y H _ i λv t s1 m=>?_);obtain⟨l,b,f⟩:=m;show s Z u e2 (g.plus l) Y t _ (i.plus s1 b f.dom) λr p s2 w=>q (v::r) p (s1.trans s2) (.cons s1 s2 b f w)
 ·cases h
theorem VRs.two(h:VRs K g H0 H [(k,d),(k',d')] vs):∃v f,vs=[v,f]/\VR K g H0 H k d v/\VR K g H0 H k' d' f:=by
 obtain⟨F,i,y,q,c,t,rfl,n,r,m,z,s,j,u,rfl,a,l,o,rfl,p⟩:=h;let e:∀b,F b↔c b\/j b:=λb=>(n b).trans ⟨λz=>z.imp id λz=>((a b).mp z).elim id λz=>absurd z (p b),λz=>z.imp id λz=>(a b).mpr (.inl z)⟩;show⟨y,z,rfl,⟨c,λb z=>i b ((e b).mpr (.inl z)),m.go (λ_ _ h=>h) λb _ _ z=>(e b).mpr (.inl z)⟩,⟨j,λb z=>i b ((e b).mpr (.inr z)),o.go (λ_ _ h=>h) λb _ _ z=>(e b).mpr (.inr z)⟩⟩
end
mutual
noncomputable def Ow.le:Ow->Ow->Bool
 |.fz,_=>QJ
 |.own es r,.own es' r'=>Ow.les es es'&&Ow.le r r'
 |.own _ _,.fz=>QL
noncomputable def Ow.les:List Ow->List Ow->Bool
 |[],[]=>QJ
 |a::as,b::bs=>Ow.le a b&&Ow.les as bs
 |_,_=>QL
end
theorem Ow.les_hd:∀{es c:List Ow} {r r':Ow},Ow.les es c=QJ->Ow.le r r'=QJ->(es.headD r).le (c.headD r')=QJ/\Ow.les es.tail c.tail=QJ
 |[],[],_,_,_,h=>⟨h,rfl⟩
 |a::as,b::bs,_,_,h,_=>by rw[Ow.les,Nr] at h;show h
 |[],_::_,_,_,h,_=>by simp[Ow.les] at h
 |_::_,[],_,_,h,_=>by simp[Ow.les] at h
section
variable {K:Np} {H:Hp} {S:Pr}
mutual
theorem Tr.ofIm:∀{d:D} {k:Ow} {v:V},qZ d=QJ->Rp K H S d v->Tr K H S d k v (λ_=>False)
 |.non,_,_,_,h=>by unfold Tr;show⟨λ_ z=>z,h⟩
 |.bl _,_,_,_,h=>by unfold Tr;show⟨λ_ z=>z,h⟩
 |.int _,_,_,_,h=>by unfold Tr;show⟨λ_ z=>z,h⟩
 |.str _,_,_,_,h=>by unfold Tr;show⟨λ_ z=>z,h⟩
 |.scr _,_,_,i,_=>by simp[qZ] at i
 |.nd hd ds,.fz,_,_,h=>by unfold Tr;show⟨λ_ z=>z,h⟩
 |.nd hd ds,.own es r,v,i,h=>by
  rw[qZ,Nr] at i;let c:hd.mu=QL:=by simpa using i.1
  unfold Rp at h;unfold Tr;obtain⟨a,o,f,e,n,g,q,t⟩:=h;show⟨a,o,f,λ_=>False,e,g,q,λ_ z=>z,λ_=>n,λb=>⟨λz=>z.elim,λz=>z.elim (λz=>by rw[c] at z;cases z.1) id⟩,TrL.ofIm i.2 t⟩
theorem TrL.ofIm:∀{ds:List D} {es:List Ow} {r:Ow} {vs:List V},AQ ds=QJ->RpL K H S ds vs->TrL K H S ds es r vs (λ_=>False)
 |[],_,_,_,_,h=>by unfold TrL;show⟨h.nil_inv,λ_ z=>z⟩
 |d::ds,es,r,vs,i,h=>by
  rw[AQ,Nr] at i;obtain⟨y,a,rfl,e,c⟩:=h.cons_inv;unfold TrL;show⟨y,a,_,_,rfl,λb=>⟨λz=>z.elim,λz=>z.elim id id⟩,λ_ z=>z.elim,Tr.ofIm i.1 e,TrL.ofIm i.2 c⟩
end
theorem Tr.leaf{S':Pr}(hd:∀h ds,d≠.nd h ds)(h:Tr K H S d c v F)(a:∀b,S' b->H b=QI\/S b):Tr K H S' d k v (λ_=>False):=by
 cases d with
 |nd f ds=>show absurd rfl (hd f ds)
 |_=>
  unfold Tr at h⊢;show⟨λ_ z=>z,h.2.go λb o n e=>⟨e,λz=>(a b z).elim (λq=>by rw[e] at q;cases q) n⟩⟩
mutual
theorem Tr.part:∀{d:D} {k c:Ow} {v:V} {F:Pr},k.le c=QJ->Tr K H S d c v F->∃F2:Pr,(∀b,F2 b->F b)/\∀S':Pr,(∀b,S' b->H b=QI\/(S b/\(F b->F2 b)))->Tr K H S' d k v F2
 |.non,_,_,_,_,_,t=>⟨_,λ_ z=>z.elim,λS' i=>t.leaf (λ_ _ e=>nomatch e) λb z=>(i b z).imp id And.left⟩
 |.bl _,_,_,_,_,_,t=>⟨_,λ_ z=>z.elim,λS' i=>t.leaf (λ_ _ e=>nomatch e) λb z=>(i b z).imp id And.left⟩
 |.int _,_,_,_,_,_,t=>⟨_,λ_ z=>z.elim,λS' i=>t.leaf (λ_ _ e=>nomatch e) λb z=>(i b z).imp id And.left⟩
 |.str _,_,_,_,_,_,t=>⟨_,λ_ z=>z.elim,λS' i=>t.leaf (λ_ _ e=>nomatch e) λb z=>(i b z).imp id And.left⟩
 |.scr _,_,_,_,_,_,t=>⟨_,λ_ z=>z.elim,λS' i=>t.leaf (λ_ _ e=>nomatch e) λb z=>(i b z).imp id And.left⟩
 |.nd hd ds,.fz,c,v,F,_,t=>by
  show⟨λ_=>False,λ_ z=>z.elim,λS' i=>.fz ?_⟩;let r:Rp K H (λb=>S' b/\H b≠QI) (.nd hd ds) v:=t.rp λb z=>(i b z.1).elim (λq=>absurd q z.2) λq=>⟨q.1,q.2⟩;show r.go λb o n e=>⟨e,λz=>n ⟨z,by rw[e];show λh=>by cases h⟩⟩
 |.nd hd ds,.own es r,.fz,_,_,l,_=>by simp[Ow.le] at l
 |.nd hd ds,.own es r,.own es' r',v,F,l,t=>by
  rw[Ow.le,Nr] at l;unfold Tr at t;obtain⟨a,o,A,B,e,g,q,s,x,p,u⟩:=t;obtain⟨G,m,y⟩:=TrL.part l.1 l.2 u;show⟨λb=>(hd.mu=QJ/\b=a)\/G b,λb z=>(p b).mpr (z.imp id (m b)),λS' i=>?_⟩;unfold Tr;show⟨a,o,A,G,e,g,q,λj z=>s j (m a z),λj z=>(i a z).elim (λq=>by rw[g] at q;cases q) λq=>x j q.1,λb=>Iff.rfl,y S' λb z=>(i b z).imp id λq=>⟨q.1,λf=>?_⟩⟩;show(q.2 ((p b).mpr (.inr f))).elim (λw=>absurd f (by rw[w.2];show s w.1)) id
theorem TrL.part:∀{ds:List D} {es a:List Ow} {r r':Ow} {vs:List V} {F:Pr},Ow.les es a=QJ->r.le r'=QJ->TrL K H S ds a r' vs F->∃F2:Pr,(∀b,F2 b->F b)/\∀S':Pr,(∀b,S' b->H b=QI\/(S b/\(F b->F2 b)))->TrL K H S' ds es r vs F2
 |[],_,_,_,_,_,_,_,_,t=>⟨λ_=>False,λ_ z=>z.elim,λS' _=>by unfold TrL at t⊢;show⟨t.1,λ_ z=>z⟩⟩
 |d::ds,es,a,r,r',vs,F,l1,l2,t=>by
  unfold TrL at t;obtain⟨y,m,v,F2,e,g,c,o,p⟩:=t;let k:=Ow.les_hd (r:=r) (r':=r') l1 l2;obtain⟨l,h,s⟩:=Tr.part k.1 o;obtain⟨i,b1,b2⟩:=TrL.part k.2 l2 p;show⟨λb=>l b\/i b,λb z=>(g b).mpr (z.imp (h b) (b1 b)),λS' j=>?_⟩;unfold TrL;show⟨y,m,l,i,e,λb=>Iff.rfl,λb u n=>c b (h b u) (b1 b n),s S' λb z=>(j b z).imp id λq=>⟨q.1,λf=>?_⟩,b2 S' λb z=>(j b z).imp id λq=>⟨q.1,λf=>?_⟩⟩
  ·show(q.2 ((g b).mpr (.inl f))).elim id λw=>absurd (b1 b w) (c b f)
  ·show(q.2 ((g b).mpr (.inr f))).elim (λw=>absurd f (c b (h b w))) id
end
end
def bK(k:Ow)(p:KD):Bool:=match k with
 |.fz=>q0 p.1 p.2
 |k=>(match p.1 with|.fr c=>k.le c|_=>QL)||qZ p.2
def o5:List Ow->Ow->List KD->Bool
 |_,_,[]=>QJ
 |es,r,p::ps=>bK (es.headD r) p&&o5 es.tail r ps
section
variable {K:Np} {H H' H0:Hp} {g:Gh} {Ft F:Pr}
theorem VR1.fit{p:KD}(h:bK k p=QJ)(m:MuOk H (Sx g Ft))(hd:∀b,F b->g b=QI)(u:∀b,F b->Ft b)(r:VR1 K H g Ft p.1 p.2 v F):∃F2:Pr,(∀b,F2 b->F b)/\∀S':Pr,(∀b,S' b->H b=QI\/g b≠QI\/F2 b\/(Ft b/\¬F b))->Tr K H S' p.2 k v F2:=by
 obtain⟨s,d⟩:=p
 cases k with
 |fz=>
  show⟨λ_=>False,λb z=>z.elim,λS' a=>.fz ?_⟩
  let j:Rp K H (λb=>S' b/\H b≠QI) d v:=by
   cases s with
   |sh=>
    show r.2.weak λb z=>?_;rcases a b z.1 with q|q|q|q
    ·show absurd q z.2
    ·show .inl q
    ·show q.elim
    ·show .inr q.1
   |fr c=>
    show Tr.rp (λb z=>?_) r;rcases a b z.1 with q|q|q|q
    ·show absurd q z.2
    ·show⟨.inl q,λt=>q (hd b t)⟩
    ·show q.elim
    ·show⟨.inr q.1,q.2⟩
   |bo i c=>
    show r.rd.im (λb z=>?_) h;rcases a b z.1 with q|q|q|q
    ·show absurd q z.2
    ·show m b (.inl q)
    ·show q.elim
    ·show m b (.inr q.1)
  show j.go λb o n e=>⟨e,λz=>n ⟨z,by rw[e];show λh=>by cases h⟩⟩
 |own x y=>
  rcases Op _ _▸(show(_||_)=QJ from h) with h|h
  ·cases s with
   |sh=>cases h
   |bo i c=>cases h
   |fr c=>
    obtain⟨F2,l,w⟩:=Tr.part h r;show⟨F2,l,λS' a=>w S' λb z=>?_⟩;rcases a b z with q|q|q|q
    ·show .inl q
    ·show .inr ⟨.inl q,λf=>absurd (hd b f) q⟩
    ·show .inr ⟨.inr (u b (l b q)),λ_=>q⟩
    ·show .inr ⟨.inr q.1,λf=>absurd f q.2⟩
  ·show⟨λ_=>False,λb z=>z.elim,λS' a=>.ofIm h ?_⟩
   let j:Rp K H (λb=>S' b/\H b≠QI) d v:=by
    show r.rd.im (λb z=>?_) h;rcases a b z.1 with q|q|q|q
    ·show absurd q z.2
    ·show m b (.inl q)
    ·show q.elim
    ·show m b (.inr q.1)
   show j.go λb o n e=>⟨e,λz=>n ⟨z,by rw[e];show λh=>by cases h⟩⟩
theorem VRL.fit:∀{kds:List KD} {es:List Ow} {r:Ow} {vs:List V} {F:Pr},o5 es r kds=QJ->MuOk H (Sx g Ft)->(∀b,F b->g b=QI)->(∀b,F b->Ft b)->VRL K H g Ft kds vs F->
  ∃e:Pr,(∀b,e b->F b)/\∀c:Pr,(∀b,c b->H b=QI\/g b≠QI\/e b\/(Ft b/\¬F b))->TrL K H c (kds.map (·.2)) es r vs e
 |[],es,r,vs,F,_,_,_,_,h=>⟨λ_=>False,λb z=>z.elim,λc i=>by unfold Ph TrL;show⟨h.1,λb z=>z⟩⟩
 |p::ps,es,r,vs,F,hf,m,hd,hs,h=>by
  obtain⟨y,j,v,e,rfl,a,f,t,n⟩:=h;unfold o5 at hf;rw[Nr] at hf;obtain⟨l,d,s⟩:=VR1.fit hf.1 m (λb z=>hd b ((a b).mpr (.inl z))) (λb z=>hs b ((a b).mpr (.inl z))) t;obtain⟨k,b1,b2⟩:=VRL.fit hf.2 m (λb z=>hd b ((a b).mpr (.inr z))) (λb z=>hs b ((a b).mpr (.inr z))) n;show⟨λb=>l b\/k b,λb z=>(a b).mpr (z.imp (d b) (b1 b)),λc i=>?_⟩;change TrL K H c (p.2::ps.map (·.2)) es r (y::j) _;unfold TrL;show⟨y,j,l,k,rfl,λb=>Iff.rfl,λb u o=>f b (d b u) (b1 b o),s c λb z=>?_,b2 c λb z=>?_⟩
  ·rcases i b z with q|q|(q|q)|q
   ·show .inl q
   ·show .inr (.inl q)
   ·show .inr (.inr (.inl q))
   ·show .inr (.inr (.inr ⟨hs b ((a b).mpr (.inr (b1 b q))),λz=>f b z (b1 b q)⟩))
   ·show .inr (.inr (.inr ⟨q.1,λz=>q.2 ((a b).mpr (.inl z))⟩))
  ·rcases i b z with q|q|(q|q)|q
   ·show .inl q
   ·show .inr (.inl q)
   ·show .inr (.inr (.inr ⟨hs b ((a b).mpr (.inl (d b q))),λz=>f b (d b q) z⟩))
   ·show .inr (.inr (.inl q))
   ·show .inr (.inr (.inr ⟨q.1,λz=>q.2 ((a b).mpr (.inr z))⟩))
theorem VRs.node{kds:List KD}{hd:Hd}(x:o5 es r kds=QJ)(m:MuOk H0 (Sg g))(s:Same H0 H)(h:VRs K g H0 H kds vs)(a:H p=QI)(w:cP K o hd vs)(k:hd.mu=QJ) :
  VR K g H0 (upd H p o) (.fr (.own es r)) (.nd hd (kds.map (·.2))) (.ref p):=by
 obtain⟨F,l,d⟩:=h
 let f:∀b,F b->g b=QI:=λb z=>by
  cases e:g b with
  |none=>rfl
  |some i=>
   obtain⟨o,q,_⟩:=m b (by rw[Sg,e];show λh=>by cases h);rw[l b z] at q;cases q
 let v:MuOk H (Sx g F):=λb z=>z.elim (λz=>m.same s b z) (λz=>d.dom b z);obtain⟨c,j,y⟩:=d.fit x v f λb z=>z
 let u:¬c p:=λz=>by
  obtain⟨o,q,_⟩:=d.dom p (j p z);rw[a] at q;cases q
 show⟨λb=>b=p\/c b,λb z=>z.elim (λz=>z▸s.free a) λz=>l b (j b z),?_⟩;change Tr _ _ _ _ _ _ _;unfold Tr;show⟨p,o,vs,c,rfl,ak,w,λ_=>u,λh=>by (rw[k] at h;cases h),λb=>⟨λz=>z.imp (λz=>⟨k,z⟩) id,λz=>z.imp (λz=>z.2) id⟩,?_⟩;show(y (λb=>g b≠QI\/c b) λb z=>.inr (z.imp id λz=>.inl z)).go (λb t _ e=>ag a b t e) λb t e n z=>?_;rcases z with z|z|z
 ·show n (.inl z)
 ·subst z;rw[a] at e;cases e
 ·show n (.inr z)
theorem VRs.tupO{kds:List KD}(v:o5 es r kds=QJ)(m:MuOk H0 (Sg g))(s:Same H0 H)(h:VRs K g H0 H kds vs)(d:H p=QI) :
  VR K g H0 (upd H p (.tup vs)) (.fr (.own es r)) (.tup (kds.map (·.2))) (.ref p):=by
 obtain⟨F,k,c⟩:=h
 let f:∀b,F b->g b=QI:=λb z=>by
  cases e:g b with
  |none=>rfl
  |some i=>
   obtain⟨o,q,_⟩:=m b (by rw[Sg,e];show λh=>by cases h);rw[k b z] at q;cases q
 let u:MuOk H (Sx g F):=λb z=>z.elim (λz=>m.same s b z) (λz=>c.dom b z);obtain⟨a,j,w⟩:=c.fit v u f λb z=>z
 let t:¬a p:=λz=>by
  obtain⟨o,q,_⟩:=c.dom p (j p z);rw[d] at q;cases q
 show⟨a,λb z=>k b (j b z),?_⟩;change Tr _ _ _ _ _ _ _;unfold Tr
 show⟨p,_,vs,a,rfl,ak,rfl,(λh=>nomatch h),λ_ z=>?_,λb=>⟨λz=>.inr z,λz=>z.elim (λz=>nomatch z.1) id⟩,?_⟩
 ·rcases z with z|z
  ·obtain⟨o,q,_⟩:=m.same s p z;rw[d] at q;cases q
  ·show t z
 ·show(w (λb=>g b≠QI\/a b) λb z=>.inr (z.imp id λz=>.inl z)).go (λb l _ e=>ag d b l e) λb l e n z=>n z
end
def rc(k:Ow)(a:Option (List KD)):Option KD:=match a with
 |some kds=>(match k with|.own es r=>if o5 es r kds=QJ/\kds.length<=100000 then QH (.fr (.own es r),.lst (kds.map (·.2))) else QI|.fz=>QI)
 |none=>QI
def iZ(k:Ow)(a:Option (List KD)):Option KD:=match a with
 |some kds=>(match k with
  |.own es r=>if o5 es r kds=QJ/\kds.length<=100000 then QH (.fr (.own es r),.tup (kds.map (·.2))) else QI
  |.fz=>if(kds.all λp=>q0 p.1 p.2)=QJ/\kds.length<=100000 then QH (.sh,.tup (kds.map (·.2))) else QI)
 |none=>QI
section
variable {X:Cx} {U:Tab} {c:Cz}
theorem VRs.len{kds:List KD}{vs:List V}(h:VRs K g H0 H kds vs):vs.length=kds.length:=by
 have:=h.rd.len;rw[Nt] at this;show this
theorem HX{f:Ro->Option (List KD)}(l:kJ X f es):SndE X (λZ=>rc k (f Z)) (.List es pos):=by
 intro Z m d h g Y H Q j q;dsimp only[rc] at h;split at h
 ·ext a e;split at h
  ·split at h
   ·ext c;cases h;show am (Ea cQ) (l Z a e g Y H _ j λn o s1 i=>⟨by rw[i.len];show aP c.2,λp b=>?_⟩);show q _ _ (s1.trans (ag b)) (i.node c.1 j.mu s1 b rfl rfl)
   ·cases h
  ·cases h
 ·cases h
theorem HY{f:Ro->Option (List KD)}(l:kJ X f es):SndE X (λZ=>iZ k (f Z)) (.Tuple es n pos):=by
 intro Z r d h g Y H Q i q;dsimp only[iZ] at h;split at h
 ·ext j e;split at h
  ·split at h
   ·ext b;cases h;show am (m4 cQ) (l Z j e g Y H _ i λm o s1 c=>⟨by rw[c.len];show aP b.2,λp a=>?_⟩);show q _ _ (s1.trans (ag a)) (c.tupO b.1 i.mu s1 a)
   ·cases h
  ·split at h
   ·ext b;cases h;show am (m4 cQ) (l Z j e g Y H _ i λm o s1 c=>⟨by rw[c.len];show aP b.2,λp a=>?_⟩);show q _ _ (s1.trans (ag a)) ((AS (i.mu.same s1) a (c.sh b.1 i.mu s1)).older s1)
   ·cases h
 ·cases h
noncomputable def cR:QN->Bool
 |.Slice ..=>QL
 |_=>QJ
theorem bW(h:cR b=QJ):tj b:=by
 intro o i
 cases b<;>first|rfl|cases h
def Ev(z:Str)(i:Int):Option Str:=(L2.qy z.cps.toList i).map λc=>⟨#[c]⟩
def JZ(k:Kd)(xs:List D)(i:Int):Option KD:=match jN xs.length i with|some j=>(xs[j]?).map λd=>(mn k j,d)|none=>QI
def Lh(k:Kd)(x:D)(i:Int):Option KD:=match x with
 |.nd hd xs=>(match hd with|.lst=>JZ k xs i|.tup=>JZ k xs i|_=>QI)
 |.scr ns=>(L2.qy ns i).map λd=>(.sh,.int d)
 |.str z=>if z.length<=100000 then(Ev z i).map λd=>(.sh,.str d) else QI
 |_=>QI
noncomputable def Ew(x:D):Option (Nat×List DK×List D):=match x with
 |.nd hd xs=>(match hd with|.dic t ks=>QH (t,ks,xs)|_=>QI)
 |_=>QI
def rf(k:Kd)(p:Nat×List DK×List D)(y:D):Option KD:=match iT y with
 |some q=>if gY p.1 q=QJ then(match aR p.2.1 q with|some j=>(p.2.2[j]?).map λd=>(mn k j,d)|none=>QI) else QI
 |none=>QI
def Ex(x y:KD):Option KD:=match Ew x.2 with
 |some p=>rf x.1 p y.2
 |none=>(match y.2 with|.int i=>Lh x.1 x.2 i|_=>QI)
def xE(a b:Option KD):Option KD:=match a with
 |some x=>(match b with|some y=>Ex x y|none=>QI)
 |none=>QI
def A0(f:Str)(a:Option KD):Option KD:=match a with
 |some (ka,.nd (.obj _ ns) xs)=>(match aZ f ns with|some j=>(xs[j]?).map λd=>(mn ka j,d)|none=>QI)
 |_=>QI
theorem rg{v:V}:∀{ns:List Str} {us:List V} {j:Nat},aZ f ns=QH j->us[j]?=QH v->(ns.zip us).lookup f=QH v
 |[],_,_,h,_=>by cases h
 |_::_,[],_,_,e=>by simp at e
 |n::ns,u::us,j,h,e=>by
  unfold aZ at h;rw[OU,NX];split at h
  ·ext a;cases h;rw[a,beq_self_eq_true];simpa using e
  ·ext a;obtain⟨c,b,rfl⟩:=P6.mp h;rw[beq_eq_false_iff_ne.mpr a];show rg b (by simpa using e)
theorem HZ{i:Ro->Option KD}(z:attributeBase a f X.env (eval a X.env)=eval a X.env)(l:SndE X i a):SndE X (λZ=>A0 f (i Z)) (.Attribute a f pos):=by
 intro Z K d h g Y H Q D q;dsimp only[A0] at h;split at h
 ·ext I c ns A k;split at h
  ·ext j b
   cases e:A[j]? with
   |none=>rw[e] at h;cases h
   |some L=>
    rw[e] at h;cases h;show am (xb aq z) (l Z _ _ k g Y H _ D λx u s y=>?_);obtain⟨p,o,E,rfl,t,r,F,B⟩:=y.ch;obtain⟨C,n,_,⟨w,m⟩,rfl,_⟩:=r;obtain⟨v,e1,e2⟩:=B j _ e;show⟨p,C,n,_,v,rfl,t,w,m f (NO (aU b)),rg b e1,q v u s e2⟩
  ·cases h
 ·cases h
theorem A1{α β:Type}(f:α->β)(xs:List α)(i:Int):L2.qy (xs.map f) i=(L2.qy xs i).map f:=by
 unfold L2.qy;rw[Nt]
 cases jN xs.length i with
 |none=>rfl
 |some j=>simp
theorem xF{α β:Type}{o:Option α}{g:α->β}{b:β}(h:o.map g=QH b):∃a,o=QH a/\b=g a:=by
 cases o with
 |none=>cases h
 |some a=>cases h;show⟨a,rfl,rfl⟩
theorem xG{xs:List D}{i:Int}{r:KD}(h:JZ k xs i=QH r):∃j,jN xs.length i=QH j/\xs[j]?=QH r.2/\r.1=mn k j:=by
 unfold JZ at h
 cases e:jN xs.length i with
 |none=>rw[e] at h;cases h
 |some j=>
  rw[e] at h;obtain⟨d,e1,e2⟩:=xF h;show⟨j,rfl,by rw[e1,e2],by rw[e2]⟩
theorem A2{p:Nat×List DK×List D}{r:KD}(h:rf k p y=QH r):∃q j,iT y=QH q/\gY p.1 q=QJ/\aR p.2.1 q=QH j/\p.2.2[j]?=QH r.2/\r.1=mn k j:=by
 unfold rf at h
 cases e:iT y with
 |none=>rw[e] at h;cases h
 |some q=>
  rw[e] at h;by_cases a:gY p.1 q=QJ
  ·dsimp only at h;rw[if_pos a] at h
   cases e1:aR p.2.1 q with
   |none=>rw[e1] at h;cases h
   |some j=>
    rw[e1] at h;obtain⟨d,e2,e3⟩:=xF h;show⟨q,j,rfl,a,e1,by rw[e2,e3],by rw[e3]⟩
  ·dsimp only at h;rw[if_neg a] at h;cases h
theorem A3{p:Nat×List DK×List D}(h:Ew x=QH p):x=.nd (.dic p.1 p.2.1) p.2.2:=by
 cases x with
 |nd a c=>cases a with
  |dic t b=>cases h;rfl
  |_=>cases h
 |_=>cases h
theorem tK{x y r:KD}(h:Ex x y=QH r):(∃i,y.2=.int i/\Lh x.1 x.2 i=QH r)\/∃p,x.2=.nd (.dic p.1 p.2.1) p.2.2/\rf x.1 p y.2=QH r:=by
 unfold Ex at h
 cases e:Ew x.2 with
 |some p=>rw[e] at h;show .inr ⟨p,A3 e,h⟩
 |none=>
  rw[e] at h;obtain⟨b,a⟩:=y
  cases a with
  |int i=>show .inl ⟨i,rfl,h⟩
  |_=>cases h
theorem tL{Q:VK}(h:Lh k dx i=QH (kd,d))(b:VR K g H0 H2 k dx vx)(q:∀v,VR K g H0 H2 kd d v->Q v H2):MF K vx (.int i) H2 Q:=by
 cases dx with
 |nd t w=>cases t with
  |lst=>
   obtain⟨j,n,e,rfl⟩:=xG h;obtain⟨p,o,c,rfl,a,f,l,s⟩:=b.ch;cases(show o=_ from f);obtain⟨v,e1,e2⟩:=s j _ e;show .inl ⟨p,c,i,v,rfl,rfl,.of a,by unfold L2.qy;rw[l,n];show e1,q v e2⟩
  |tup=>
   obtain⟨j,n,e,rfl⟩:=xG h;obtain⟨p,o,c,rfl,a,f,l,s⟩:=b.ch;cases(show o=_ from f);obtain⟨v,e1,e2⟩:=s j _ e;show .inr (.inl ⟨p,c,i,v,rfl,rfl,.of a,by unfold L2.qy;rw[l,n];show e1,q v e2⟩)
  |_=>cases h
 |scr ns=>
  obtain⟨r,e,u⟩:=xF (show(L2.qy ns i).map _=QH (kd,d) from h);cases u;obtain⟨p,rfl,a⟩:=b.rd.scr;show .inl ⟨p,_,i,.int r,rfl,rfl,a,by rw[A1,e];rfl,q _ oY⟩
 |str z=>
  by_cases m:z.length<=100000
  ·let h:(Ev z i).map _=QH (kd,d):=(if_pos m).symm.trans h;unfold Ev at h
   cases e:L2.qy z.cps.toList i with
   |none=>rw[e] at h;cases h
   |some r=>
    rw[e] at h;cases h;obtain rfl:=b.rd.str;show .inr (.inr ⟨z,i,r,rfl,rfl,aP m,e,q _ HK⟩)
  ·cases(if_neg m).symm.trans h
 |_=>cases h
theorem o6{p:Nat×List DK×List D}{Q:VK}(h:rf k p dy=QH (kd,d))(r:VR K g H0 H2 k (.nd (.dic p.1 p.2.1) p.2.2) vx)(m:VR K g H0 H2 ky dy vy)(q:∀v,VR K g H0 H2 kd d v->Q v H2):∃b v,vx=.ref b/\DGet H2 b vy (QH v)/\Q v H2:=by
 obtain⟨w,j,n,c,i,l,rfl⟩:=A2 h;obtain⟨b,o,t,rfl,f,e,u,s⟩:=r.ch;obtain⟨v,e1,e2⟩:=s j _ l;let a:=jX f e n m.rd c;rw[i,Ob,e1] at a;show⟨b,v,rfl,a,q v e2⟩
theorem Li(O:ao X U c){t n:Ro->Option KD}(w:SndE X t a)(z:SndE X n b)(u:cR b=QJ):SndE X (λZ=>xE (t Z) (n Z)) (.Subscript a b pos):=by
 intro Z K d h g Y H Q A q;dsimp only[xE] at h
 cases f:t Z with
 |none=>rw[f] at h;cases h
 |some x=>cases j:n Z with
  |none=>rw[f,j] at h;cases h
  |some y=>
   rw[f,j] at h;obtain⟨I,E⟩:=x;obtain⟨F,B⟩:=y;rcases tK h with⟨i,e,k⟩|⟨p,e,k⟩
   ·cases(show B=_ from e);show am (tq m7 aq aq (bW u)) (two w z f j A λD C m s o l=>?_);obtain rfl:=l.rd.int;show tL k o λv r=>q v m s r
   ·cases(show E=_ from e);show am (nc (by have:=O.tab.units;lia) aq aq (bW u)) (two w z f j A λD C m s o l=>o6 k o l λv r=>q v m s r)
def jP(xs:List D)(lo hi:Option Int):List D:=(xs.drop (HT.bY xs.length 0 lo)).take (HT.bY xs.length xs.length hi-HT.bY xs.length 0 lo)
theorem RpL.cut(h:RpL K H S ds vs)(lo hi:Option Int):RpL K H S (jP ds lo hi) (oM vs lo hi):=by
 unfold jP oM;rw[h.len];show(h.drop _).take _
def wO(X:Cx)(e:Option QN):TO:=λY H Q=>∃t,PO X e t/\t Y H Q
theorem rh:PO X e (wO X e):=λa s Y H Q I h=>let ⟨t,p,q⟩:=h;p a s Y H Q I q
def vU(X:Cx)(f:Ro->Option (Option Int))(e:Option QN):Prop:=∀Z o,f Z=QH o->∀g Y H Q,SE X.K g Z Y H->(∀H',Same H H'->Q o H')->wO X e Y H Q
noncomputable def A4(a:Option KD):Option (Option Int):=match a with|some (_,.int i)=>QH (QH i)|_=>QI
theorem Ey:vU X (λ_=>QH QI) QI:=λZ o h g Y H Q a q=>by cases h;show⟨_,AD,q H (Same.refl H)⟩
theorem Ez{f:Ro->Option KD}(d:SndE X f e):vU X (λZ=>A4 (f Z)) (QH e):=λZ o h g Y H Q a q=>by
 dsimp only[A4] at h;split at h
 ·ext k i c;cases h;show⟨_,AE aq,d Z _ _ c g Y H _ a λv b s r=>⟨i,r.rd.int,q b s⟩⟩
 ·cases h
def GH(a:Option KD)(lo hi:Option (Option Int)):Option KD:=match a,lo,hi with
 |some (ka,.nd .lst xs),QH l,QH u=>if dY ka xs=QJ then QH (.fr bS,.lst (jP xs l u)) else QI
 |some (_,.scr ns),QH l,QH u=>QH (.fr bS,.lst (jP (ns.map .int) l u))
 |some (ka,.nd .tup xs),QH l,QH u=>if dY ka xs=QJ then QH (.sh,.tup (jP xs l u)) else QI
 |_,_,_=>QI
theorem Lj{L:Ro->Option KD}{K I:Ro->Option (Option Int)}(B:SndE X L a)(C:vU X K lo)(E:vU X I hi):SndE X (λZ=>GH (L Z) (K Z) (I Z)) (.Subscript a (.Slice lo hi QI p2) pos):=by
 intro Z N d h g Y H Q c q;dsimp only[GH] at h;split at h
 ·ext F i l u k t w;split at h
  ·ext hk;cases h;show am (kn tu aq rh rh) (B Z _ _ k g Y H _ c λx s s1 y=>C Z _ t g Y s _ (c.same s1) λm s2=>E Z _ w g Y m _ ((c.same s1).same s2) λA s3=>?_);obtain⟨p,o,j,rfl,f,D,r⟩:=((y.same s2).same s3).items hk c.mu ((s1.trans s2).trans s3);cases(show o=_ from D);show⟨p,j,rfl,.of f,λM b=>q _ _ (((s1.trans s2).trans s3).trans (ag b)) ((lH b (r.cut l u)).older ((s1.trans s2).trans s3))⟩
  ·cases h
 ·ext F ns l u k t w;cases h;show am (kn tu aq rh rh) (B Z _ _ k g Y H _ c λx s s1 y=>C Z _ t g Y s _ (c.same s1) λm s2=>E Z _ w g Y m _ ((c.same s1).same s2) λA s3=>?_);obtain⟨p,rfl,f⟩:=((y.same s2).same s3).rd.scr;show⟨p,_,rfl,f,λM b=>q _ _ (((s1.trans s2).trans s3).trans (ag b)) ((lH b ((RpL.ints ns).cut l u)).older ((s1.trans s2).trans s3))⟩
 ·ext F i l u k t w;split at h
  ·ext hk;cases h;show am (kn (sl_tup.or AI) aq rh rh) (B Z _ _ k g Y H _ c λx s s1 y=>C Z _ t g Y s _ (c.same s1) λm s2=>E Z _ w g Y m _ ((c.same s1).same s2) λA s3=>?_);obtain⟨p,o,j,rfl,f,D,r⟩:=((y.same s2).same s3).items hk c.mu ((s1.trans s2).trans s3);cases(show o=_ from D);by_cases v:HT.bY i.length 0 l=0/\HT.bY i.length i.length u=i.length
   ·show .inr ⟨p,j,rfl,.of f,by rw[r.len];show v.1,by rw[r.len];show v.2,q _ A ((s1.trans s2).trans s3) (GE ?_)⟩;let e:jP i l u=i:=by unfold jP;rw[v.1,v.2,P9,Qj,Oh]
    rw[e];unfold Rp;show⟨p,_,j,rfl,λz=>?_,f,rfl,r⟩;obtain⟨o,e,n⟩:=(c.mu.same ((s1.trans s2).trans s3)) p z;rw[f] at e;cases e;show n _ rfl
   ·show .inl ⟨p,j,rfl,.of f,by rw[r.len];show v,λM b=>q _ _ (((s1.trans s2).trans s3).trans (ag b)) ((AS (c.mu.same ((s1.trans s2).trans s3)) b (r.cut l u)).older ((s1.trans s2).trans s3))⟩
  ·cases h
 ·cases h
theorem RpL.pick{ds:List D}{us:List V}(r:RpL K H S ds us):∀a:List Nat,RpL K H S (a.filterMap λi=>ds[i]?) (a.filterMap λi=>us[i]?)
 |[]=>.nil
 |i::a=>by
  let b:=RpL.pick r a;by_cases h:i<ds.length
  ·obtain⟨u,e1,e2⟩:=r.getD (NC h);rw[N2,N2,NC h,e1];show .cons e2 b
  ·rw[N2,N2,N6 (by lia),N6 (by rw[r.len];lia)];show b
def H9(x:KD)(l:Option Int)(d:D):Option KD:=match x.2 with
 |.nd hd xs=>(match hd with
  |.lst=>(match d with|.int k=>if dY x.1 xs=QJ/\1<=k then QH (.fr bS,.lst (G.ck xs l (QH k))) else QI|_=>QI)
  |_=>QI)
 |_=>QI
def xH(a:Option KD)(lo:Option (Option Int))(b:Option KD):Option KD:=match a with
 |some x=>(match lo with|some l=>(match b with|some y=>H9 x l y.2|none=>QI)|none=>QI)
 |none=>QI
theorem Ia{n fs:Ro->Option KD}{m:Ro->Option (Option Int)}{a st:QN}{lo:Option QN}{p2 pos:Pos}(E:SndE X n a)(I:vU X m lo)(R:SndE X fs st):SndE X (λZ=>xH (n Z) (m Z) (fs Z)) (.Subscript a (.Slice lo QI (QH st) p2) pos):=by
 intro Z t d h g Y H Q i q;dsimp only at h
 cases b:n Z with
 |none=>rw[b] at h;cases h
 |some x=>cases f:m Z with
  |none=>rw[b,f] at h;cases h
  |some l=>cases j:fs Z with
   |none=>rw[b,f,j] at h;cases h
   |some y=>
    rw[b,f,j] at h;let h:H9 x l y.2=QH (t,d):=h;obtain⟨B,M⟩:=x;obtain⟨U,z⟩:=y
    cases M with
    |nd C r=>cases C with
     |lst=>cases z with
      |int k=>
       obtain⟨hk,e⟩:=wF (show(if dY B r=QJ/\1<=k then QH (Kd.fr bS,D.lst (G.ck r l (QH k))) else QI)=QH (t,d) from h)
       cases e;show am (G.En aq rh aq) (E Z _ _ b g Y H _ i λv L s1 T=>I Z _ f g Y L _ (i.same s1) λF s2=>R Z _ _ j g Y F _ ((i.same s1).same s2) λw A s3 S=>?_);let s13:=(s1.trans s2).trans s3;obtain⟨p,o,s,rfl,P,N,u⟩:=((T.same s2).same s3).items hk.1 i.mu s13;cases(show o=_ from N);obtain rfl:=S.rd.int
       let O:RpL X.K A (Sg g) (G.ck r l (QH k)) (G.ck s l (QH k)):=by
        unfold G.ck;rw[u.len];show u.pick _
       show⟨p,s,k,rfl,rfl,by lia,.of P,λV c=>q _ _ (s13.trans (ag c)) ((lH c O).older s13)⟩
      |_=>cases h
     |_=>cases h
    |_=>cases h
end
end J
namespace G
open PyProof.Rows
def Ri(xs:Array Nat):Prop:=xs.toList.Pairwise (· < ·)
structure Gd(led:Bool)(t:SetTable):Prop where
 ri:Ri t.place
 nod:t.dummies=#[]
 led:t.led=led
def ns(es:List (Int×QK)):List Int:=es.map λe=>numOf e.2
def addI(q:List Int)(k:Int):List Int:=if k∈q then q else q++[k]
end G
namespace J
section
variable {X:Cx}
theorem lJ(F:X.calm=QJ):gO X (.builtin "all") (λxs H Q=>∃(p:QO) (bs:List Bool),xs=[.ref p]/\SqL X.K H p (bs.map V.bl)/\Q (.bl (bs.all id)) H):=by
 intro y s Y H xs N Q I r h;obtain⟨p,bs,rfl,hq,q⟩:=h;obtain⟨u,rfl,M⟩:=kj r;cases M;obtain⟨a,k,j,O⟩:=I.list hq;let d:=k.length;let E:X.A.in1.handled=QI:=I.ok.hd F
 let l:p≠s.heap.objs.size:=by
  obtain⟨o,n,e,_⟩:=j;show NL (NA e)
 show call_all_walk (Rf j.isList ?_)
 let B:(s.heap.push { cls:=.type "list_iterator",data:=.fields #[.ref p,.int 0 0] }).IsList p a.toArray:=by
  obtain⟨o,e,r⟩:=j.isList;show⟨o,Nw _ e,r⟩
 show⟨s.heap.objs.size,_,_,_,_,_,λi=>(bs[i]?).getD QL,rfl,Walks.list E s.heap.objs.size p l a.toArray,⟨⟨_,NI _ rfl,rfl,rfl⟩,B⟩,λi v T R U C t=>?_,λP S hk=>?_⟩
 ·let c:a[i]?=QH v:=by simpa using C
  cases m:bs[i]? with
  |none=>
   let g:(bs.map V.bl)[i]?=QI:=by rw[Nu,m];rfl
   rw[k.none_of g] at c;cases c
  |some b=>
   let g:(bs.map V.bl)[i]?=QH (.bl b):=by rw[Nu,m];rfl
   obtain⟨u,e1,e2⟩:=k.get g;rw[c] at e1;cases e1;cases e2;simp only[m,Option.getD_some] at t;show Q8 t
 ·let e:((NP a.toArray.size).all λi=>(bs[i]?).getD QL)=bs.all id:=by
   let D:a.toArray.size=bs.length:=by rw[Nz,<- d,Nt]
   rw[D,O6];simp only[N5,Od,id];constructor
   ·intro h x L;obtain⟨i,f,rfl⟩:=Qe.mp L;have:=h i f;rw[NC f] at this;show this
   ·intro h i f;rw[NC f];show h _ (PU f)
  rw[e];show⟨.bl (bs.all id),H,I.kept λb o w=>hk b o (λz=>?_) (Nw _ w),rfl,q⟩;have:b=s.heap.objs.size:=by simpa using z
  show absurd (this▸NA w) (Ot _)
theorem o8:gO X (.builtin "isinstance") (λxs H Q=>∃x T t b,xs=[x,.ty T]/\qO X.K H x t/\OR X.K t (.type T)=QH b/\Q (.bl b) H):=by
 intro a s Y H xs g Q I r h;obtain⟨x,T,t,b,rfl,c,e,q⟩:=h;obtain⟨u,i,rfl,d,f⟩:=Hl r;cases f;show vC I d c e λj=>⟨.bl b,H,I.tok _,rfl,q⟩
theorem vV:gO X (.type "int") (λxs H Q=>∃b:Bool,xs=[.bl b]/\Q (.int (if b then 1 else 0)) H):=by
 intro a s Y H xs d Q I r h;obtain⟨b,rfl,q⟩:=h;obtain⟨u,rfl,c⟩:=kj r;cases c;show call_int_bool ⟨.int _,H,I.tok _,⟨_,rfl⟩,q⟩
end
noncomputable def A5:D->Option Nat
 |.nd .lst ds=>QH ds.length
 |.nd .tup ds=>QH ds.length
 |.scr ns=>QH ns.length
 |_=>QI
noncomputable def cU:List D->Option (List Bool)
 |[]=>QH []
 |.bl b::r=>(cU r).map (b::·)
 |_=>QI
theorem kK:∀{ds:List D} {bs:List Bool},cU ds=QH bs->ds=bs.map D.bl
 |[],bs,h=>by cases h;rfl
 |d::r,bs,h=>by
  cases d<;>simp only[cU] at h<;>try cases h
  ext b
  cases e:cU r with
  |none=>rw[e] at h;cases h
  |some a=>rw[e] at h;cases h;rw[kK e];rfl
theorem jE:∀ns:List Bool,cU (ns.map D.bl)=QH ns
 |[]=>rfl
 |n::ns=>by simp[cU,jE ns]
theorem RpL.bools:∀{bs:List Bool} {vs:List V},RpL K H S (bs.map D.bl) vs->vs=bs.map V.bl
 |[],_,h=>h.nil_inv
 |b::bs,_,h=>by
  obtain⟨y,a,rfl,r,t⟩:=h.cons_inv;rw[r.bl,RpL.bools t];rfl
def xI(kds:List KD):Option KD:=match kds with|[(_,d)]=>(A5 d).map λn=>(.sh,.int n)|_=>QI
def EA(kds:List KD):Option KD:=match kds with|[(_,.nd .lst ds)]=>(cU ds).map λbs=>(.sh,.bl (bs.all id))|_=>QI
def xJ(kds:List KD):Option KD:=match kds with
 |[(k,.nd .lst ds)]=>if dY k ds=QJ then QH (.fr bS,.lst ds) else QI
 |[(k,.nd .tup ds)]=>if dY k ds=QJ then QH (.fr bS,.lst ds) else QI
 |[(_,.scr ns)]=>QH (.fr bS,.lst (ns.map D.int))
 |_=>QI
noncomputable def EB:Kd->Kd
 |.fr (.own es (.own es' r))=>.fr (.own es (.own es' r))
 |_=>.sh
def rj(kds:List KD):Option KD:=match kds with
 |[(k,.nd .lst ds)]=>if dY k ds=QJ then QH (EB k,.tup ds) else QI
 |_=>QI
def Nc(kds:List KD):Option KD:=match kds with|[(_,.int i)]=>if i.natAbs.log2<1920 then QH (.sh,.str (toString i)) else QI|_=>QI
noncomputable def EC(kds:List KD):Option KD:=match kds with|[(_,.int i)]=>QH (.sh,.int (if i<0 then -i else i))|_=>QI
noncomputable def ED(kds:List KD):Option KD:=match kds with|[(_,.bl b)]=>QH (.sh,.int (if b then 1 else 0))|_=>QI
theorem Ib{H:Hp}{hd:Hd}(c:hd.mu=QJ)(d:cP K o hd xs)(a:H p=QI)(r:RpL K H (Sg g) ds xs):VR K g H (upd H p o) (.fr bS) (.nd hd ds) (.ref p):=by
 show⟨λb=>b=p,λb z=>z▸a,?_⟩;change Tr K _ _ _ _ _ _;unfold Tr;show⟨p,_,xs,λ_=>False,rfl,ak,d,λ_ z=>z,(λh=>by rw[c] at h;cases h),λb=>⟨λz=>.inl ⟨c,z⟩,λz=>z.elim (λz=>z.2) λz=>z.elim⟩,.ofFz (r.go λb o n e=>⟨ag a b o e,λz=>z.elim n λz=>?_⟩)⟩;subst z;rw[a] at e;cases e
def eJ(x:Str):List KD->Option KD:=
 if x="len" then xI else if x="all" then EA else if x="any" then(λ_=>QI) else if x="list" then xJ else if x="tuple" then rj else if x="str" then(λ_=>QI) else if x="sum" then(λ_=>QI)
 else if x="min" then(λ_=>QI) else if x="max" then(λ_=>QI) else if x="abs" then EC else if x="int" then ED else if x="dict" then(λ_=>QI) else if x="repr" then(λ_=>QI) else λ_=>QI
def rm(x:Str)(a:Option (List KD)):Option KD:=match a with|some kds=>eJ x kds|none=>QI
def MG(X:Cx)(kds:List KD)(q:Kd)(d:D)(Q:VK)(vs:List V)(H1:Hp):Prop:=∃g H0,MuOk H0 (Sg g)/\Same H0 H1/\VRs X.K g H0 H1 kds vs/\∀v H',Same H1 H'->VR X.K g H0 H' q d v->Q v H'
def StrictOk(X:Cx)(f:List KD->Option KD)(es:List QN)(q:QN):Prop:=∀kds B d,f kds=QH (B,d)->∀Y H Q,wA X es Y H (MG X kds B d Q)->wE X q Y H Q
theorem cc{H:Hp}{Q d:List V->Hp->Prop}(h:wA X es Y H Q)(k:∀vs H,Q vs H->d vs H):wA X es Y H d:=λb a s I=>aV (h b a s I) λf g ⟨vs,c,e,r,q⟩=>⟨vs,c,e,r,k vs c q⟩
theorem jZ{H:Hp}{Q c:VK}(h:wE X e Y H Q)(k:∀v H,Q v H->c v H):wE X e Y H c:=λa s I=>aV (h a s I) λu f ⟨v,b,d,r,q⟩=>⟨v,b,d,r,k v b q⟩
theorem StrictOk.snd{c:Ro->Option (List KD)}(h:StrictOk X f es node)(k:kJ X c es):SndE X (λZ=>(c Z).bind f) node:=by
 intro Z m d a g Y H Q i q;dsimp only at a
 cases e:c Z with
 |none=>rw[e] at a;cases a
 |some b=>
  rw[e] at a;show h b m d a Y H Q (k Z b e g Y H _ i λn o s1 j=>⟨g,H,i.mu,s1,j,λv l s r=>q v l (s1.trans s) r⟩)
def eY(X:Cx)(x:Str)(f:List KD->Option KD):Prop:=∀(e:QN) (es:List QN) (p pos:Pos),Gl X x->ah e=QJ->es.all ah=QJ->StrictOk X f (e::es) (.Call (.Name x p) (e::es) [] pos)
section
variable {X:Cx} {U:Tab} {c:Cz}
theorem Ic(O:ao X U c):eY X "len" xI:=by
 intro e K p C w B x z I d h Y H Q y;unfold xI at h;split at h
 ·ext F k
  cases b:A5 k with
  |none=>rw[b] at h;cases h
  |some n=>
   rw[b] at h;cases h;show am (gP (m9) w (O.tab.bl _ (by simp[aE])) PySem.boot_len cQ (by decide) (by decide) (aj B) (br x)) (cc y λM f ⟨g,L,m,s1,A,q⟩=>?_);obtain⟨v,rfl,r⟩:=A.one;let t:=r.rd
   cases k with
   |scr ns=>
    obtain⟨a,rfl,i⟩:=t.scr;cases b;show⟨a,_,rfl,.inl i,q _ f (Same.refl f) (by rw[Nt];show oY)⟩
   |nd u D=>
    obtain⟨a,o,j,rfl,_,i,s,l⟩:=t.nd
    cases u with
    |lst=>cases b;cases(show o=_ from s);show⟨a,j,rfl,.inl (.of i),q _ f (Same.refl f) (by rw[l.len];show oY)⟩
    |tup=>cases b;cases(show o=_ from s);show⟨a,j,rfl,.inr (.of i),q _ f (Same.refl f) (by rw[l.len];show oY)⟩
    |dic E N=>cases b
    |obj c ns=>cases b
   |_=>cases b
 ·cases h
theorem Ie(O:ao X U c):eY X "all" EA:=by
 intro e D p z k y l t C d h Y H Q n;unfold EA at h;split at h
 ·ext B j
  cases b:cU j with
  |none=>rw[b] at h;cases h
  |some s=>
   rw[b] at h;cases h;show am (gP (lJ O.calm) k (O.tab.bl _ (by simp[aE])) PyProof.Rows.boot_all cQ (by decide) (by decide) (aj y) (br l)) (cc n λF f ⟨g,E,m,s1,x,q⟩=>?_);obtain⟨v,rfl,r⟩:=x.one;obtain⟨a,o,A,rfl,_,w,u,i⟩:=r.rd.nd;cases(show o=_ from u);rw[kK b] at i;show⟨a,s,rfl,.of (by rw[w,i.bools]),q _ f (Same.refl f) Cv⟩
 ·cases h
theorem EE(O:ao X U c):eY X "list" xJ:=by
 intro e F p D k w n C E d h Y H Q s;unfold xJ at h;split at h
 ·ext x B;split at h
  ·ext hk;cases h;show am (dU eD k (O.tab.bl _ (by simp[aE])) PyProof.Rows.boot_list cQ (by decide) (by decide) (aj w) (br n)) (cc s λA y ⟨g,z,m,s1,i,q⟩=>?_);obtain⟨v,rfl,r⟩:=i.one;obtain⟨a,o,j,rfl,f,u,t⟩:=r.items hk m s1;cases(show o=_ from u);show⟨a,j,rfl,.inl (.of f),λl b=>q _ _ (ag b) ((lH b t).older s1)⟩
  ·cases h
 ·ext x B;split at h
  ·ext hk;cases h;show am (dU eD k (O.tab.bl _ (by simp[aE])) PyProof.Rows.boot_list cQ (by decide) (by decide) (aj w) (br n)) (cc s λA y ⟨g,z,m,s1,i,q⟩=>?_);obtain⟨v,rfl,r⟩:=i.one;obtain⟨a,o,j,rfl,f,u,t⟩:=r.items hk m s1;cases(show o=_ from u);show⟨a,j,rfl,.inr (.of f),λl b=>q _ _ (ag b) ((lH b t).older s1)⟩
  ·cases h
 ·ext x ns;cases h;show am (dU eD k (O.tab.bl _ (by simp[aE])) PyProof.Rows.boot_list cQ (by decide) (by decide) (aj w) (br n)) (cc s λA y ⟨g,z,m,s1,i,q⟩=>?_);obtain⟨v,rfl,r⟩:=i.one;obtain⟨a,rfl,f⟩:=r.rd.scr;show⟨a,_,rfl,.inl f,λl b=>q _ _ (ag b) ((lH b (RpL.ints ns)).older s1)⟩
 ·cases h
theorem xK{H0 H1:Hp}(m:MuOk H0 (Sg g))(s1:Same H0 H1)(h:VR K g H0 H1 (.fr (.own es r)) (.nd .lst ds) v) :
  ∃a i,v=.ref a/\H1 a=QH (.lst i)/\∀l,H1 l=QI->VR K g H0 (upd H1 l (.tup i)) (.fr (.own es r)) (.tup ds) (.ref l):=by
 obtain⟨F,s,c⟩:=h;let c:Tr K H1 (Sx g F) (.nd .lst ds) (.own es r) v F:=c;unfold Tr at c;obtain⟨a,o,f,j,rfl,q,p,u,w,k,t⟩:=c;cases(show o=_ from p);show⟨a,f,rfl,q,λl d=>⟨j,λb z=>s b ((k b).mpr (.inr z)),?_⟩⟩;change Tr K _ _ (.nd .tup ds) (.own es r) _ _;unfold Tr
 show⟨l,.tup f,f,j,rfl,ak,rfl,(λh=>nomatch h),λ_ z=>?_,λb=>⟨.inr,λz=>z.elim (λz=>nomatch z.1) id⟩,t.go (λb o _ e=>ag d b o e) λb o _ n z=>n (z.imp id λz=>(k b).mpr (.inr z))⟩
 rcases z with z|z
 ·obtain⟨o,e,_⟩:=m.same s1 l z;rw[d] at e;cases e
 ·obtain⟨o,e,_⟩:=t.dom l z;rw[d] at e;cases e
theorem A6(O:ao X U c):eY X "tuple" rj:=by
 intro e E p y j x k s C d h Y H Q n;unfold rj at h;split at h
 ·ext B A;split at h
  ·ext hk;cases h;show am (dU lG j (O.tab.bl _ (by simp[aE])) PyProof.Rows.boot_tuple cQ (by decide) (by decide) (aj x) (br k)) (cc n λI D ⟨g,F,m,s1,w,q⟩=>?_);obtain⟨v,rfl,r⟩:=w.one;unfold EB at q;split at q
   ·obtain⟨a,f,rfl,i,z⟩:=xK m s1 r;show⟨a,f,rfl,.inl ⟨.of i,λl b=>q _ _ (ag b) (z l b)⟩⟩
   obtain⟨a,o,f,rfl,i,u,t⟩:=r.items hk m s1;cases(show o=_ from u);show⟨a,f,rfl,.inl ⟨.of i,λl b=>q _ _ (ag b) ((AS (m.same s1) b t).older s1)⟩⟩
  ·cases h
 ·cases h
theorem xL{e:QN}{env:Env}{cp:Pos}(h:ah e=QJ):((backTo cp (QU [e] env)).all (λx=>!x.1)&&(backToKw cp (keywordEach [] env)).all (λx=>x.1.isSome)
      && decide ([e].length+([]:List Keyword).length+(if([]:List Keyword).isEmpty then 0 else 1)<30))=QJ:=by
  rw[aj h];rfl
noncomputable def d9:QN->Bool
 |.Name x _=>!(x==("super":Str))
 |.Subscript ..=>QJ
 |.Attribute ..=>QJ
 |_=>QL
theorem dD{b:QN}{m:Str}{env:Env}{w:Sem QK}(h:d9 b=QJ):attributeBase b m env w=w:=by
 cases b with
 |Name x p=>
  unfold attributeBase;let h:(x==("super":Str))=QL:=by simpa[d9] using h
  simp[h]
 |Subscript a b p=>rfl
 |Attribute a b p=>rfl
 |_=>cases h
inductive Lk (X:Cx) (Z:Ro):List (Option Expr)->List Expr->List aN->List KD->Prop
 |nil:Lk X Z [] [] [] []
 |cons {k v:QN} {kD:D} {x:aN} {kv:Kd} {d:D} {f:Ro->Option KD} {ks:List (Option QN)} {vs:List QN} {xs:List aN} {kds:List KD}:SndE X (λ_=>QH (.sh,kD)) k->eX kD=QH x->SndE X f v->f Z=QH (kv,d)->q0 kv d=QJ->Lk X Z ks vs xs kds->Lk X Z (QH k::ks) (v::vs) (x::xs) ((kv,d)::kds)
theorem Ig(O:ao X U c):eY X "abs" EC:=by
 intro e s p n j f k o w d h Y H Q l;unfold EC at h;split at h
 ·ext u i;cases h;show am (gP w8 j (O.tab.bl _ (by simp[aE])) PyProof.Rows.boot_abs cQ (by decide) (by decide) (aj f) (br k)) (cc l λx a ⟨g,t,m,s1,b,q⟩=>?_);obtain⟨v,rfl,r⟩:=b.one;obtain rfl:=r.rd.int;show⟨i,rfl,q _ a (Same.refl a) oY⟩
 ·cases h
theorem Ih(O:ao X U c):eY X "int" ED:=by
 intro e s p n j i k o w d h Y H Q l;unfold ED at h;split at h
 ·ext u b;cases h;show am (dU vV j (O.tab.bl _ (by simp[aE])) PyProof.Rows.boot_int cQ (by decide) (by decide) (aj i) (br k)) (cc l λx a ⟨g,t,m,s1,f,q⟩=>?_);obtain⟨v,rfl,r⟩:=f.one;obtain rfl:=r.rd.bl;show⟨b,rfl,q _ a (Same.refl a) oY⟩
 ·cases h
theorem ed:eY X x (λ_=>QI):=λe c p a i g j b f d h=>by cases h
theorem i0{x y:Str}(h1:x=y->eY X x f)(h2:eY X x g):eY X x (if x=y then f else g):=by
 by_cases h:x=y
 ·rw[if_pos h];show h1 h
 ·rw[if_neg h];show h2
theorem o9(O:ao X U c)(x:Str):eY X x (eJ x):=by
 unfold eJ;show i0 (λh=>?_) ?_
 ·first|show ed|(subst h;show Ic O)
 show i0 (λh=>?_) ?_
 ·first|show ed|(subst h;show Ie O)
 show i0 (λh=>?_) ?_
 ·first|show ed|(subst h;show b_any O)
 show i0 (λh=>?_) ?_
 ·first|show ed|(subst h;show EE O)
 show i0 (λh=>?_) ?_
 ·first|show ed|(subst h;show A6 O)
 show i0 (λh=>?_) ?_
 ·first|show ed|(subst h;show b_str O)
 show i0 (λh=>?_) ?_
 ·first|show ed|(subst h;show b_sum O)
 show i0 (λh=>?_) ?_
 ·first|show ed|(subst h;show b_min O)
 show i0 (λh=>?_) ?_
 ·first|show ed|(subst h;show b_max O)
 show i0 (λh=>?_) ?_
 ·first|show ed|(subst h;show Ig O)
 show i0 (λh=>?_) ?_
 ·first|show ed|(subst h;show Ih O)
 show i0 (λh=>?_) ?_
 ·first|show ed|(subst h;show b_dict O)
 show i0 (λh=>?_) ?_
 ·first|show ed|(subst h;show b_repr O)
 ·intro e f p a j i k b g d h;cases h
theorem Ii(O:ao X U c){es:List QN}{a:Ro->Option (List KD)}(g:kJ X a (e::es))(d:iW c.sc x=QJ)(b:ah e=QJ)(f:es.all ah=QJ):SndE X (λZ=>rm x (a Z)) (.Call (.Name x p) (e::es) [] pos):=by
 have:=(o9 O x e es p pos (dC O d) b f).snd g
 rw[show(λZ=>rm x (a Z))=λZ=>(a Z).bind (eJ x) by funext Z;unfold rm;cases a Z<;>rfl]
 show this
end
inductive Src where
 |non|l (a:QO) (ds:List D)|t (a:QO) (ds:List D)|two (s u:Src)|ob (a:QO) (u:HO) (xs:List V) (ds:List D)
def Src.P(K:Np):Src->Gh->Hp->Prop
 |.non,_,_=>True
 |.l a ds,g,H=>∃xs,SqL K H a xs/\RpL K H (Sg g) ds xs
 |.ob a u xs ds,g,H=>H a=QH u/\RpL K H (Sg g) ds xs
 |.t a ds,g,H=>∃xs,SqT K H a xs/\RpL K H (Sg g) ds xs
 |.two s u,g,H=>s.P K g H/\u.P K g H
def Src.isL(b:QO):Src->Prop
 |.non=>False
 |.l a _=>a=b
 |.ob a ..=>a=b
 |.t _ _=>False
 |.two s u=>s.isL b\/u.isL b
def Src.isT(b:QO):Src->Prop
 |.non=>False
 |.l _ _=>False
 |.ob ..=>False
 |.t a _=>a=b
 |.two s u=>s.isT b\/u.isT b
def Src.from(g:Gh)(H:Hp)(bs:List Nat):Src->Prop
 |.non=>True
 |.l a _=>g a=QI\/∃i∈bs,g a=QH (QH i)
 |.ob a ..=>g a=QI\/∃i∈bs,g a=QH (QH i)
 |.t a _=>g a=QI
 |.two s u=>s.from g H bs/\u.from g H bs
theorem Src.from.from_l{g:Gh}{bs:List Nat}{b:QO}:∀{s:Src},s.from g H bs->s.isL b->g b=QI\/∃i∈bs,g b=QH (QH i)
 |.l a _,h,e=>by cases(show a=b from e);show h
 |.ob a ..,h,e=>by cases(show a=b from e);show h
 |.two s u,h,e=>by
  rcases(show s.isL b\/u.isL b from e) with e|e
  ·show Src.from.from_l (show s.from g H bs/\u.from g H bs from h).1 e
  ·show Src.from.from_l (show s.from g H bs/\u.from g H bs from h).2 e
 |.non,_,e=>e.elim
 |.t _ _,_,e=>e.elim
theorem Src.from.from_t{g:Gh}{bs:List Nat}{b:QO}:∀{s:Src},s.from g H bs->s.isT b->g b=QI
 |.t a _,h,e=>by cases(show a=b from e);show h
 |.two s u,h,e=>by
  rcases(show s.isT b\/u.isT b from e) with e|e
  ·show Src.from.from_t (show s.from g H bs/\u.from g H bs from h).1 e
  ·show Src.from.from_t (show s.from g H bs/\u.from g H bs from h).2 e
 |.non,_,e=>e.elim
 |.l _ _,_,e=>e.elim
 |.ob ..,_,e=>e.elim
theorem Src.from.from_H{bs:List Nat}:∀{s:Src},s.from g H bs->s.from g H' bs
 |.t a _,h=>h
 |.l a _,h=>h
 |.ob ..,h=>h
 |.non,_=>trivial
 |.two s u,h=>⟨Src.from.from_H (show s.from g H bs/\u.from g H bs from h).1,Src.from.from_H (show s.from g H bs/\u.from g H bs from h).2⟩
theorem Src.from.from_mono{bs b:List Nat}(k:∀i∈bs,i∈b):∀{s:Src},s.from g H bs->s.from g H b
 |.t a _,h=>h
 |.l a _,h=>Or.imp_right (λ⟨i,d,c⟩=>⟨i,k i d,c⟩) h
 |.ob ..,h=>Or.imp_right (λ⟨i,d,c⟩=>⟨i,k i d,c⟩) h
 |.non,_=>trivial
 |.two s u,h=>⟨Src.from.from_mono k (show s.from g H bs/\u.from g H bs from h).1,Src.from.from_mono k (show s.from g H bs/\u.from g H bs from h).2⟩
section
variable {K:Np} {H H':Hp} {g g':Gh}
theorem xM(k:∀o,H a=QH o->H' a=QH o)(h:SqL K H a xs):SqL K H' a xs:=by
 rcases h with(h|⟨o,h⟩)|h
 ·show .inl (.inl (k _ h))
 ·show .inl (.inr ⟨o,k _ h⟩)
 ·show .inr h
theorem xN(k:∀o,H a=QH o->H' a=QH o)(h:SqT K H a xs):SqT K H' a xs:=by
 rcases h with(h|⟨o,h⟩)|h
 ·show .inl (.inl (k _ h))
 ·show .inl (.inr ⟨o,k _ h⟩)
 ·show .inr h
theorem Src.mono(d:∀b o,H b=QH o->¬Sg g b->¬Sg g' b):∀{s:Src},(∀b o,(¬Sg g b\/s.isL b)->H b=QH o->H' b=QH o)->(∀a,s.isT a->g a=QI)->s.P K g H->s.P K g' H'
 |.non,_,_,_=>trivial
 |.l a ds,k,ht,h=>by
  obtain⟨c,i,f⟩:=h;show⟨c,xM (λo e=>k a o (.inr rfl) e) i,f.go λb o n e=>⟨k b o (.inl n) e,d b o e n⟩⟩
 |.ob a u c ds,k,ht,h=>⟨k a _ (.inr rfl) (show H a=QH u/\RpL K H (Sg g) ds c from h).1,(show H a=QH u/\RpL K H (Sg g) ds c from h).2.go λb o n e=>⟨k b o (.inl n) e,d b o e n⟩⟩
 |.t a ds,k,ht,h=>by
  obtain⟨c,i,f⟩:=h;show⟨c,xN (λo e=>k a o (.inl (by rw[Sg,ht a rfl];simp)) e) i,f.go λb o n e=>⟨k b o (.inl n) e,d b o e n⟩⟩
 |.two s u,k,ht,h=>⟨Src.mono d (λb o z=>k b o (z.imp id .inl)) (λa z=>ht a (.inl z)) (show s.P K g H/\u.P K g H from h).1,Src.mono d (λb o z=>k b o (z.imp id .inr)) (λa z=>ht a (.inr z)) (show s.P K g H/\u.P K g H from h).2⟩
end
def i3(K:Np)(J:It)(s:Src)(ds:List D):Prop:=∀(i:Nat) (g:Gh) (H:Hp),s.P K g H->MuOk H (Sg g)->
 (ds.length<=i->J.stop i H)/\∀d,ds[i]?=QH d->J.go i H/\∀x H',J.yld i H x H'->Same H H'/\Rp K H' (Sg g) d x
section
variable {K:Np}
theorem EF:i3 K (GB K a) (.l a ds) ds:=by
 rintro i g H ⟨b,c,r⟩ m
 show⟨λf=>⟨b,c,by rw[r.len];show f⟩,λd h=>?_⟩;obtain⟨x,e1,e2⟩:=r.getD h;show⟨⟨b,x,c,e1⟩,λy j e=>?_⟩;obtain⟨rfl,e⟩:=e;have:=e b c;rw[e1] at this;cases this;show⟨Same.refl _,e2⟩
theorem Ll:i3 K (KO K a) (.t a ds) ds:=by
 rintro i g H ⟨b,c,r⟩ m
 show⟨λf=>⟨b,c,by rw[r.len];show f⟩,λd h=>?_⟩;obtain⟨x,e1,e2⟩:=r.getD h;show⟨⟨b,x,c,e1⟩,λy j e=>?_⟩;obtain⟨rfl,e⟩:=e;have:=e b c;rw[e1] at this;cases this;show⟨Same.refl _,e2⟩
theorem EG{ds:List D}:i3 K (G.JX K a) (.l a ds) (ds.mapIdx λi d=>D.tup [.int i,d]):=by
 rintro i g H ⟨c,f,r⟩ m
 show⟨λj=>⟨c,f,by rw[r.len];simpa using j⟩,λd b=>?_⟩;rw[List.getElem?_mapIdx] at b
 cases q:ds[i]? with
 |none=>rw[q] at b;cases b
 |some n=>
  rw[q] at b;cases b;obtain⟨x,e1,e2⟩:=r.getD q;show⟨⟨c,x,f,e1⟩,λy k h=>?_⟩;obtain⟨p,v,e,rfl,rfl,h⟩:=h;have:=h c f;rw[e1] at this;cases this;show⟨ag e,?_⟩;unfold Rp;show⟨p,_,_,rfl,λz=>?_,ak,rfl,.cons (by unfold Rp;rfl) (.cons (e2.same (ag e)) .nil)⟩;obtain⟨o,q,_⟩:=m p z;rw[e] at q;cases q
theorem Ij(lo:Int)(n:Nat):i3 K (G9 lo n) .non ((NP n).map λ(k:Nat)=>D.int (lo+(k:Int))):=by
 rintro i g H _ m
 show⟨λh=>(by let c:n<=i:=(by simpa using h);show c),λd a=>?_⟩;rw[Nu] at a
 cases q:(NP n)[i]? with
 |none=>rw[q] at a;cases a
 |some j=>
  rw[q] at a;cases a
  let b:i<n:=by
   have:=(Nq.mp q).1;simpa using this
  let e:j=i:=by
   rw[Oo b] at q;cases q;rfl
  subst e;show⟨b,λx l f=>?_⟩;obtain⟨rfl,rfl⟩:=f;show⟨Same.refl _,by unfold Rp;rfl⟩
end
def SndI(X:Cx)(f:Ro->Option (List Nat×List D))(tg iter:QN):Prop:=∀Z bs ds,f Z=QH (bs,ds)->∀g Y H R,SE X.K g Z Y H->
 (∀J s H1,Same H H1->i3 X.K J s ds->s.P X.K g H1->s.from g H bs->R J H1)->wI X tg iter Y H R
noncomputable def rn:Kd->List Nat
 |.bo i _=>[i]
 |_=>[]
def g7(a:Option KD):Option (List Nat×List D):=match a with
 |some (k,.nd .lst ds)=>if dY k ds=QJ then QH (rn k,ds) else QI
 |some (_,.scr ns)=>QH ([],ns.map D.int)
 |_=>QI
def rq(a:Option KD):Option (List Nat×List D):=match a with
 |some (k,.nd .tup ds)=>if dY k ds=QJ then QH ([],ds) else QI
 |a=>g7 a
def vW(a:Option KD):Option (List Nat×List D):=(g7 a).map λp=>(p.1,p.2.mapIdx λi d=>D.tup [.int i,d])
def vX(xs ys:List D):List D:=List.zipWith (λx y=>D.tup [x,y]) xs ys
def pb(a b:Option KD):Option (List Nat×List D):=match g7 a with
 |some (bs,xs)=>(match g7 b with|some (bs',ys)=>QH (bs++bs',vX xs ys)|none=>QI)
 |none=>QI
noncomputable def fH(i j:Int):Bool:=decide (-(2^62)<=i)&&decide (i<2^62)&&decide (-(2^62)<=j)&&decide (j<2^62)&&decide (j-i<=100000)
noncomputable def dP(i j:Int):List D:=(NP (j-i).toNat).map λ(k:Nat)=>D.int (i+(k:Int))
def rz(a b:Option KD):Option (List Nat×List D):=match a,b with
 |some (_,.int i),QH (_,.int j)=>if fH i j then QH ([],dP i j) else QI
 |_,_=>QI
noncomputable def mq:QN->Bool
 |.Tuple ..=>QJ
 |_=>QL
section
variable {X:Cx} {U:Tab} {c:Cz}
theorem VR.scrK{g:Gh}{ns:List Int}(h:VR K g H H1 k (.scr ns) v):∃a,v=.ref a/\((g a=QI/\Rd H1 a (.lst (ns.map V.int)))\/HE K a (ns.map V.int)):=by
 let c:∀{S:Pr},(∀b,g b≠QI->S b)->Rp K H1 S (.scr ns) v->∃a,v=.ref a/\((g a=QI/\Rd H1 a (.lst (ns.map V.int)))\/HE K a (ns.map V.int)):=λj r=>by
  unfold Rp at r;obtain⟨a,e,r⟩:=r;show⟨a,e,r.imp (λr=>⟨?_,r.2⟩) id⟩
  cases q:g a with
  |none=>rfl
  |some i=>show absurd (j a (by rw[q];simp)) r.1
 obtain⟨F,m,d⟩:=h
 cases k with
 |sh=>show c (λb z=>.inl z) d.2
 |fr k=>have d:Tr _ _ _ _ _ _ _:=d;unfold Tr at d;show c (λb z=>.inl z) d.2
 |bo i k=>obtain⟨_,l,_,f⟩:=d;unfold Tr at f;show c (λb z=>.inl z) f.2
theorem Lm{g:Gh}{hd:Hd}(u:hd.mu=QJ)(m:MuOk H (Sg g))(s1:Same H H1)(h:VR K g H H1 k (.nd hd ds) (.ref a)):g a=QI\/∃i∈rn k,g a=QH (QH i):=by
 let o:∀{S:Pr},(∀b,g b≠QI->S b)->¬S a->g a=QI:=λs n=>by
  cases q:g a with
  |none=>rfl
  |some i=>show absurd (s a (by rw[q];simp)) n
 cases k with
 |sh=>
  left;obtain⟨F,v,p,e⟩:=h;obtain⟨j,l,c,e1,d,_⟩:=e.nd;cases e1;show o (λb z=>.inl z) d
 |fr k=>
  left;obtain⟨j,l,c,e1,d,_⟩:=(h.sh rfl m s1).nd;cases e1;show o (λb z=>z) d
 |bo i k=>
  obtain⟨F,v,p,y,e,f⟩:=h
  cases k with
  |fz=>
   left;obtain⟨j,l,c,e1,d,_⟩:=f.fz_inv.2.nd;cases e1;show o (λb z=>.inl z) d
  |own x r=>
   right;unfold Tr at f;obtain⟨j,l,c,w,e1,_,_,_,_,t,_⟩:=f;cases e1;show⟨i,NF.mpr rfl,e a ((t a).mpr (.inl ⟨u,rfl⟩))⟩
theorem g8{ds:List D}(m:MuOk H (Sg g))(s1:Same H H1)(h:VR K g H H1 k d v)(e:g7 (QH (k,d))=QH (bs,ds)) :
  ∃a s,v=.ref a/\(∃y,SqL K H1 a y)/\i3 K (GB K a) s ds/\i3 K (G.JX K a) s (ds.mapIdx λi d=>D.tup [.int i,d])/\s.P K g H1/\s.from g H bs:=by
 unfold g7 at e;split at e
 ·ext x w j;cases j;split at e
  ·ext hk;cases e;obtain⟨a,o,p,rfl,t,b,u⟩:=h.items hk m s1;cases(show o=_ from b);show⟨a,.l a ds,rfl,⟨p,.of t⟩,EF,EG,⟨p,.of t,u⟩,Lm rfl m s1 h⟩
  ·cases e
 ·ext x ns j;cases j;cases e;obtain⟨a,rfl,q⟩:=h.scrK;rcases q with⟨b,r⟩|q
  ·show⟨a,.l a _,rfl,⟨_,.inl r⟩,EF,EG,⟨_,.inl r,RpL.ints ns⟩,.inl b⟩
  ·show⟨a,.non,rfl,⟨_,.inr q⟩,λi c f _ n=>EF i c f ⟨_,.inr q,RpL.ints ns⟩ n,λi c f _ n=>EG i c f ⟨_,.inr q,RpL.ints ns⟩ n,trivial,trivial⟩
 ·cases e
theorem Ik{r:Ro->Option KD}{tg e:QN}(y:SndE X r e):SndI X (λZ=>rq (r Z)) tg e:=by
 intro Z I w h g Y H R c q;dsimp only at h
 cases f:r Z with
 |none=>rw[f] at h;cases h
 |some E=>
  obtain⟨k,d⟩:=E;rw[f] at h;by_cases A:∃x,d=.str x
  ·obtain⟨x,rfl⟩:=A;cases h
  by_cases z:∃b,d=.tup b
  ·obtain⟨b,rfl⟩:=z;simp only[rq] at h;split at h
   ·ext hk;cases h;show kI (DX aq) (y Z k _ f g Y H _ c λv l s1 p=>?_);obtain⟨a,o,j,rfl,m,M,K⟩:=p.items hk c.mu s1;cases(show o=_ from M);show⟨a,rfl,⟨j,.of m⟩,q _ (.t a w) l s1 Ll ⟨j,.of m,K⟩ ?_⟩
    cases u:g a with
    |none=>show u
    |some i=>
     obtain⟨o,e1,n⟩:=c.mu.same s1 a (by rw[Sg,u];simp);rw[m] at e1;cases e1;show absurd rfl (n j)
   ·cases h
  ·let D:g7 (QH (k,d))=QH (I,w):=by
    cases d with
    |nd C b=>cases C with
     |tup=>show absurd ⟨b,rfl⟩ z
     |_=>show h
    |str x=>show absurd ⟨x,rfl⟩ A
    |_=>show h
   show kI (Ar aq) (y Z k d f g Y H _ c λv l s1 p=>?_);obtain⟨a,s,rfl,F,L,_,N,B⟩:=g8 c.mu s1 p D;show⟨a,rfl,F,q _ s l s1 L N B⟩
theorem Il(O:ao X U c){i:Ro->Option KD}{tg e:QN}(n:iW c.sc "enumerate" = QJ)(j:ah e=QJ)(C:mq tg=QJ)(o:SndE X i e):SndI X (λZ=>vW (i Z)) tg (.Call (.Name "enumerate" p) [e] [] pos):=by
 intro Z F E h g Y H R l q;dsimp only at h
 cases b:i Z with
 |none=>rw[b] at h;cases h
 |some t=>
  obtain⟨k,d⟩:=t;rw[b] at h;unfold vW at h
  cases f:g7 (QH (k,d)) with
  |none=>rw[f] at h;cases h
  |some r=>
   obtain⟨x,z⟩:=r;rw[f] at h;cases h
   cases tg with
   |Tuple I D K=>
    show kI (G.AM (dC O n) (O.tab.bl _ (by simp[aE])) (bq aq dO (aj j)) (aj j)) (o Z _ _ b g Y H _ l λv w s1 B=>?_);obtain⟨a,s,rfl,u,_,y,A,m⟩:=g8 l.mu s1 B f;show⟨a,rfl,u,q _ s w s1 y A m⟩
   |_=>show absurd C (by simp[mq])
theorem EH(O:ao X U c){d:Ro->Option KD}{tg e:QN}(l:iW c.sc "range" = QJ)(b:ah e=QJ)(m:SndE X d e):SndI X (λZ=>rz (QH (.sh,.int 0)) (d Z)) tg (.Call (.Name "range" p) [e] [] pos):=by
 intro Z t r h g Y H R o q;dsimp only[rz] at h;split at h
 ·ext u i s j e1 f;cases e1;split at h
  ·ext a;simp only[fH,Nr,decide_eq_true_eq] at a;cases h;show kI (vp (dC O l) (O.tab.bl _ (by simp[aE])) (bq aq dO (aj b)) (aj b)) (m Z _ _ f g Y H _ o λv n s1 k=>?_);obtain rfl:=k.rd.int;show⟨j,rfl,a.1.1.2,a.1.2,q _ .non n s1 ?_ trivial trivial⟩;unfold dP;rw[Int.sub_zero];show Ij 0 _
  ·cases h
 ·cases h
theorem EI(O:ao X U c){k f:Ro->Option KD}(m:iW c.sc "range" = QJ)(d:ah e=QJ)(a:ah e2=QJ)(n:SndE X k e)(u:SndE X f e2):SndI X (λZ=>rz (k Z) (f Z)) tg (.Call (.Name "range" p) [e,e2] [] pos):=by
 intro Z A w h g Y H R v q;dsimp only[rz] at h;split at h
 ·ext B i z j l r;split at h
  ·ext b;simp only[fH,Nr,decide_eq_true_eq] at b;cases h;show kI (vq (dC O m) (O.tab.bl _ (by simp[aE])) (bq aq (bq aq dO (aj a)) (aj d)) (by rw[aj d,aj a];rfl) (aj a)) ?_;show two n u l r v λx y t s1 s o=>?_;obtain rfl:=s.rd.int;obtain rfl:=o.rd.int;show⟨i,j,rfl,⟨b.1.1.1.1,b.1.1.1.2,b.1.1.2,b.1.2⟩,q _ .non t s1 (Ij i _) trivial trivial⟩
  ·cases h
 ·cases h
theorem EJ(h1:i3 K (GB K a) s xs)(h2:i3 K (GB K b) u ys):i3 K (G.K8 K a b) (.two s u) (vX xs ys):=by
 intro i g H j m;let j:s.P K g H/\u.P K g H:=j;obtain⟨s1,A⟩:=h1 i g H j.1 m;obtain⟨s2,t⟩:=h2 i g H j.2 m
 let N:∃c,SqL K H a c/\(xs.length<=i->c.length<=i):=by
  by_cases e:xs.length<=i
  ·obtain⟨c,e1,e2⟩:=s1 e;show⟨c,e1,λ_=>e2⟩
  ·obtain⟨⟨c,x,e1,_⟩,_⟩:=A _ (NC (Qx e));show⟨c,e1,λz=>absurd z e⟩
 let C:∃c,SqL K H b c/\(ys.length<=i->c.length<=i):=by
  by_cases e:ys.length<=i
  ·obtain⟨c,e1,e2⟩:=s2 e;show⟨c,e1,λ_=>e2⟩
  ·obtain⟨⟨c,x,e1,_⟩,_⟩:=t _ (NC (Qx e));show⟨c,e1,λz=>absurd z e⟩
 obtain⟨c,Q,L⟩:=N;obtain⟨U,b1,b2⟩:=C;show⟨λe=>⟨c,U,Q,b1,?_⟩,λd f=>?_⟩
 ·unfold vX at e;rw[List.length_zipWith] at e;by_cases T:xs.length<=i
  ·show .inl (L T)
  ·show .inr (b2 (by lia))
 ·unfold vX at f;rw[List.getElem?_zipWith] at f
  cases k:xs[i]? with
  |none=>rw[k] at f;simp at f
  |some x=>
   cases l:ys[i]? with
   |none=>rw[k,l] at f;simp at f
   |some y=>
    rw[k,l] at f;simp only[Option.some.injEq] at f;subst f;obtain⟨⟨n,I,e1,e2⟩,B⟩:=A x k;obtain⟨⟨r,R,e3,e4⟩,D⟩:=t y l;show⟨⟨n,r,I,R,e1,e3,e2,e4⟩,λz V F=>?_⟩;obtain⟨p,v,w,h,rfl,rfl,E,S⟩:=F;let O:=(B v H ⟨rfl,E⟩).2;let M:=(D w H ⟨rfl,S⟩).2;show⟨ag h,?_⟩;unfold Rp;show⟨p,_,_,rfl,λz=>?_,ak,rfl,.cons (O.same (ag h)) (.cons (M.same (ag h)) .nil)⟩;obtain⟨o,q,_⟩:=m p z;rw[h] at q;cases q
theorem Im(O:ao X U c){n m:Ro->Option KD}(B:iW c.sc "zip" = QJ)(t:ah e=QJ)(f:ah e2=QJ)(Q:mq tg=QJ)(C:SndE X n e)(M:SndE X m e2):SndI X (λZ=>pb (n Z) (m Z)) tg (.Call (.Name "zip" p) [e,e2] [] pos):=by
 intro Z bs ds h g Y H R o q;dsimp only[pb] at h
 cases j:n Z with
 |none=>rw[j] at h;cases h
 |some E=>
  obtain⟨k,d⟩:=E
  cases r:m Z with
  |none=>
   rw[j,r] at h;split at h
   ·cases h
   ·cases h
  |some l=>
   obtain⟨k2,d2⟩:=l;rw[j,r] at h;split at h
   ·ext D xs F;split at h
    ·ext K ys N;cases h
     cases tg with
     |Tuple es kk tp=>
      show kI (G.Em (dC O B) (O.tab.bl _ (by simp[aE])) (bq aq (bq aq dO (aj f)) (aj t)) (by rw[aj t,aj f];rfl) (aj f)) ?_;show two C M j r o λx y I s1 W S=>?_;obtain⟨a,s,rfl,w,V,_,L,v⟩:=g8 o.mu s1 W F;obtain⟨b,u,rfl,A,T,_,P,f2⟩:=g8 o.mu s1 S N;show⟨a,b,rfl,w,A,q _ (.two s u) I s1 (EJ V T) ⟨L,P⟩ ⟨v.from_mono λi z=>NG _ z,f2.from_mono λi z=>Nx _ z⟩⟩
     |_=>show absurd Q (by simp[mq])
    ·cases h
   ·cases h
noncomputable def Io:D->Option String
 |.bl _=>QH "bool"
 |.int _=>QH "int"
 |.nd .lst _=>QH "list"
 |.nd .tup _=>QH "tuple"
 |_=>QI
def nE(T:Str)(d:D):Option Bool:=match Io d with
 |some t=>if T="int" then QH (t=="int" || t=="bool") else if T="bool" then QH (t=="bool") else if T="list" then QH (t=="list") else if T="tuple" then QH (t=="tuple") else QI
 |none=>QI
theorem Ip{t:String}(h:Rp K H S d v)(e:Io d=QH t):qO K H v (.type t):=by
 cases d with
 |bl b=>obtain rfl:=h.bl;cases e;show .bl b
 |int b=>obtain rfl:=h.int;cases e;show .int b
 |nd c i=>
  cases c with
  |lst=>
   obtain⟨a,o,f,rfl,_,g,q,r⟩:=h.nd;cases e;cases(show o=_ from q);show .lst g
  |tup=>
   obtain⟨a,o,f,rfl,_,g,q,r⟩:=h.nd;cases e;cases(show o=_ from q);show .tup g
  |_=>cases e
 |_=>cases e
noncomputable def ee:List Str:=["int","bool","list","tuple"]
noncomputable def rA:List String:=["bool","int","list","tuple"]
theorem A7{p:String->Prop}(b:p "bool")(c:p "int")(e:p "list")(f:p "tuple"):∀t∈rA,p t:=by
 intro t a;simp only[rA,NB,NQ,or_false] at a
 rcases a with rfl|rfl|rfl|rfl<;>assumption
theorem A8{t:String}(a:Io d=QH t):t∈rA:=by
 cases d with
 |nd b c=>cases b with
  |lst=>cases a;show .tail _ (.tail _ (.head _))
  |tup=>cases a;show .tail _ (.tail _ (.tail _ (.head _)))
  |_=>cases a
 |bl _=>cases a;show .head _
 |int _=>cases a;show .tail _ (.head _)
 |_=>cases a
theorem EK:∀t∈rA,OR K (.type t) (.type "int")=QH (t=="int" || t=="bool"):=A7 (by with_unfolding_all rfl) (by with_unfolding_all rfl) (by with_unfolding_all rfl) (by with_unfolding_all rfl)
theorem A9:∀t∈rA,OR K (.type t) (.type "bool")=QH (t=="bool"):=A7 (by with_unfolding_all rfl) (by with_unfolding_all rfl) (by with_unfolding_all rfl) (by with_unfolding_all rfl)
theorem Ba:∀t∈rA,OR K (.type t) (.type "list")=QH (t=="list"):=A7 (by with_unfolding_all rfl) (by with_unfolding_all rfl) (by with_unfolding_all rfl) (by with_unfolding_all rfl)
theorem xO:∀t∈rA,OR K (.type t) (.type "tuple")=QH (t=="tuple"):=A7 (by with_unfolding_all rfl) (by with_unfolding_all rfl) (by with_unfolding_all rfl) (by with_unfolding_all rfl)
theorem Bb(h:nE T d=QH b):∃t f,Io d=QH t/\T∈ee/\bootBuiltins T=QH (.type f)/\OR K (.type t) (.type f)=QH b:=by
 unfold nE at h
 cases c:Io d with
 |none=>rw[c] at h;cases h
 |some t=>
  rw[c] at h;let a:=A8 c;dsimp only at h;by_cases e:T="int"
  ·subst e;rw[if_pos rfl] at h;show⟨t,"int",rfl,by simp[ee],by rfl,(EK t a).trans h⟩
  by_cases e1:T="bool"
  ·subst e1;rw[if_neg (by decide),if_pos rfl] at h;show⟨t,"bool",rfl,by simp[ee],by rfl,(A9 t a).trans h⟩
  by_cases e2:T="list"
  ·subst e2;rw[if_neg (by decide),if_neg (by decide),if_pos rfl] at h;show⟨t,"list",rfl,by simp[ee],by rfl,(Ba t a).trans h⟩
  by_cases e3:T="tuple"
  ·subst e3;rw[if_neg (by decide),if_neg (by decide),if_neg (by decide),if_pos rfl] at h;show⟨t,"tuple",rfl,by simp[ee],by rfl,(xO t a).trans h⟩
  rw[if_neg e,if_neg e1,if_neg e2,if_neg e3] at h;cases h
def vY(T:Str)(a:Option KD):Option KD:=match a with|some (_,d)=>bV (nE T d)|none=>QI
theorem Iq(O:ao X U c){m:Ro->Option KD}(u:iW c.sc "isinstance" = QJ)(e:iW c.sc T=QJ)(k:ah a=QJ)(w:SndE X m a):SndE X (λZ=>vY T (m Z)) (.Call (.Name "isinstance" p) [a,.Name T p2] [] pos):=by
 intro Z C d h g Y H Q A q;dsimp only[vY] at h;split at h
 ·ext B z n
  cases i:nE T z with
  |none=>rw[i] at h;cases h
  |some b=>
   rw[i] at h;cases h;obtain⟨t,l,x,j,o,s⟩:=Bb (K:=X.K) i
   let f:T∈aE/\T≠"__name__"/\(T==("__debug__":Str))=QL:=by
    simp only[ee,NB,NQ,or_false] at j
    rcases j with rfl|rfl|rfl|rfl|rfl|rfl<;>show⟨by simp[aE],by decide,by decide⟩
   show am (gP o8 (dC O u) (O.tab.bl _ (by simp[aE])) PyProof.Rows.boot_isinstance (bq aq (bq (Aj (v:=.ty l) (dC O e) (O.tab.bl _ f.1) o rfl f.2.1 f.2.2) dO (aj rfl)) (aj k)) (by decide) (by decide) (aj k) (br rfl)) ?_;show w Z _ _ n g Y H _ A λv y s1 r=>⟨v,l,_,b,rfl,Ip r.rd x,s,q _ y s1 Cv⟩
 ·cases h
end
mutual
def i4:D->Ow->Bool
 |.nd _ ds,.own es r=>gx ds es r
 |d,_=>qZ d
def gx:List D->List Ow->Ow->Bool
 |[],_,_=>QJ
 |d::ds,es,r=>i4 d (es.headD r)&&gx ds es.tail r
end
section
variable {K:Np} {H H' H0:Hp} {S S':Pr} {g:Gh}
mutual
theorem Tr.clean(m:MuOk H S'):∀{d:D} {k:Ow} {v:V} {F:Pr},i4 d k=QJ->Tr K H S d k v F->Tr K H S' d k v F
 |.non,_,_,_,c,h=>by unfold Tr at h⊢;show⟨h.1,h.2.im m rfl⟩
 |.bl _,_,_,_,c,h=>by unfold Tr at h⊢;show⟨h.1,h.2.im m rfl⟩
 |.int _,_,_,_,c,h=>by unfold Tr at h⊢;show⟨h.1,h.2.im m rfl⟩
 |.str _,_,_,_,c,h=>by unfold Tr at h⊢;show⟨h.1,h.2.im m rfl⟩
 |.scr ns,k,_,_,c,h=>by simp[i4,qZ] at c
 |.nd hd ds,.fz,_,_,c,h=>by
  let c:qZ (.nd hd ds)=QJ:=by simpa[i4] using c
  unfold Tr at h⊢;show⟨h.1,h.2.im m c⟩
 |.nd hd ds,.own es r,v,F,c,h=>by
  let c:gx ds es r=QJ:=by simpa[i4] using c
  unfold Tr at h⊢;obtain⟨a,o,q,i,e,f,b,l,s,j,t⟩:=h;show⟨a,o,q,i,e,f,b,l,λp z=>?_,j,TrL.clean m c t⟩;obtain⟨u,g,n⟩:=m a z;rw[f] at g;cases g
  cases hd with
  |tup=>show n _ b
  |_=>show absurd p (by simp[Hd.mu])
theorem TrL.clean(m:MuOk H S'):∀{ds:List D} {es:List Ow} {r:Ow} {vs:List V} {F:Pr},gx ds es r=QJ->TrL K H S ds es r vs F->TrL K H S' ds es r vs F
 |[],_,_,_,_,_,h=>by unfold TrL at h⊢;show h
 |d::ds,es,r,vs,F,c,h=>by
  simp only[gx,Nr] at c;unfold TrL at h⊢;obtain⟨y,b,j,a,e,k,g,i,f⟩:=h;show⟨y,b,j,a,e,k,g,Tr.clean m c.1 i,TrL.clean m c.2 f⟩
end
def kM:Kd->D->Bool
 |.sh,d=>qZ d
 |.fr k,d=>i4 d k
 |.bo _ _,_=>QL
theorem VR.clean(c:kM kd d=QJ)(m:MuOk H0 (Sg g))(s:Same H0 H)(h:VR K g' H0 H kd d v):VR K g H0 H kd d v:=by
 obtain⟨F,f,a⟩:=h;let e:MuOk H (Sx g F):=λb z=>z.elim (λz=>m.same s b z) λz=>a.dom b z;show⟨F,f,?_⟩
 cases kd with
 |sh=>show⟨a.1,a.2.im e c⟩
 |fr k=>show Tr.clean e c a
 |bo i k=>cases c
end
noncomputable def bw:Kd->Bool
 |.bo _ _=>QJ
 |_=>QL
def Bc(B:Fn)(kds:List KD):Option KD:=
 match B (kds.map (·.2)) with
 |some (kd,d)=>if(kds.all λp=>q0 p.1 p.2)=QJ then(if bw kd=QJ then QI else QH (kd,d)) else if kM kd d=QJ then QH (kd,d) else QI
 |none=>QI
def xP(B:Option Fn)(a:Option (List KD)):Option KD:=match B,a with|some B,QH kds=>Bc B kds|_,_=>QI
section
variable {X:Cx} {U:Tab} {c:Cz}
theorem tM(K:Np)(h:Bc B kds=QH (kd,d)){Q:VK}(m:MuOk H0 (Sg g))(s:Same H0 H)(r:VRs K g H0 H kds vs)(q:∀v H',Same H H'->VR K g H0 H' kd d v->Q v H'):nB K B vs H Q E:=by
 unfold Bc at h;split at h
 ·ext j p i;split at h
  ·ext k;split at h
   ·cases h
   ·cases h;show⟨_,g,_,_,r.sh k m s,m.same s,i,λv c s2 f=>q v c s2 (f.older s)⟩
  ·split at h
   ·ext l;cases h;show⟨_,λ_=>QI,_,_,r.rd.go (λb o n e=>⟨e,λz=>z rfl⟩),λa z=>absurd rfl z,i,λv c s2 f=>q v c s2 ((f.clean l (m.same s) s2).older s)⟩
   ·cases h
 ·cases h
theorem Ln(O:ao X U c){es:List QN}{b:Ro->Option (List KD)}(n:kJ X b (e::es))(a:iW c.sc x=QJ)(k:ah e=QJ)(m:es.all ah=QJ):SndE X (λZ=>xP (U.fn x) (b Z)) (.Call (.Name x p) (e::es) [] pos):=by
 intro Z u d h g Y H Q f q;dsimp only[xP] at h;split at h
 ·ext B i l o;show am (HN (t:=wA X (e::es)) (λ_ _ _ _=>cc) (O.tab.fn x B l) (Ld a) (dC O a) cQ (aj k) (br m)) (n Z _ o g Y H _ f λw y s1 j=>?_);show tM X.K h f.mu s1 j λv r s2 s=>q v r (s1.trans s2) s
 ·cases h
theorem tN:∀{es:List QN} {env:Env} {cp:Pos},es.all ah=QJ->(backTo cp (QU es env)).all (λx=>!x.1)=QJ
 |[],_,_,_=>rfl
 |e::es,env,cp,h=>by
  rw[Oz,Nr] at h;let b:=tN (env:=env) (cp:=cp) h.2;let a:=aj (es:=es) (env:=env) h.1;rw[a];let c:backTo cp ((QL,eval e env)::QU es env)=(backTo cp [(QL,eval e env)])++backTo cp (QU es env):=by unfold backTo;simp
  rw[c,List.all_append,b,Bool.and_true];rfl
theorem tO{ap pos:Pos}(h:attributeBase o m env (eval o env)=eval o env)(n:(e::es).all ah=QJ)(g:(ap.endLine==pos.line)=QJ)(a:(e::es).length<30) :
  eval (.Call (.Attribute o m ap) (e::es) [] pos) env=(do
   let b <- eval o env
   standAt ap.atName
   let (f,first) <- holding [b] (getMethod b m (do return (<- importBound o env).getD QJ))
   callWith pos f first (backTo pos (QU (e::es) env)) (backToKw pos (keywordEach [] env))):=by
 let d:methodCallForm ((e::es).length+([]:List Keyword).length) (backTo pos (QU (e::es) env)) (backToKw pos (keywordEach [] env))=QJ:=by
  change((backTo pos (QU (e::es) env)).all (λx=>!x.1)&&(backToKw pos (keywordEach [] env)).all (λx=>x.1.isSome)&&decide ((e::es).length+([]:List Keyword).length+(if([]:List Keyword).isEmpty then 0 else 1)<30))=QJ
  rw[tN n];have:(backToKw pos (keywordEach [] env)).all (λx=>x.1.isSome)=QJ:=rfl;rw[this];simpa using a
 let c:methodCallPos QJ o env ap pos=pure pos:=by unfold methodCallPos;simp[g]
 rw[arm_eval_Call,h];unfold methodCall;rw[d];unfold calleeOf;simp only[c,if_true,pure_bind]
theorem rB{m:Str}:∀{ns:List Str} {xs:List V},ns.contains m=QL->(ns.zip xs).lookup m=QI
 |[],_,_=>rfl
 |n::ns,[],_=>rfl
 |n::ns,x::xs,h=>by
  simp only[List.contains_cons,O0] at h;change Ou m ((n,x)::ns.zip xs)=QI;rw[NX,h.1];show rB h.2
theorem Cy(O:ao X U c){es:List QN}{ap pos:Pos}{T:Ro->Option KD}{V:Ro->Option (List KD)}(hM:qz y=QJ)(ho:SndE X T o)(ha:kJ X V (e::es))(hb:d9 o=QJ)(hl:(ap.endLine==pos.line)=QJ)(R:ah e=QJ)(W:es.all ah=QJ)(A:(e::es).length<30) :
  SndE X (λZ=>xP (U.fn y) (cy (T Z) (V Z))) (.Call (.Attribute o (mM y) ap) (e::es) [] pos):=by
 intro Z kd d h g Y H Q M q;dsimp only[xP] at h;split at h
 ·ext B hc hB m;let L:=O.tab.fn y B hB;unfold gZ at L;rw[if_pos hM] at L;obtain⟨C,k,f,fd,ps,hn,cl,mt,F,hr,w,p⟩:=L;unfold cy at m;split at m
  ·ext x D e1 e2;cases m;obtain⟨k0,n⟩:=x
   let hq:∃r,B (((k0,n)::D).map (·.2))=QH r:=by
    cases z:B (((k0,n)::D).map (·.2)) with
    |none=>unfold Bc at h;rw[z] at h;cases h
    |some r=>show⟨r,rfl⟩
   obtain⟨r0,u⟩:=hq;let i:=p _ _ u
   let I:∃j ns b,n=.nd (.obj j ns) b/\j=mC y/\ns.contains (mM y)=QL:=by
    rw[NS] at i
    cases n with
    |nd hd b=>
     cases hd with
     |obj j ns=>
      let i:(decide (j=mC y)&&!ns.contains (mM y))=QJ:=i;rw[Nr,decide_eq_true_eq,OK] at i;show⟨j,ns,b,rfl,i.1,i.2⟩
     |_=>cases(show QL=QJ from i)
    |_=>cases(show QL=QJ from i)
   obtain⟨j,ns,b,rfl,rfl,s⟩:=I;show am (sY (E:=E0) (ta:=wE X o) (t:=wA X (e::es)) aq cl mt F hr w .nil oO cQ (aj R) (br W) (tO (dD hb) (by rw[Oz,R,W];rfl) hl A)) (ho Z _ _ e1 g Y H _ M λv H1 s1 P=>?_);obtain⟨a,ob,hf,rfl,_,ga,hk,_⟩:=P.rd.nd;obtain⟨C',dx,l,_,rfl,_⟩:=hk;rw[hn] at l;cases l;obtain⟨F1,S,N⟩:=P;show⟨a,dx,_,rfl,ga,rB s,ha Z D e2 (g.plus F1) Y H1 _ (M.plus s1 S N.dom) λvs H2 s2 r2=>?_⟩;rw[N9];show tM X.K h M.mu (s1.trans s2) (.cons s1 s2 S N r2) λv2 H3 s3 r3=>q v2 H3 ((s1.trans s2).trans s3) r3
  ·cases m
 ·cases h
end
inductive IT where
 |nm (i:Nat)
 |tp (ts:List IT)
mutual
noncomputable def pc:IT->D->Option (List (Nat×D))
 |.nm i,d=>QH [(i,d)]
 |.tp ts,.nd .tup ds=>rC ts ds
 |_,_=>QI
noncomputable def rC:List IT->List D->Option (List (Nat×D))
 |[],[]=>QH []
 |t::ts,d::ds=>match pc t d,rC ts ds with
  |some a,QH b=>QH (a++b)
  |_,_=>QI
 |_,_=>QI
end
noncomputable def GI(d:D):Sl:=⟨QL,.fz,d⟩
def setAll:List (Nat×D)->Ro->Ro
 |[],Z=>Z
 |(i,d)::r,Z=>setAll r (Z.set i (QH (GI d)))
noncomputable def xQ(f:QN->Option IT):List QN->Option (List IT)
 |[]=>QH []
 |e::es=>match f e,xQ f es with
  |some a,QH b=>QH (a::b)
  |_,_=>QI
def nG(c:Cz):Nat->QN->Option IT
 |0,_=>QI
 |n+1,e=>match e with
  |.Name x _=>if lI c x then(aZ x c.N).map .nm else QI
  |.Tuple es _ _=>if es.all ah then(xQ (nG c n) es).map .tp else QI
  |_=>QI
theorem SE.set{Z:Ro}{Y:L2.St}(h:SE K g Z Y H)(i:Nat)(r:Rp K H (Sg g) d v):SE K g (Z.set i (QH (GI d))) (Y.set i (QH v)) H:=by
 show⟨λj f e=>?_,h.mu,by simp[h.len]⟩;by_cases c:j=i
 ·subst c
  let a:j<Z.length:=by
   have:=(Nq.mp e).1;simpa using this
  rw[NY a] at e;cases e;show⟨v,_,NY (by rw[<- h.len];show a),λb z=>z.elim,.fz r⟩
 ·rw[NW (Ne.symm c)] at e⊢;show h.slot j f e
theorem SE.pass{Z:Ro}{Y:L2.St}(h:SE K g Z Y H)(i:Nat)(n:∀a,Z[i]?≠QH (QH a)):SE K g Z (Y.set i (QH v)) H:=by
 show⟨λj a e=>?_,h.mu,by simp[h.len]⟩;let b:j≠i:=λz=>n a (z▸e);rw[NW (Ne.symm b)];show h.slot j a e
noncomputable def g9:List (Nat×V)->L2.St->L2.St
 |[],Y=>Y
 |(i,v)::r,Y=>g9 r (Y.set i (QH v))
theorem pe:∀(a b:List (Nat×V)) (Y:L2.St),g9 (a++b) Y=g9 b (g9 a Y)
 |[],_,_=>rfl
 |(i,v)::a,b,Y=>pe a b _
section
variable {X:Cx} {U:Tab} {c:Cz}
def RpP(K:Np)(H:Hp)(S:Pr):List (Nat×D)->List (Nat×V)->Prop
 |[],vs=>vs=[]
 |(i,d)::r,vs=>∃v ws,vs=(i,v)::ws/\Rp K H S d v/\RpP K H S r ws
theorem RpP.app:∀{a b:List (Nat×D)} {x y:List (Nat×V)},RpP K H S a x->RpP K H S b y->RpP K H S (a++b) (x++y)
 |[],_,_,_,h,g=>by rw[(show _=[] from h)];show g
 |(i,d)::a,b,_,y,h,g=>by
  obtain⟨v,f,rfl,e,c⟩:=h;show⟨v,f++y,rfl,e,RpP.app c g⟩
mutual
def CA(K:Np):IT->TG
 |.nm i=>gN i
 |.tp ts=>G8 K ts.length (pf K ts)
def pf(K:Np):List IT->wS
 |[]=>DT
 |t::ts=>wU (CA K t) (pf K ts)
end
mutual
theorem hJ:∀{t:IT} {d:D} {ps:List (Nat×D)} {v:V} {Y:L2.St} {Q:L2.St->Hp->Prop},pc t d=QH ps->Rp K H S d v->(∀vs,RpP K H S ps vs->Q (g9 vs Y) H)->CA K t v Y H Q
 |.nm i,d,ps,v,Y,Q,ht,r,q=>by
  simp only[pc] at ht;cases ht;simp only[CA];show q [(i,v)] ⟨v,[],rfl,r,rfl⟩
 |.tp ts,d,ps,v,Y,Q,ht,r,q=>by
  cases d with
  |nd g k=>
   cases g with
   |tup=>
    simp only[pc] at ht;obtain⟨a,o,j,rfl,_,f,c,e⟩:=r.nd;cases(show o=_ from c);obtain⟨h,b⟩:=kN ht e q;simp only[CA];show⟨a,j,rfl,.of f,b,h⟩
   |_=>simp[pc] at ht
  |_=>simp[pc] at ht
theorem kN:∀{c:List IT} {ds:List D} {ps:List (Nat×D)} {vs:List V} {Y:L2.St} {Q:L2.St->Hp->Prop},rC c ds=QH ps->RpL K H S ds vs->(∀ws,RpP K H S ps ws->Q (g9 ws Y) H)->pf K c vs Y H Q/\vs.length=c.length
 |[],[],ps,vs,Y,Q,ht,r,q=>by
  simp only[rC] at ht;cases ht;simp only[pf];rw[r.nil_inv];show⟨⟨rfl,q [] rfl⟩,rfl⟩
 |t::c,d::ds,ps,vs,Y,Q,ht,r,q=>by
  simp only[rC] at ht;split at ht
  ·ext a b m h;cases ht;obtain⟨y,j,rfl,l,i⟩:=r.cons_inv;simp only[pf];let g:=(kN (Y:=Y) (Q:=λ_ _=>True) h i λ_ _=>trivial).2;show⟨⟨y,j,rfl,hJ m l λe n=>(kN h i λf k=>?_).1⟩,by simp[g]⟩;have:=q (e++f) (n.app k);rw[pe] at this;show this
  ·cases ht
 |[],_::_,ps,vs,Y,Q,ht,r,q=>by simp[rC] at ht
 |_::_,[],ps,vs,Y,Q,ht,r,q=>by simp[rC] at ht
end
theorem cI(h:ah e=QJ):Q4 (e::es) env=(QL,assign e env)::Q4 es env:=by
 cases e<;>first|rfl|cases h
theorem ph(O:ao X U c):∀(n:Nat) {e:QN} {t:IT},nG c n e=QH t->PG X e (CA X.K t)
 |0,e,t,h=>by cases h
 |n+1,e,t,h=>by
  let w:∀{e:QN} {t:IT},nG c n e=QH t->PG X e (CA X.K t):=λh=>ph O n h
  let q:∀{d:List QN} {g:List IT},d.all ah=QJ->xQ (nG c n) d=QH g->DR X d (pf X.K g)/\(Q4 d X.env).length=g.length/\(Q4 d X.env).findIdx? (·.1)=QI:=by
   intro d
   induction d with
   |nil=>intro g _ h;cases h;simp only[pf];show⟨sV,rfl,rfl⟩
   |cons e d o=>
    intro g f h;rw[Oz,Nr] at f;unfold xQ at h;split at h
    ·ext a b v z;cases h;obtain⟨j,s,u⟩:=o f.2 z;simp only[pf];show⟨oE (w v) j (by rw[cI f.1];rfl),by rw[cI f.1,N3,s];rfl,?_⟩;rw[cI f.1,N4];simp[u]
    ·cases h
  unfold nG at h;split at h
  ·ext x p;split at h
   ·ext y
    cases r:aZ x c.N with
    |none=>rw[r] at h;cases h
    |some i=>
     rw[r] at h;cases h;let l:=iX O y;simp only[CA];show sU (i:=i) (by rw[O.N];show O.nd) (by rw[O.N];show aU r) l.1 l.2
   ·cases h
  ·ext d k p;split at h
   ·ext f
    cases m:xQ (nG c n) d with
    |none=>rw[m] at h;cases h
    |some g=>
     rw[m] at h;cases h;obtain⟨j,s,u⟩:=q f m;simp only[CA];show wV O.calm j s u
   ·cases h
  ·cases h
theorem SE.setAll{H:Hp}:∀{ps:List (Nat×D)} {vs:List (Nat×V)} {Z:Ro} {Y:L2.St},RpP K H (Sg g) ps vs->SE K g Z Y H->SE K g (setAll ps Z) (g9 vs Y) H
 |[],vs,Z,Y,h,se=>by rw[(show vs=[] from h)];show se
 |(i,d)::ps,vs,Z,Y,h,se=>by
  obtain⟨v,c,rfl,b,a⟩:=h;show SE.setAll (Z:=Z.set i (QH (GI d))) (vs:=c) (Y:=Y.set i (QH v)) a (se.set i b)
noncomputable def bL(ps:List (Nat×D))(Z:Ro):Bool:=ps.all λp=>match Z[p.1]? with|some QI=>QJ|_=>QL
theorem SE.passAll{H:Hp}:∀{ps:List (Nat×D)} {vs:List (Nat×V)} {Z:Ro} {Y:L2.St},RpP K H S ps vs->bL ps Z=QJ->SE K g Z Y H->SE K g Z (g9 vs Y) H/\∀(j:Nat) a,Z[j]?=QH (QH a)->(g9 vs Y)[j]?=Y[j]?
 |[],vs,Z,Y,h,_,se=>by rw[(show vs=[] from h)];show⟨se,λ_ _ _=>rfl⟩
 |(i,d)::ps,vs,Z,Y,h,hn,se=>by
  obtain⟨v,m,rfl,l,c⟩:=h;simp only[bL,Oz,Nr] at hn
  let b:∀a,Z[i]?≠QH (QH a):=λa e=>by
   have:=hn.1;rw[e] at this;cases this
  obtain⟨f,k⟩:=SE.passAll c (by simpa[bL] using hn.2) (se.pass i (v:=v) b);show⟨f,λj a e=>(k j a e).trans (NW (λz=>b a (by rw[z];show e)))⟩
end
noncomputable def Gh.re(m:Nat->Option Nat)(g:Gh):Gh:=λb=>match g b with
 |some (QH i)=>QH (m i)
 |x=>x
section
variable {K:Np} {H H':Hp} {g:Gh} {F F2:Pr} {m:Nat->Option Nat}
theorem jQ(b:QO):Sg (g.re m) b↔Sg g b:=by
 unfold Gh.re Sg
 cases h:g b with
 |none=>simp[h]
 |some x=>cases x<;>simp[h]
theorem i5:(g.plus F).plus F2=g.plus (λb=>F b\/F2 b):=by
 funext b;unfold Gh.plus;by_cases a:F2 b
 ·simp[a]
 ·by_cases c:F b
  ·simp[c]
  ·simp[c,a]
theorem aS(h:F b):g.plus F b=QH QI:=by
 unfold Gh.plus;rw[if_pos h]
theorem SE.upd(h:SE K g Z Y H)(d:g p=QH QI)(j:∀xs,o≠.tup xs):SE K g Z Y (upd H p o):=by
 let f:∀b a,b≠p->H b=QH a->L2.upd H p o b=QH a:=λb a n e=>by rw[ae n];show e
 show⟨λi k e=>?_,λb z=>?_,h.len⟩
 ·obtain⟨v,F,e1,e2,e3⟩:=h.slot i k e;show⟨v,F,e1,e2,e3.go (λb a c e=>f b a (λz=>?_) e) λ_ _ _ n=>n⟩;subst z;rcases c with c|c
  ·show c (by rw[Sg,d];simp)
  ·rw[e2 b c] at d;cases d
 ·by_cases c:b=p
  ·show⟨o,by rw[c];show ak,j⟩
  ·obtain⟨a,e,n⟩:=h.mu b z;show⟨a,f b a c e,n⟩
noncomputable def aJ(Z:Ro)(cap:List (Option Nat)):Ro:=cap.map λo=>o.bind λi=>(Z[i]?).join
noncomputable def i6(cap:List (Option Nat))(i:Nat):Option Nat:=cap.findIdx? λo=>o==QH i
noncomputable def kO(cap:List (Option Nat)):Bool:=decide (cap.filterMap id).Nodup
theorem tP:∀{cap:List (Option Nat)} {j i:Nat},(cap.filterMap id).Nodup->cap[j]?=QH (QH i)->i6 cap i=QH j
 |[],j,i,_,e=>by simp at e
 |o::cap,0,i,hn,e=>by
  simp at e;subst e;simp[i6,N4]
 |o::cap,j+1,i,hn,e=>by
  let d:cap[j]?=QH (QH i):=by simpa using e
  let f:i∈cap.filterMap id:=Px.mpr ⟨QH i,NO d,rfl⟩
  let a:(o==QH i)=QL:=by
   cases o with
   |none=>rfl
   |some k=>
    simp only[N2,id] at hn;have:=(NU.mp hn).1;simp only[beq_eq_false_iff_ne,ne_eq,Option.some.injEq];intro z;subst z;show this f
  let b:(cap.filterMap id).Nodup:=by
   cases o with
   |none=>simpa using hn
   |some k=>simp only[N2,id] at hn;show(NU.mp hn).2
  let c:=tP b d;unfold i6 at c⊢;rw[N4,a,c];rfl
theorem SE.cap(h:SE K g Z Y H){cap:List (Option Nat)}(k:kO cap=QJ):SE K (g.re (i6 cap)) (aJ Z cap) (cx Y cap) H:=by
 show⟨λj c e=>?_,λb z=>h.mu b ((jQ b).mp z),by simp[aJ,cx]⟩;unfold aJ at e;unfold cx;rw[Nu] at e⊢
 cases q:cap[j]? with
 |none=>rw[q] at e;cases e
 |some o=>
  rw[q] at e
  cases o with
  |none=>cases e
  |some i=>
   let a:(Z[i]?).join=QH c:=by simpa using e
   let e2:Z[i]?=QH (QH c):=by
    cases z:Z[i]? with
    |none=>rw[z] at a;cases a
    |some w=>rw[z] at a;have:w=QH c:=a;rw[this]
   obtain⟨v,F,f,d,l⟩:=h.slot i c e2;show⟨v,F,by simp[f],λb z=>?_,l.go (λ_ _ _ h=>h) λb o _ n z=>n ((jQ b).mp z)⟩;unfold Gh.re;rw[d b z];change QH (i6 cap i)=_;rw[tP (by simpa[kO] using k) q]
end
noncomputable def fU(scope q:Q0):Q0:=
 { scope with names:=scope.names.map λ(n,k)=>if(k==.free&&q.kind==.function&&q.names.lookup n==QH .cell) then(n,.cell) else(n,k) }
theorem Bd{env:Env}(h:env.scope=sc):relabel scope env=fU scope sc:=by
 subst h;rfl
def au(c:Cz)(scope:Q0):List (Option Nat):=scope.names.map λ(x,k)=>if k=.free then aZ x c.N else QI
noncomputable def ac(scope:Q0):List Str:=scope.names.map (·.1)
def a7(c:Cz)(scope:Q0):Bool:=
 scope.kind==.function&&decide (ac scope).Nodup&&kO (au c scope)&&scope.names.all λ(x,k)=>(k != .free||c.sc.names.lookup x==QH .cell||c.sc.names.lookup x==QH .free)
theorem cV:∀{l:List (Str×Q6)} {x:Str} {k:Q6},(l.map (·.1)).Nodup->(x,k)∈l->l.lookup x=QH k
 |(y,j)::r,x,k,hn,a=>by
  rw[NX];rw[NS,NU] at hn;rcases NB.mp a with e|a
  ·cases e;simp
  ·have:x≠y:=λz=>hn.1 (by rw[<- z];show NR.mpr ⟨(x,k),a,rfl⟩);let e:(x==y)=QL:=by simpa using this
   rw[e];show cV hn.2 a
theorem dc(O:ao X U c)(h:a7 c scope=QJ):eV X (ac scope) scope (au c scope):=by
 simp only[a7,Nr,decide_eq_true_eq,N5,beq_iff_eq] at h;obtain⟨⟨⟨o,m⟩,_⟩,p⟩:=h;let hk:∀x,X.env.kindOf x=c.sc.names.lookup x:=λx=>by change X.env.scope.names.lookup x=_;rw[O.sc]
 let a:∀y∈scope.names,y.2=.free->X.env.kindOf y.1=QH .cell\/X.env.kindOf y.1=QH .free:=λy f e=>by
  have:=p y f;simp only[Op,bne_iff_ne,beq_iff_eq] at this;rw[hk];rcases this with(z|z)|z
  ·show absurd e z
  ·show .inl z
  ·show .inr z
 show⟨o,λy f e=>?_,λy f e=>?_,a,by simp[au,ac],λj i x d g=>?_⟩
 ·obtain⟨x,k⟩:=y;let l:k=.cell:=e;subst l;show cV m f
 ·obtain⟨x,k⟩:=y;let l:k=.local:=e;subst l;show cV m f
 ·unfold ac at d;unfold au at g;rw[Nu] at d g
  cases q:scope.names[j]? with
  |none=>rw[q] at d;cases d
  |some y=>
   rw[q] at d g;obtain⟨y,k⟩:=y;cases d
   let b:(if k=.free then aZ y c.N else QI)=QH i:=by simpa using g
   split at b
   ·ext e;subst e;let n:=NO q;show⟨by rw[O.N];show aU b,cV m n,a _ n rfl⟩
   ·cases b
theorem cW{c:Cz}(O:ao X U c)(h:a7 c scope=QJ)(C:QO)(s:QP)(H:Hp)(ex:List QO):ao (ai X (ac scope) scope C s H ex) U ⟨fU scope c.sc,ac scope,gw scope⟩:=by
 simp only[a7,Nr,decide_eq_true_eq] at h;show⟨Bd O.sc,rfl,λx z=>z,O.calm,h.1.1.2,⟨O.tab.fn,O.tab.cf,O.tab.fm,O.tab.bl,O.tab.units,O.tab.gd,O.tab.cst⟩⟩
def dv(tg:IT)(O:Ro->Option Bool)(B:Ro->Option KD)(q:Ro)(d:D):Option (Option KD):=match pc tg d with
 |some ps=>if bL ps q=QJ then(match O (setAll ps q) with|some QJ=>(B (setAll ps q)).map QH|some QL=>QH QI|none=>QI) else QI
 |none=>QI
def aO(r:Ow)(f:D->Option (Option KD)):List D->Option (List D)
 |[]=>QH []
 |d::ds=>match f d,aO r f ds with
  |some (QH kd),QH ys=>if bK r kd=QJ then QH (kd.2::ys) else QI
  |some QI,QH ys=>QH ys
  |_,_=>QI
theorem i7:∀{a b:List D} {ys:List D},aO r f (a++b)=QH ys->∃x y,aO r f a=QH x/\aO r f b=QH y/\ys=x++y
 |[],b,ys,h=>⟨[],ys,rfl,h,rfl⟩
 |d::a,b,ys,h=>by
  rw[OE] at h;unfold aO at h;split at h
  ·ext g i e1 e2;split at h
   ·ext j;cases h;obtain⟨x,y,e,c,rfl⟩:=i7 e2;show⟨g.2::x,y,by simp[aO,e1,e,j],c,rfl⟩
   ·cases h
  ·ext i e1 e2;cases h;obtain⟨x,y,e,c,rfl⟩:=i7 e2;show⟨x,y,by simp[aO,e1,e],c,rfl⟩
  ·cases h
theorem kQ{a:List D}{d:D}{x:List D}(h:aO r f a=QH x){y:List D}(h1:aO r f [d]=QH y):aO r f (a++[d])=QH (x++y):=by
 induction a generalizing x with
 |nil=>cases h;show h1
 |cons e a b=>
  unfold aO at h;rw[OE];unfold aO;split at h
  ·ext i c e1 e2;split at h
   ·ext g;cases h;rw[e1,b e2];simp[g]
   ·cases h
  ·ext c e1 e2;cases h;rw[e1,b e2]
  ·cases h
theorem rD{f:D->Option (Option KD)}{ds ys:List D}(h:aO r f ds=QH ys){i:Nat}(e:ds[i]?=QH d){x:List D}(g:aO r f (ds.take i)=QH x) :
  (f d=QH QI/\aO r f (ds.take (i+1))=QH x)\/∃a,f d=QH (QH a)/\bK r a=QJ/\aO r f (ds.take (i+1))=QH (x++[a.2]):=by
 let l:ds=ds.take i++(d::ds.drop (i+1)):=by
  obtain⟨k,rfl⟩:=Nq.mp e;rw[<- N8 k,Pm]
 let m:ds.take (i+1)=ds.take i++[d]:=by rw[Pd,e];rfl
 rw[l] at h;obtain⟨_,y,_,b,_⟩:=i7 h;unfold aO at b;rw[m];split at b
 ·ext a j e1 e2;split at b
  ·ext c;show .inr ⟨a,e1,c,kQ g (by simp[aO,e1,c])⟩
  ·cases b
 ·ext j e1 e2;show .inl ⟨e1,by simpa using kQ g (y:=[]) (by simp[aO,e1])⟩
 ·cases b
def mr(r:Ow)(it:Option (List Nat×List D))(f:D->Option (Option KD)):Option KD:=match it with
 |some (_,ds)=>if ds.length<=100000 then(match aO r f ds with|some ys=>QH (.fr (.own [] r),.lst ys)|none=>QI) else QI
 |none=>QI
theorem i8:∀{ds ys:List D},aO r f ds=QH ys->ys.length<=ds.length
 |[],ys,h=>by cases h;show Ny _
 |d::ds,ys,h=>by
  unfold aO at h;split at h
  ·ext b a e1 e2;split at h
   ·cases h;have:=i8 e2;simp;lia
   ·cases h
  ·ext a e1 e2;cases h;have:=i8 e2;simp;lia
  ·cases h
section
variable {K:Np} {H:Hp} {S:Pr}
theorem TrL.snoc:∀{ds:List D} {r:Ow} {us:List V} {F F2:Pr} {d:D} {v:V},TrL K H S ds [] r us F->Tr K H S d r v F2->(∀b,F b->¬F2 b)->TrL K H S (ds++[d]) [] r (us++[v]) (λb=>F b\/F2 b)
 |[],r,us,F,F2,d,v,h,t,dj=>by
  unfold TrL at h;obtain⟨rfl,m⟩:=h;unfold TrL;show⟨v,[],F2,λ_=>False,rfl,λb=>⟨λz=>.inl (z.elim (λz=>absurd z (m b)) id),λz=>z.elim .inr λz=>z.elim⟩,λ_ _ z=>z,t,?_⟩;unfold TrL;show⟨rfl,λ_ z=>z⟩
 |e::ds,r,us,F,F2,d,v,h,t,dj=>by
  unfold TrL at h;obtain⟨y,k,g,i,rfl,c,f,n,l⟩:=h;unfold TrL;show⟨y,k++[v],g,λb=>i b\/F2 b,rfl,λb=>?_,λb j a=>?_,n,TrL.snoc l t λb z=>dj b ((c b).mpr (.inr z))⟩
  ·change F b\/F2 b↔g b\/i b\/F2 b;rw[c b,or_assoc]
  ·rcases a with a|a
   ·show f b j a
   ·show dj b ((c b).mpr (.inl j)) a
end
def EL(X:Cx)(ifs:List QN):TT:=λY H Q=>∀pins s,Inv X pins Y H s->QR (QS X.prog X.w) X.A (forIn ifs QJ λc r=>if r=QJ then do let q <- isTrue c X.env (eval c X.env);pure (ForInStep.yield q) else pure (ForInStep.yield r)) (TP X pins Y Q) X.xe s
theorem rE{b:TT}(p:AN X ifs b)(h:b Y H Q):EL X ifs Y H Q:=λa s I=>p a s Y H Q I h
def jF(X:Cx)(f:Ro->Option Bool)(ifs:List QN):Prop:=∀Z b,f Z=QH b->∀g Y H Q,SE X.K g Z Y H->(∀H',Same H H'->Q b H')->EL X ifs Y H Q
theorem CB:jF X (λ_=>QH QJ) []:=λZ b h g Y H Q a q=>by cases h;show rE tz (q H (Same.refl H))
theorem Ir{e:QN}(h:SndT X f e):jF X f [e]:=λZ b a g Y H Q c q=>rE (AO iQ) (h Z b a g Y H Q c q)
section
variable {X:Cx} {U:Tab} {c:Cz}
abbrev Lo(K:Np)(f:List J.D->Option (List J.D))(r:Ow)(ds:List J.D)(g g':Gh)(Z:Ro)(H1:Hp)(D:QO):Nat->Nat->L2.St->Hp->Prop:=λi m Y' H'=>m=ds.length-i/\i<=ds.length/\∃(q:Pr) (us:List V) (B:List J.D),f (ds.take i)=QH B/\(∀b,q b->H1 b=QI/\b≠D)/\SE K (g'.plus λb=>b=D\/q b) Z Y' H'/\
  (∀b o,H1 b=QH o->H' b=QH o)/\H' D=QH (.lst us)/\TrL K H' (Sx g λb=>b=D\/q b) B [] r us q
theorem xR(O:ao X U c){fi:Ro->Option (List Nat×List D)}(hck:a7 c scope=QJ)(hi:SndI X fi tg iter)(h0:nG ⟨fU scope c.sc,ac scope,gw scope⟩ n tg=QH t)(hj:∀C s H ex,jF (ai X (ac scope) scope C s H ex) ft ifs)(hv:∀C s H ex,SndE (ai X (ac scope) scope C s H ex) fe elt)(h:mr r (fi Z) (dv t ft fe (aJ Z (au c scope)))=QH (kd,d)){Y:L2.St}{Q:VK}(se:SE X.K g Z Y H)(q:∀v H',Same H H'->VR X.K g H H' kd d v->Q v H') :
  iP (wI X tg iter) (λv Y H Q=>∀C s W ex,wG (ai X (ac scope) scope C s W ex) tg v Y H Q) (λY H Q=>∀C s W ex,EL (ai X (ac scope) scope C s W ex) ifs Y H Q) (λY H Q=>∀C s W ex,wE (ai X (ac scope) scope C s W ex) elt Y H Q) (au c scope) Y H Q:=by
 let ha:kO (au c scope)=QJ:=by
  simp only[a7,Nr] at hck;show hck.1.2
 unfold mr at h;split at h
 ·ext bs p h1;split at h
  ·ext hg;split at h
   ·ext ys hm;cases h;let CO:=cW O hck;show hi Z bs p h1 g Y H _ se λjj ht H1 s1 jt sp sf D hD=>?_;let u:SE X.K (g.re (i6 (au c scope))) (aJ Z (au c scope)) (cx Y (au c scope)) H1:=(se.same s1).cap ha;generalize hw:g.re (i6 (au c scope))=g' at u;let gS:∀b,Sg g' b↔Sg g b:=λb=>by rw[<- hw];show jQ b
    generalize hZ:aJ Z (au c scope)=Zc at u hm;generalize hY:cx Y (au c scope)=Yc at u;clear hZ hY
    show⟨Lo X.K (aO r (dv t ft fe Zc)) r p g g' Zc H1 D,
     ⟨p.length,by simp,NZ _,λ_=>False,[],[],by simp[aO],λb z=>z.elim,?_,λb o e=>ag hD _ _ e,ak,by unfold TrL;show⟨rfl,λ_ z=>z⟩⟩,?_⟩
    ·show u.plus (ag hD) (λb z=>z.elim (λz=>z▸hD) λz=>z.elim) λb z=>z.elim (λz=>⟨.lst [],z▸ak,λxs h=>by cases h⟩) λz=>z.elim
    rintro i m Y' H' ⟨rfl,h3,f,S,yi,F,j,V,kk,gD,tr⟩
    let A:∀b,Sg (g'.plus λb=>b=D\/f b) b↔Sx g (λb=>b=D\/f b) b:=λb=>(al b).trans (or_congr (gS b) Iff.rfl);let L:∀b o,H1 b=QH o->¬(b=D\/f b):=λb o e z=>z.elim (λz=>by rw[z,hD] at e;cases e) λz=>by rw[(j b z).1] at e;cases e
    let hx:ht.P X.K (g'.plus λb=>b=D\/f b) H':=Src.mono (λb o e n z=>((A b).mp z).elim n (L b o e)) (λb o _ e=>kk b o e) (λa e=>sf.from_t e) sp;obtain⟨j1,j2⟩:=jt i _ H' hx V.mu;by_cases E:i<p.length
    ·let hd:p[i]?=QH p[i]:=NC E;obtain⟨go,yl⟩:=j2 _ hd;show .inr ⟨go,λx H2 hy C s0 W ex=>?_⟩;obtain⟨s2,rx⟩:=yl x H2 hy;let st:=rD hm hd F
     let R:∃o,dv t ft fe Zc p[i]=QH o:=by
      rcases st with⟨e,_⟩|⟨kd,e,_⟩
      ·show⟨_,e⟩
      ·show⟨_,e⟩
     obtain⟨o0,w⟩:=R;let l:=w;unfold dv at l;split at l
     ·ext ps ho;split at l
      ·ext hn;show tB (ph (CO C s0 W ex) n h0) (hJ ho rx λvs hl C1 hc hh hf=>?_);let t1:=SE.setAll hl (V.same s2);obtain⟨t2,t3⟩:=SE.passAll hl hn (V.same s2);split at l
       ·ext hT
        -- the test holds
        show hj C1 hc hh hf _ QJ hT _ _ _ _ t1 λH3 s3=>vK λC2 hr h2 hs=>?_
        cases N:fe (setAll ps Zc) with
        |none=>rw[N] at l;cases l
        |some ke=>
         rw[N] at l;cases l;obtain⟨ky,y⟩:=ke
         let B:bK r (ky,y)=QJ/\aO r (dv t ft fe Zc) (p.take (i+1))=QH (yi++[y]):=by
          rcases st with⟨e,_⟩|⟨kd,e,e2,e3⟩
          ·rw[w] at e;cases e
          ·rw[w] at e;cases e;show⟨e2,e3⟩
         show hv C2 hr h2 hs _ ky y N _ _ H3 _ (t1.same s3) λvy H4 s4 r4=>?_;obtain⟨Fy,y1,y2⟩:=r4;let GJ:Same H' H4:=(s2.trans s3).trans s4;let T:SE X.K (g'.plus λb=>b=D\/f b) Zc (g9 vs Y') H3:=t2.same s3
         let hu:∀b,Fy b->(g'.plus λb=>b=D\/f b) b=QI:=λb z=>by
          cases e:(g'.plus λb=>b=D\/f b) b with
          |none=>rfl
          |some k=>
           obtain⟨o,q2,_⟩:=T.mu b (by rw[Sg,e];simp);rw[y1 b z] at q2;cases q2
         let mm:MuOk H4 (Sx (g'.plus λb=>b=D\/f b) Fy):=λb z=>z.elim (λz=>T.mu.same s4 b z) λz=>y2.dom b z;obtain⟨F2,a1,a2⟩:=VR1.fit B.1 mm hu (λb z=>z) y2;let hz:H4 D=QH (.lst S):=GJ _ _ gD;let I:¬F2 D:=λz=>by have:=y1 D (a1 D z);rw[(s2.trans s3) _ _ gD] at this;cases this
         let M:∀b,F2 b->H' b=QI:=λb z=>(s2.trans s3).free (y1 b (a1 b z))
         let hp:S.length<=i:=by
          rw[tr.len];show NT (i8 F) (by rw[N0];lia)
         let kD:∀b o,b≠D->H4 b=QH o->upd H4 D (.lst (S++[vy])) b=QH o:=λb o n e=>by rw[ae n];show e
         show⟨S,hz,Os hp (ND E (aP hg)),p.length-(i+1),by lia,rfl,E,λb=>f b\/F2 b,S++[vy],yi++[y],B.2,λb z=>?_,?_,λb o e=>?_,ak,?_⟩
         ·rcases z with z|z
          ·show j b z
          ·show⟨?_,λe=>I (e▸z)⟩
           cases e:H1 b with
           |none=>rfl
           |some o=>have:=M b z;rw[kk b o e] at this;cases this
         ·let e1:(g'.plus λb=>b=D\/(f b\/F2 b))=(g'.plus λb=>b=D\/f b).plus F2:=by
           rw[i5];congr 1;funext b;show propext ⟨λz=>z.elim (λz=>.inl (.inl z)) λz=>z.elim (λz=>.inl (.inr z)) .inr,λz=>z.elim (λz=>z.elim .inl λz=>.inr (.inl z)) λz=>.inr (.inr z)⟩
          rw[e1];show SE.upd (T.plus s4 (λb z=>y1 b (a1 b z)) λb z=>y2.dom b (a1 b z)) ?_ (λxs h=>by cases h);rw[i5];show aS (.inl (.inl rfl))
         ·show kD b o (λz=>L b o e (.inl z)) (GJ _ _ (kk b o e))
         ·show TrL.snoc (tr.go (λb o hb e=>kD b o (λz=>?_) (GJ _ _ e)) λb o e n z=>?_) ((a2 (λb=>g b≠QI\/b=D\/f b\/F2 b) λb z=>?_).go (λb o hb e=>kD b o (λz=>?_) e) λb o e n z=>n z) λb z1 z2=>?_
          ·subst z;show hb.elim (λz=>z (.inr (.inl rfl))) λz=>(j b z).2 rfl
          ·rcases z with z|z|z|z
           ·show n (.inl z)
           ·show n (.inr (.inl z))
           ·show n (.inr (.inr z))
           ·rw[M b z] at e;cases e
          ·rcases z with z|z|z|z
           ·show .inr (.inl ((A b).mpr (.inl z)))
           ·show .inr (.inl ((A b).mpr (.inr (.inl z))))
           ·show .inr (.inl ((A b).mpr (.inr (.inr z))))
           ·show .inr (.inr (.inl z))
          ·subst z;show hb.elim (λz=>z (.inr (.inl rfl))) I
          ·obtain⟨o,e,_⟩:=tr.dom b z1;rw[M b z2] at e;cases e
       ·ext hT;cases l
        let B:aO r (dv t ft fe Zc) (p.take (i+1))=QH yi:=by
         rcases st with⟨_,e⟩|⟨kd,e,_⟩
         ·show e
         ·rw[w] at e;cases e
        show hj C1 hc hh hf _ QL hT _ _ _ _ t1 λH3 s3=>vJ ?_;let rF:=s2.trans s3;show⟨p.length-(i+1),by lia,rfl,E,f,S,yi,B,j,t2.same s3,λb o e=>rF _ _ (kk b o e),rF _ _ gD,tr.go (λb o _ e=>rF _ _ e) λ_ _ _ n=>n⟩
       ·cases l
      ·cases l
     ·cases l
    ·let e:i=p.length:=by lia
     subst e;rw[Oh,hm] at F;cases F;show .inl ⟨j1 (Ny _),q _ H' (λb o e=>kk b o (s1 _ _ e)) ⟨λb=>b=D\/f b,λb z=>s1.free (z.elim (λz=>z▸hD) λz=>(j b z).1),?_⟩⟩;change Tr _ _ _ _ _ _ _;unfold Tr
     show⟨D,_,S,f,rfl,gD,rfl,λ_ z=>(j D z).2 rfl,(λh=>nomatch h),λb=>⟨λz=>z.imp (λz=>⟨rfl,z⟩) id,λz=>z.imp (λz=>z.2) id⟩,tr⟩
   ·cases h
  ·cases h
 ·cases h
noncomputable def de:QN->Bool
 |.Set ..=>QL
 |_=>QJ
theorem c5(h:de e=QJ)(x:QK):foldedSetIterable e env x=pure x:=by
 cases e<;>first|rfl|cases h
theorem EM(O:ao X U c){p:Ro->Option (List Nat×List D)}(hck:a7 c scope=QJ)(hns:de iter=QJ)(hi:SndI X p tg iter)(i:nG ⟨fU scope c.sc,ac scope,gw scope⟩ n tg=QH t)(m:∀C s H ex,jF (ai X (ac scope) scope C s H ex) ft ifs)(j:∀C s H ex,SndE (ai X (ac scope) scope C s H ex) fe elt) :
  SndE X (λZ=>mr r (p Z) (dv t ft fe (aJ Z (au c scope)))) (.ListComp elt [⟨tg,iter,ifs,0⟩] scope pos):=by
 intro Z x d h g Y H Q w q
 show am (oV O.calm (dc O hck) vO
  (λC s f ex a b o k v u l I r e=>vP a b o k v u l I r (e C s f ex)) (λC s f ex a b o k l I e=>e C s f ex a b I) (λC s f ex a b o k l I e=>e C s f ex a b I) (c5 hns)) (xR O hck hi i m j h w q)
end
mutual
inductive IE where
 |var (i:Nat)
 |lit (d:D)
 |bin (op:Q1) (a b:IE)
 |cmp (op:Rc) (a b:IE)
 |chain (op op':Rc) (a b d:IE)
 |not (a:IE)
 |bool (op:BoolOp) (es:fV)
 |ifx (t a b:IE)
 |lst (k:Ow) (es:fV)
 |tup (k:Ow) (es:fV)
 |dnew (t:Nat) (r:Ow)
 |ix (a b:IE)
 |sl (a:IE) (lo hi:IO)
 |stp (a:IE) (lo:IO) (st:IE)
 |isi (T:Str) (a:IE)
 |fld (f:Str) (a:IE)
 |fn (i:Nat) (es:fV)
 |blt (x:Str) (es:fV)
 |comp (r:Ow) (cap:List (Option Nat)) (tg:IT) (it:II) (ts:IO) (elt:IE)
inductive fV where
 |nil
 |cons (a:IE) (r:fV)
inductive IO where
 |non
 |som (a:IE)
inductive II where
 |e (a:IE)
 |rng (a b:IE)
 |enm (a:IE)
 |zp (a b:IE)
end
def CC(t:Nat)(r:Ow):Option KD:=QH (.fr (.own [] r),.dic t [] [])
mutual
def aa(U:Nat->Option Fn):IE->Ro->Option KD
 |.var i,Z=>eG i Z[i]?
 |.lit d,_=>QH (.sh,d)
 |.bin op a b,Z=>AY op (aa U a Z) (aa U b Z)
 |.cmp op a b,Z=>bV (nC op (aa U a Z) (aa U b Z))
 |.chain op op' a b d,Z=>bV (iY op op' (aa U a Z) (aa U b Z) (aa U d Z))
 |.not a,Z=>bV ((eI (aa U a Z)).map (!·))
 |.bool op es,Z=>lK U op es Z
 |.ifx t a b,Z=>JY (aK U t Z) (aa U a Z) (aa U b Z)
 |.lst k es,Z=>rc k (aW U es Z)
 |.tup k es,Z=>iZ k (aW U es Z)
 |.dnew t r,_=>CC t r
 |.ix a b,Z=>xE (aa U a Z) (aa U b Z)
 |.sl a lo hi,Z=>GH (aa U a Z) (eS U lo Z) (eS U hi Z)
 |.stp a lo st,Z=>xH (aa U a Z) (eS U lo Z) (aa U st Z)
 |.isi T a,Z=>vY T (aa U a Z)
 |.fld f a,Z=>A0 f (aa U a Z)
 |.fn i es,Z=>xP (U i) (aW U es Z)
 |.blt x es,Z=>rm x (aW U es Z)
 |.comp r cap tg it ts elt,Z=>mr r (fW U it Z) (dv tg (cK U ts) (aa U elt) (aJ Z cap))
def aK(U:Nat->Option Fn):IE->Ro->Option Bool
 |.cmp op a b,Z=>nC op (aa U a Z) (aa U b Z)
 |.chain op op' a b d,Z=>QI
 |.not a,Z=>(aK U a Z).map (!·)
 |.bool op es,Z=>f6 U op es Z
 |.var i,Z=>eI (eG i Z[i]?)
 |.ix a b,Z=>eI (xE (aa U a Z) (aa U b Z))
 |.isi T a,Z=>eI (vY T (aa U a Z))
 |.fn i es,Z=>eI (xP (U i) (aW U es Z))
 |.blt x es,Z=>eI (rm x (aW U es Z))
 |_,_=>QI
def cK(U:Nat->Option Fn):IO->Ro->Option Bool
 |.non,_=>QH QJ
 |.som a,Z=>aK U a Z
def aW(U:Nat->Option Fn):fV->Ro->Option (List KD)
 |.nil,_=>QH []
 |.cons a r,Z=>cy (aa U a Z) (aW U r Z)
def lK(U:Nat->Option Fn)(op:BoolOp):fV->Ro->Option KD
 |.nil,_=>QI
 |.cons a r,Z=>match r with
  |.nil=>aa U a Z
  |.cons _ _=>(match aa U a Z with
   |some (_,.bl x)=>if(op==.And)=x then lK U op r Z else QH (.sh,.bl x)
   |_=>QI)
def f6(U:Nat->Option Fn)(op:BoolOp):fV->Ro->Option Bool
 |.nil,_=>QI
 |.cons a r,Z=>match r with
  |.nil=>aK U a Z
  |.cons _ _=>(match aK U a Z with
   |some x=>if(op==.And)=x then f6 U op r Z else QH x
   |none=>QI)
def eS(U:Nat->Option Fn):IO->Ro->Option (Option Int)
 |.non,_=>QH QI
 |.som a,Z=>A4 (aa U a Z)
def fW(U:Nat->Option Fn):II->Ro->Option (List Nat×List D)
 |.e a,Z=>rq (aa U a Z)
 |.rng a b,Z=>rz (aa U a Z) (aa U b Z)
 |.enm a,Z=>vW (aa U a Z)
 |.zp a b,Z=>pb (aa U a Z) (aa U b Z)
end
section
theorem Be:aa U (.var i) Z=eG i Z[i]?:=rfl
theorem tQ:aa U (.lit d) Z=QH (.sh,d):=rfl
theorem Bf:aa U (.bin op a b) Z=AY op (aa U a Z) (aa U b Z):=rfl
theorem Bg:aa U (.cmp op a b) Z=bV (nC op (aa U a Z) (aa U b Z)):=rfl
theorem vZ:aa U (.chain op op' a b d) Z=bV (iY op op' (aa U a Z) (aa U b Z) (aa U d Z)):=rfl
theorem Bh:aa U (.not a) Z=bV ((eI (aa U a Z)).map (!·)):=rfl
theorem hR:aa U (.bool op es) Z=lK U op es Z:=rfl
theorem tR:aa U (.ifx t a b) Z=JY (aK U t Z) (aa U a Z) (aa U b Z):=rfl
theorem Bi:aa U (.lst k es) Z=rc k (aW U es Z):=rfl
theorem Bj:aa U (.tup k es) Z=iZ k (aW U es Z):=rfl
theorem xS:aa U (.ix a b) Z=xE (aa U a Z) (aa U b Z):=rfl
theorem EN:aa U (.sl a lo hi) Z=GH (aa U a Z) (eS U lo Z) (eS U hi Z):=rfl
theorem Bk:aa U (.stp a lo st) Z=xH (aa U a Z) (eS U lo Z) (aa U st Z):=rfl
theorem tT:aa U (.isi T a) Z=vY T (aa U a Z):=rfl
theorem Bl:aa U (.fld f a) Z=A0 f (aa U a Z):=rfl
theorem xT{U:Nat->Option Fn}:aa U (.fn i es) Z=xP (U i) (aW U es Z):=rfl
theorem tU:aa U (.blt x es) Z=rm x (aW U es Z):=rfl
theorem pi:aa U (.comp r cap tg it ts elt) Z=mr r (fW U it Z) (dv tg (cK U ts) (aa U elt) (aJ Z cap)):=rfl
theorem pj:aK U (.cmp op a b) Z=nC op (aa U a Z) (aa U b Z):=rfl
theorem xU:aK U (.not a) Z=(aK U a Z).map (!·):=rfl
theorem fI:aK U (.bool op es) Z=f6 U op es Z:=rfl
theorem xV:aK U (.var i) Z=eI (eG i Z[i]?):=rfl
theorem xW:aK U (.isi T a) Z=eI (vY T (aa U a Z)):=rfl
theorem Bm{U:Nat->Option Fn}:aK U (.fn i es) Z=eI (xP (U i) (aW U es Z)):=rfl
theorem xX:aK U (.blt x es) Z=eI (rm x (aW U es Z)):=rfl
end
structure Nms where
 fns:List Str
 cs:List (Str×D)
 an:Nat->Nat->Option Ow:=λ_ _=>QI
 md:Nat->Nat->Option Bool:=λ_ _=>QI
 io:Nat->Option (List Bool):=λ_=>QI
 vw:Nat->Nat->List Nat:=λ_ _=>[]
 cls:List (Str×List Str):=[]
def cL(fns:Nms)(U:Nat->Option Fn)(fm:Str->Option (Np->Sp)):Tab:=⟨λx=>(aZ x fns.fns).bind U,fm,λx=>fns.cs.lookup x,λx=>fns.cls.lookup x⟩
def dE(f:QN->Option IE):List QN->Option fV
 |[]=>QH .nil
 |e::es=>if ah e then(match f e,dE f es with|some a,QH r=>QH (.cons a r)|_,_=>QI) else QI
noncomputable def df(f:QN->Option IE):List QN->Option fV
 |[]=>QH .nil
 |e::es=>match f e,df f es with|some a,QH r=>QH (.cons a r)|_,_=>QI
def EO(c:Cz)(f:QN->Option IE)(tg iter:QN):Option II:=
 match iter with
 |.Call (.Name x _) [a] [] _=>
  if x="range" then(if iW c.sc "range" && ah a then(f a).map (.rng (.lit (.int 0))) else QI)
  else if x="enumerate" then(if iW c.sc "enumerate" && ah a&&mq tg then(f a).map .enm else QI)
  else(f iter).map .e
 |.Call (.Name x _) [a,b] [] _=>
  if x="range" then(if iW c.sc "range" && ah a&&ah b then(match f a,f b with|some a,QH b=>QH (.rng a b)|_,_=>QI) else QI)
  else if x="zip" then(if iW c.sc "zip" && ah a&&ah b&&mq tg then(match f a,f b with|some a,QH b=>QH (.zp a b)|_,_=>QI) else QI)
  else(f iter).map .e
 |_=>(f iter).map .e
noncomputable def Bn(f:QN->Option IE):Option QN->Option IO
 |none=>QH .non
 |some e=>(f e).map .som
noncomputable def rG(f:QN->Option IE):List QN->Option IO
 |[]=>QH .non
 |[e]=>(f e).map .som
 |_=>QI
def xY(fns:Nms)(c:Cz)(f:QN->Option IE)(x:Str)(es:List QN):Option IE:=
 if iW c.sc x&&es.all ah then(match dE f es with|some ies=>(match aZ x fns.fns with|some i=>(match fns.io i with|some _=>QI|none=>QH (.fn i ies))|none=>QH (.blt x ies))|none=>QI) else QI
noncomputable def EQ:IE->Bool
 |.var _|.ix ..|.isi ..|.fn ..|.blt ..=>QJ
 |_=>QL
def jG(o:Option IE):Option IE:=match o with|some ie=>if EQ ie then QH ie else QI|none=>QI
def Nms.kL(fns:Nms)(p:Pos):Ow:=(fns.an p.line p.col).getD bS
noncomputable def Nms.kT(fns:Nms)(p:Pos):Ow:=(fns.an p.line p.col).getD .fz
noncomputable def Iu:Const->Option IE
 |.int i=>QH (.lit (.int i))
 |.bool i=>QH (.lit (.bl i))
 |.none=>QH (.lit .non)
 |.str x=>QH (.lit (.str x))
 |_=>QI
noncomputable def rH(f:QN->Option IE)(a:QN)(ops:List Rc)(bs:List QN):Option IE:=match ops with
 |[]=>QI
 |op::ops=>match bs with
  |[]=>QI
  |b::bs=>match ops with
   |[]=>(match bs with
    |[]=>if Q9 op b then QI else match f a,f b with|some a,QH b=>QH (.cmp op a b)|_,_=>QI
    |_::_=>QI)
   |op'::ops=>match ops with
    |_::_=>QI
    |[]=>match bs with
     |[]=>QI
     |d::bs=>match bs with
      |_::_=>QI
      |[]=>if Q9 op' d then QI else match f a,f b,f d with|some a,QH b,QH d=>QH (.chain op op' a b d)|_,_,_=>QI
def ER(f:QN->Option IE)(a b:QN):Option IE:=match b with
 |.Slice lo hi st _=>(match st with
  |none=>(match f a,Bn f lo,Bn f hi with|some a,QH lo,QH hi=>QH (.sl a lo hi)|_,_,_=>QI)
  |some st=>(match hi with
   |some _=>QI
   |none=>(match f a,Bn f lo,f st with|some a,QH lo,QH b=>QH (.stp a lo b)|_,_,_=>QI)))
 |b=>if cR b then(match f a,f b with|some a,QH b=>QH (.ix a b)|_,_=>QI) else QI
def ES(c:Cz)(f:QN->Option IE)(q:List QN):Option IE:=match q with
 |[]=>QI
 |a::q=>match q with
  |[]=>QI
  |t::q=>match q with
   |_::_=>QI
   |[]=>match t with
    |.Name T _=>if iW c.sc "isinstance" && iW c.sc T&&ah a then(f a).map (.isi T) else QI
    |_=>QI
def GK(m:Str):List Str->Option Nat
 |[]=>QI
 |y::r=>if qz y=QJ/\mM y=m then QH 0 else(GK m r).map (·+1)
def ET(fns:Nms)(f:QN->Option IE)(o:QN)(m:Str)(ap:Pos)(q:List QN)(pos:Pos):Option IE:=match GK m fns.fns with
 |none=>QI
 |some i=>match q with
  |[]=>QI
  |a::es=>if d9 o=QJ/\ah a=QJ/\es.all ah=QJ/\(ap.endLine==pos.line)=QJ/\(a::es).length<30 then(match f o,dE f (a::es) with|some o,QH ies=>QH (.fn i (.cons o ies))|_,_=>QI) else QI
def Lp(fns:Nms)(c:Cz)(f:QN->Option IE)(g:QN)(q:List QN)(ks:List Keyword)(pos:Pos):Option IE:=match ks with
 |_::_=>QI
 |[]=>match g with
  |.Name x _=>if x="isinstance" then ES c f q else(match q with
   |[]=>QI
   |a::es=>xY fns c f x (a::es))
  |.Attribute o m ap=>ET fns f o m ap q pos
  |_=>QI
def Iv(fns:Nms)(c:Cz)(B O:Cz->QN->Option IE)(elt:QN)(q:List Comprehension)(scope:Q0)(p:Pos):Option IE:=match q with
 |[]=>QI
 |g::q=>match q with
  |_::_=>QI
  |[]=>if g.is_async=0 then(if de g.iter&&a7 c scope then(match nG ⟨fU scope c.sc,ac scope,gw scope⟩ 4 g.target,EO c (B c) g.target g.iter,rG (O ⟨fU scope c.sc,ac scope,gw scope⟩) g.ifs,B ⟨fU scope c.sc,ac scope,gw scope⟩ elt with
   |some t,QH it,QH ts,QH el=>QH (.comp ((fns.an p.line p.col).getD .fz) (au c scope) t it ts el)|_,_,_,_=>QI) else QI) else QI
noncomputable def Nd:Ow->Nat
 |.fz=>1
 |.own es _=>if es.length=0 then 1 else es.length
noncomputable def Nf:Ow->Ow
 |.fz=>.fz
 |.own _ r=>r
mutual
def cE(fns:Nms):Nat->Cz->QN->Option IE
 |0,_,_=>QI
 |n+1,c,e=>match e with
  |.Name x p=>if iW c.sc x then(fns.cs.lookup x).map .lit else(match fns.md p.line p.col with|none=>(fR c x).map .var|some _=>QI)
  |.Constant v _ _=>Iu v
  |.BinOp a op b _=>match cE fns n c a,cE fns n c b with|some a,QH b=>QH (.bin op a b)|_,_=>QI
  |.Compare a ops bs _=>rH (cE fns n c) a ops bs
  |.UnaryOp op a _=>(match op with|.Not=>(cE fns n c a).map .not|_=>QI)
  |.BoolOp op es _=>(df (cE fns n c) es).map (.bool op)
  |.IfExp t a b _=>match cT fns n c t,cE fns n c a,cE fns n c b with|some t,QH a,QH b=>QH (.ifx t a b)|_,_,_=>QI
  |.List es p=>(dE (cE fns n c) es).map (.lst (fns.kL p))
  |.Tuple es _ p=>(dE (cE fns n c) es).map (.tup (fns.kT p))
  |.Dict ks vs p=>(match ks with|[]=>(match vs with|[]=>QH (match fns.an p.line p.col with|some k=>.dnew (Nd k) (Nf k)|none=>.dnew 0 .fz)|_::_=>QI)|_::_=>QI)
  |.Subscript a b _=>ER (cE fns n c) a b
  |.Attribute a f _=>if d9 a then(cE fns n c a).map (.fld f) else QI
  |.Call g as ks pos=>Lp fns c (cE fns n c) g as ks pos
  |.ListComp elt gs scope p=>Iv fns c (cE fns n) (cT fns n) elt gs scope p
  |_=>QI
def cT(fns:Nms):Nat->Cz->QN->Option IE
 |0,_,_=>QI
 |n+1,c,e=>match e with
  |.Compare a ops bs _=>rH (cE fns n c) a ops bs
  |.UnaryOp op a _=>(match op with|.Not=>(cT fns n c a).map .not|_=>QI)
  |.BoolOp op es _=>(df (cT fns n c) es).map (.bool op)
  |.Name x p=>jG (cE fns n c (.Name x p))
  |.Call f as ks p=>jG (cE fns n c (.Call f as ks p))
  |.Subscript a b p=>jG (cE fns n c (.Subscript a b p))
  |_=>QI
end
theorem Lq{f:Ro->Option Bool}(h:∀Z,f Z=QI):SndT X f e:=λZ b a=>by rw[h] at a;cases a
theorem bx{α β:Type}{o:Option α}{g:α->β}{b:β}(h:o.map g=QH b):∃a,o=QH a/\b=g a:=by
 cases o with
 |none=>cases h
 |some a=>cases h;show⟨a,rfl,rfl⟩
theorem nH(h:EQ ie=QJ):aK U ie=λZ=>eI (aa U ie Z):=by
 funext Z
 cases ie with
 |var i=>rfl
 |ix a b=>rfl
 |isi T a=>rfl
 |fn i c=>rfl
 |blt x c=>rfl
 |_=>cases h
theorem nI(d:D):aa U (.lit d)=λ_=>QH (.sh,d):=by
 show funext λ_=>rfl
theorem kR(h:jG o=QH ie):o=QH ie/\EQ ie=QJ:=by
 unfold jG at h;split at h
 ·split at h
  ·ext hk;cases h;show⟨rfl,hk⟩
  ·cases h
 ·cases h
section
variable {X:Cx} {c:Cz} (fns:Nms) (U:Nat->Option Fn) {fm:Str->Option (Np->Sp)}
theorem EU:SndE X (λ_=>CC t r) (.Dict [] [] pos):=by
 intro Z c d h g Y H Q f q;cases(show QH (Kd.fr (.own [] r),D.dic t [] [])=QH (c,d) from h)
 let b:∀{p:QO} {o:HO},H p=QI->cP X.K o (.dic t []) []->VR X.K g H (upd H p o) (.fr (.own [] r)) (.dic t [] []) (.ref p):=λ{p o} a e=>
  VRs.node (kds:=[]) (es:=[]) (r:=r) (vs:=[]) (hd:=.dic t []) rfl f.mu (Same.refl H) .nil a e rfl
 cases t with
 |zero=>show am xq λp a=>q _ _ (ag a) (b a (.inl ⟨rfl,[],rfl,rfl,rfl⟩))
 |succ m=>show am (xr (m:=m)) λp a=>q _ _ (ag a) (b a (.inr ⟨m,rfl,[],0,rfl,rfl,rfl⟩))
theorem fJ{f:QN->Option IE}(g:∀e c,f e=QH c->SndE X (aa U c) e):∀{es:List QN} {b:fV},dE f es=QH b->kJ X (aW U b) es/\es.all ah=QJ
 |[],b,h=>by
  cases h;show⟨?_,rfl⟩;have:aW U .nil=λ_=>QH []:=by funext Z;rw[aW]
  rw[this];show jY
 |e::es,b,h=>by
  unfold dE at h;split at h
  ·ext d;split at h
   ·ext a r k l;cases h;obtain⟨j,i⟩:=fJ g l;show⟨?_,by rw[Oz,d,i];rfl⟩;have:aW U (.cons a r)=λZ=>cy (aa U a Z) (aW U r Z):=by funext Z;rw[aW]
    rw[this];show fG d (g e a k) j
   ·cases h
  ·cases h
theorem tV{f:QN->Option IE}(n:∀e A,f e=QH A->SndE X (aa U A) e)(op:BoolOp)(pos:Pos):∀{es:List QN} {c:fV},df f es=QH c->SndE X (lK U op c) (.BoolOp op es pos)
 |[],c,h=>by cases h;intro Z k d h;unfold lK at h;cases h
 |[a],c,h=>by
  unfold df df at h;split at h
  ·ext o r m l;cases h;cases l;intro Z k d h g Y H Q i q;unfold lK at h;show am (DO aq) (n a o m Z k d h g Y H Q i q)
  ·cases h
 |a::b::es,c,h=>by
  unfold df at h;split at h
  ·ext o r m l;cases h;let rest:=tV n op pos l
   let w:∃z B,r=.cons z B:=by
    unfold df at l;split at l
    ·cases l;show⟨_,_,rfl⟩
    ·cases l
   obtain⟨z,B,rfl⟩:=w;intro Z k d h g Y H Q i q;unfold lK at h;dsimp only at h;split at h
   ·ext C x s;split at h
    ·ext p
     cases op with
     |And=>
      show am (wP aq aq) (n a o m Z _ _ s g Y H _ i λv j s1 r=>⟨x,r.rd.bl,?_⟩);have:x=QJ:=by rw[<- p];rfl
      rw[if_pos this];show rest Z k d h g Y j Q (i.same s1) λy t s2 u=>q y t (s1.trans s2) (u.older s1)
     |Or=>
      show am (Co aq aq) (n a o m Z _ _ s g Y H _ i λv j s1 r=>⟨x,r.rd.bl,?_⟩);have:x=QL:=by rw[<- p];rfl
      rw[if_neg (by rw[this];decide)];show rest Z k d h g Y j Q (i.same s1) λy t s2 u=>q y t (s1.trans s2) (u.older s1)
    ·ext p;cases h
     cases op with
     |And=>
      show am (wP aq aq) (n a o m Z _ _ s g Y H _ i λv j s1 r=>⟨x,r.rd.bl,?_⟩)
      have:x=QL:=by cases x with|true=>show absurd rfl p|false=>rfl
      subst this;rw[if_neg (by decide)];show q _ j s1 Cv
     |Or=>
      show am (Co aq aq) (n a o m Z _ _ s g Y H _ i λv j s1 r=>⟨x,r.rd.bl,?_⟩)
      have:x=QJ:=by cases x with|false=>show absurd rfl p|true=>rfl
      subst this;rw[if_pos rfl];show q _ j s1 Cv
   ·cases h
  ·cases h
theorem tW{f:QN->Option IE}(l:∀e u,f e=QH u->SndT X (aK U u) e)(op:BoolOp)(pos:Pos):∀{es:List QN} {c:fV},df f es=QH c->∀Z r,f6 U op c Z=QH r->∀g Y H Q,SE X.K g Z Y H->(∀H',Same H H'->Q r H')->wW X (.BoolOp op es pos) Y H Q
 |[],c,h,Z,r,d,g,Y,H,Q,se,q=>by cases h;unfold f6 at d;cases d
 |[a],c,h,Z,r,hb,g,Y,H,Q,se,q=>by
  unfold df df at h;split at h
  ·ext j p k d;cases h;cases d;unfold f6 at hb;let v:=l a j k Z r hb g Y H Q se q
   cases op with
   |And=>show mi (Ak iQ) v
   |Or=>show mi (DM iQ) v
  ·cases h
 |a::b::es,c,h,Z,r,hb,g,Y,H,Q,se,q=>by
  unfold df at h;split at h
  ·ext j w k d;cases h;let rest:=tW l op pos d Z r
   let o:∃t p,w=.cons t p:=by
    unfold df at d;split at d
    ·cases d;show⟨_,_,rfl⟩
    ·cases d
   obtain⟨t,p,rfl⟩:=o;unfold f6 at hb;dsimp only at hb;split at hb
   ·ext x n;split at hb
    ·ext m
     cases op with
     |And=>
      show mi (wN iQ AR) (l a j k Z x n g Y H _ se λi s1=>?_);have:x=QJ:=by rw[<- m];rfl
      rw[if_pos this];show rest hb g Y i Q (se.same s1) λs s2=>q s (s1.trans s2)
     |Or=>
      show mi (Cm iQ AR) (l a j k Z x n g Y H _ se λi s1=>?_);have:x=QL:=by rw[<- m];rfl
      rw[if_neg (by rw[this];decide)];show rest hb g Y i Q (se.same s1) λs s2=>q s (s1.trans s2)
    ·ext m;cases hb
     cases op with
     |And=>
      show mi (wN iQ AR) (l a j k Z r n g Y H _ se λi s1=>?_)
      have:r=QL:=by cases r with|true=>show absurd rfl m|false=>rfl
      subst this;rw[if_neg (by decide)];show q i s1
     |Or=>
      show mi (Cm iQ AR) (l a j k Z r n g Y H _ se λi s1=>?_)
      have:r=QJ:=by cases r with|false=>show absurd rfl m|true=>rfl
      subst this;rw[if_pos rfl];show q i s1
   ·cases hb
  ·cases h
theorem Bo(O:ao X (cL fns U fm) c){f:QN->Option IE}(m:∀e g,f e=QH g->SndE X (aa U g) e){g:IE}(h:xY fns c f x (a::es)=QH g):SndE X (aa U g) (.Call (.Name x p) (a::es) [] pos):=by
 unfold xY at h;split at h
 ·ext d;rw[Nr,Oz,Nr] at d;split at h
  ·ext b l;let j:=(fJ U m l).1;split at h
   ·ext i k;split at h
    ·cases h
    cases h
    let e:aa U (.fn i b)=λZ=>xP ((cL fns U fm).fn x) (aW U b Z):=by
     funext Z;change xP (U i) (aW U b Z)=_;unfold cL;dsimp only;rw[k];rfl
    rw[e];show Ln O j d.1 d.2.1 d.2.2
   ·cases h;show Ii O j d.1 d.2.1 d.2.2
  ·cases h
 ·cases h
theorem tX(O:ao X (cL fns U fm) c){f:QN->Option IE}(j:∀e o,f e=QH o->SndE X (aa U o) e)(h:EO c f tg iter=QH it):SndI X (fW U it) tg iter:=by
 let i:∀{it:II},(f iter).map .e=QH it->SndI X (fW U it) tg iter:=λh=>by
  obtain⟨a,g,rfl⟩:=bx h;show Ik (j _ _ g)
 unfold EO at h;split at h
 ·ext x p a m;split at h
  ·ext k;subst k;split at h
   ·ext d;rw[Nr] at d;obtain⟨l,g,rfl⟩:=bx h;show EH O d.1 d.2 (j _ _ g)
   ·cases h
  ·split at h
   ·ext k;subst k;split at h
    ·ext d;simp only[Nr] at d;obtain⟨l,g,rfl⟩:=bx h;show Il O d.1.1 d.1.2 d.2 (j _ _ g)
    ·cases h
   ·show i h
 ·ext x p a b m;split at h
  ·ext k;subst k;split at h
   ·ext d;simp only[Nr] at d;split at h
    ·ext l q g n;cases h;show EI O d.1.1 d.1.2 d.2 (j _ _ g) (j _ _ n)
    ·cases h
   ·cases h
  ·split at h
   ·ext k;subst k;split at h
    ·ext d;simp only[Nr] at d;split at h
     ·ext l q g n;cases h;show Im O d.1.1.1 d.1.1.2 d.1.2 d.2 (j _ _ g) (j _ _ n)
     ·cases h
    ·cases h
   ·show i h
 ·show i h
theorem EV(h:Iu v=QH ie):SndE X (aa U ie) (.Constant v k pos):=by
 cases v with
 |int i=>cases h;rw[nI];show HP _ _ _
 |bool i=>cases h;rw[nI];show Lf _ _ _
 |none=>cases h;rw[nI];show HQ _ _
 |str i=>cases h;rw[nI];show HR _ _ _
 |_=>cases h
theorem tY{f:QN->Option IE}(h:rH f a ops bs=QH ie):(∃op b g e,ops=[op]/\bs=[b]/\Q9 op b=QL/\f a=QH g/\f b=QH e/\ie=.cmp op g e)\/(∃op c b d g e d',ops=[op,c]/\bs=[b,d]/\Q9 c d=QL/\f a=QH g/\f b=QH e/\f d=QH d'/\ie=.chain op c g e d'):=by
 cases ops with
 |nil=>cases h
 |cons op ops=>cases bs with
  |nil=>cases h
  |cons b bs=>cases ops with
   |nil=>cases bs with
    |cons _ _=>cases h
    |nil=>
     dsimp only[rH] at h;split at h
     ·cases h
     ·ext k;split at h
      ·ext g e i j;cases h;show .inl ⟨op,b,g,e,rfl,rfl,by simpa using k,i,j,rfl⟩
      ·cases h
   |cons c ops=>cases ops with
    |cons _ _=>cases h
    |nil=>cases bs with
     |nil=>cases h
     |cons d bs=>cases bs with
      |cons _ _=>cases h
      |nil=>
       dsimp only[rH] at h;split at h
       ·cases h
       ·ext k;split at h
        ·ext g e d' i j l;cases h;show .inr ⟨op,c,b,d,g,e,d',rfl,rfl,by simpa using k,i,j,l,rfl⟩
        ·cases h
theorem xZ{f:QN->Option IE}(d:∀e b,f e=QH b->SndE X (aa U b) e)(h:Bn f o=QH io):vU X (eS U io) o:=by
 cases o with
 |none=>
  cases h;let e:eS U .non=λ_=>QH QI:=by funext Z;rw[eS]
  rw[e];show Ey
 |some e=>
  obtain⟨a,c,rfl⟩:=bx h;let e:eS U (.som a)=λZ=>A4 (aa U a Z):=by funext Z;rw[eS]
  rw[e];show Ez (d _ _ c)
theorem tZ{f:QN->Option IE}(d:∀e b,f e=QH b->SndT X (aK U b) e)(h:rG f o=QH io):jF X (cK U io) o:=by
 unfold rG at h;split at h
 ·cases h;let e:cK U .non=λ_=>QH QJ:=by funext Z;rw[cK]
  rw[e];show CB
 ·obtain⟨a,c,rfl⟩:=bx h;let e:cK U (.som a)=aK U a:=by funext Z;rw[cK]
  rw[e];show Ir (d _ _ c)
 ·cases h
theorem EW(O:ao X (cL fns U fm) c){f:QN->Option IE}(d:∀e j,f e=QH j->SndE X (aa U j) e){j:IE}(h:ER f a b=QH j):SndE X (aa U j) (.Subscript a b pos):=by
 unfold ER at h;split at h
 ·ext lo t n p
  cases n with
  |none=>
   dsimp only at h;split at h
   ·ext o m s i g l;cases h;show Lj (d _ _ i) (xZ U d g) (xZ U d l)
   ·cases h
  |some n=>cases t with
   |some _=>cases h
   |none=>
    dsimp only at h;split at h
    ·ext o m r i g k;cases h;show Ia (d _ _ i) (xZ U d g) (d _ _ k)
    ·cases h
 ·split at h
  ·ext q;split at h
   ·ext o r i k;cases h;show Li O (d _ _ i) (d _ _ k) q
   ·cases h
  ·cases h
theorem EX(O:ao X (cL fns U fm) c){f:QN->Option IE}(i:∀e b,f e=QH b->SndE X (aa U b) e){b:IE}(h:ES c f as=QH b):SndE X (aa U b) (.Call (.Name "isinstance" p) as [] pos):=by
 cases as with
 |nil=>cases h
 |cons a as=>cases as with
  |nil=>cases h
  |cons t as=>cases as with
   |cons _ _=>cases h
   |nil=>
    dsimp only[ES] at h;split at h
    ·split at h
     ·ext d;simp only[Nr] at d;obtain⟨j,g,rfl⟩:=bx h;show Iq O d.1.1 d.1.2 d.2 (i _ _ g)
     ·cases h
    ·cases h
theorem ya:∀{l:List Str} {i:Nat},GK m l=QH i->∃y,qz y=QJ/\mM y=m/\aZ y l=QH i
 |[],_,h=>by cases h
 |y::r,i,h=>by
  unfold GK at h;split at h
  ·ext e;cases h;show⟨y,e.1,e.2,by unfold aZ;rw[if_pos rfl]⟩
  ·ext a
   cases q:GK m r with
   |none=>rw[q] at h;cases h
   |some j=>
    rw[q] at h;cases h;obtain⟨z,e1,e2,e3⟩:=ya q;show⟨z,e1,e2,?_⟩;unfold aZ;rw[if_neg (λe:z=y=>a (e▸⟨e1,e2⟩)),e3];rfl
theorem EY(O:ao X (cL fns U fm) c){f:QN->Option IE}(k:∀e b,f e=QH b->SndE X (aa U b) e){b:IE}(h:ET fns f o m ap as pos=QH b):SndE X (aa U b) (.Call (.Attribute o m ap) as [] pos):=by
 unfold ET at h
 cases j:GK m fns.fns with
 |none=>rw[j] at h;cases h
 |some i=>
  rw[j] at h
  cases as with
  |nil=>cases h
  |cons a s=>
   dsimp only at h;split at h
   ·ext v;obtain⟨q,r,t,l,u⟩:=v
    cases d:f o with
    |none=>rw[d] at h;cases h
    |some n=>
     cases g:dE f (a::s) with
     |none=>rw[d,g] at h;cases h
     |some p=>
      rw[d,g] at h;cases h;obtain⟨y,e1,rfl,e3⟩:=ya j;have:=Cy O (ap:=ap) (pos:=pos) e1 (k o n d) (fJ U k g).1 q l r t u;rw[show(cL fns U fm).fn y=U i from by change(aZ y fns.fns).bind U=_;rw[e3];rfl] at this;show this
   ·cases h
theorem Iw(O:ao X (cL fns U fm) c){f:QN->Option IE}(d:∀e b,f e=QH b->SndE X (aa U b) e){b:IE}(h:Lp fns c f g as ks pos=QH b):SndE X (aa U b) (.Call g as ks pos):=by
 cases ks with
 |cons _ _=>cases h
 |nil=>
  dsimp only[Lp] at h;split at h
  ·split at h
   ·ext i;subst i;show EX fns U O d h
   ·cases as with
    |cons a j=>show Bo fns U O d h
    |nil=>cases h
  ·show EY fns U O d h
  ·cases h
theorem Ix(O:ao X (cL fns U fm) c){q r:Cz->QN->Option IE}(b:∀X c,ao X (cL fns U fm) c->∀e a,q c e=QH a->SndE X (aa U a) e)(i:∀X c,ao X (cL fns U fm) c->∀e a,r c e=QH a->SndT X (aK U a) e){a:IE}(h:Iv fns c q r elt gs scope pos=QH a):SndE X (aa U a) (.ListComp elt gs scope pos):=by
 cases gs with
 |nil=>cases h
 |cons g gs=>cases gs with
  |cons _ _=>cases h
  |nil=>
   dsimp only[Iv] at h;split at h
   ·ext w;split at h
    ·ext d;rw[Nr] at d;split at h
     ·ext t it o m v k f j;cases h;rw[show aa U (.comp _ (au c _) t it o m)=λZ=>mr _ (fW U it Z) (dv t (cK U o) (aa U m) (aJ Z (au c _))) from funext λ_=>rfl];let n:=cW O d.2
      cases g with
      |mk y p u x=>
       subst w;show EM O d.2 d.1 (tX fns U O (b X c O) k) v (λC s H l=>tZ U (i _ _ (n C s H l)) f) (λC s H l=>b _ _ (n C s H l) _ _ j)
     ·cases h
    ·cases h
   ·cases h
end
section
variable (fns:Nms) (U:Nat->Option Fn) {fm:Str->Option (Np->Sp)}
theorem cz:∀n:Nat,(∀X c,ao X (cL fns U fm) c->∀e m,cE fns n c e=QH m->SndE X (aa U m) e)/\(∀X c,ao X (cL fns U fm) c->∀e m,cT fns n c e=QH m->SndT X (aK U m) e)
 |0=>⟨λX c O e m h=>by (cases(show(QI:Option IE)=QH m from h)),λX c O e m h=>by (cases(show(QI:Option IE)=QH m from h))⟩
 |n+1=>by
  obtain⟨z,C⟩:=cz n;show⟨λX c O e m h=>?_,λX c O e m h=>?_⟩
  ·let o:=z X c O;let N:=C X c O
   cases e with
   |Name x p=>
    dsimp only[cE] at h;split at h
    ·ext W;obtain⟨d,M,rfl⟩:=bx h;let e:aa U (.lit d)=λ_=>QH (.sh,d):=by show funext λ_=>rfl
     rw[e];show HS O W M p
    ·split at h
     ·obtain⟨i,hi,rfl⟩:=bx h;let e:aa U (.var i)=λZ=>eG i Z[i]?:=by show funext λ_=>rfl
      rw[e];show g6 O hi p
     ·cases h
   |Constant v k j=>show EV U h
   |BinOp a w b j=>
    dsimp only[cE] at h;split at h
    ·ext u E l y;cases h;show HU (o _ _ l) (o _ _ y)
    ·cases h
   |Compare a B P j=>
    rcases tY (show rH (cE fns n c) a B P=QH m from h) with⟨w,b,u,E,rfl,rfl,D,l,y,rfl⟩|⟨w,R,b,d,u,E,d',rfl,rfl,D,l,y,M,rfl⟩
    ·show HV O D (o _ _ l) (o _ _ y)
    ·show AZ O D (o _ _ l) (o _ _ y) (o _ _ M)
   |UnaryOp w a j=>cases w with
    |Not=>
     obtain⟨u,l,rfl⟩:=bx (show(cE fns n c a).map .not=QH m from h);show HW (o _ _ l)
    |_=>cases h
   |BoolOp w A j=>
    obtain⟨u,l,rfl⟩:=bx (show(df (cE fns n c) A).map (.bool w)=QH m from h);show tV U o _ _ l
   |IfExp t a b j=>
    dsimp only[cE] at h;split at h
    ·ext t' u E ht l y;cases h;show Lg (N _ _ ht) (o _ _ l) (o _ _ y)
    ·cases h
   |List A p=>
    obtain⟨u,l,rfl⟩:=bx (show(dE (cE fns n c) A).map (.lst (fns.kL p))=QH m from h);show HX (fJ U o l).1
   |Tuple A k p=>
    obtain⟨u,l,rfl⟩:=bx (show(dE (cE fns n c) A).map (.tup (fns.kT p))=QH m from h);show HY (fJ U o l).1
   |Dict T vs p=>cases T with
    |cons _ _=>cases h
    |nil=>cases vs with
     |cons _ _=>cases h
     |nil=>
      let V:∀t r,SndE X (aa U (.dnew t r)) (.Dict [] [] p):=λt r=>by
       show EU
      dsimp only[cE] at h;cases h
      split<;>show V _ _
   |Subscript a b j=>show EW fns U O o h
   |Attribute a f j=>
    dsimp only[cE] at h;split at h
    ·ext y;obtain⟨u,l,rfl⟩:=bx h;show HZ (dD y) (o _ _ l)
    ·cases h
   |Call g as T j=>show Iw fns U O o h
   |ListComp hc gs S j=>show Ix fns U O z C h
   |_=>cases h
  ·let o:=z X c O;let N:=C X c O
   cases e with
   |Compare a B P j=>
    rcases tY (show rH (cE fns n c) a B P=QH m from h) with⟨w,b,u,E,rfl,rfl,D,l,y,rfl⟩|⟨w,R,b,d,u,E,d',rfl,rfl,D,l,y,M,rfl⟩
    ·show cb O D (o _ _ l) (o _ _ y)
    ·show Lq λ_=>rfl
   |UnaryOp w a j=>cases w with
    |Not=>
     obtain⟨u,l,rfl⟩:=bx (show(cT fns n c a).map .not=QH m from h);show c9 (N _ _ l)
    |_=>cases h
   |BoolOp w A j=>
    obtain⟨u,l,rfl⟩:=bx (show(df (cT fns n c) A).map (.bool w)=QH m from h);show λZ b h g Y H Q se q=>λL s I=>tW U N _ _ l Z b h g Y H Q se q _ L s I
   |Name x p=>
    obtain⟨F,K⟩:=kR (show jG (cE fns n c _)=QH m from h);rw[nH K];show xD (o _ _ F) (λ_=>rfl)
   |Call g as T p=>
    obtain⟨F,K⟩:=kR (show jG (cE fns n c _)=QH m from h);rw[nH K];show xD (o _ _ F) (λ_=>rfl)
   |Subscript a b p=>
    obtain⟨F,K⟩:=kR (show jG (cE fns n c _)=QH m from h);rw[nH K];show xD (o _ _ F) (λ_=>rfl)
   |_=>cases h
end
structure Evo(g:Gh)(H:Hp)(g':Gh)(H':Hp)(F:Pr):Prop where
 keep:∀b o,(∀i,g b≠QH (QH i))->H b=QH o->H' b=QH o
 out:∀b,g b=QH QI↔g' b=QH QI
 new:∀b i,g' b=QH (QH i)->(∃j,g b=QH (QH j))\/H b=QI
 tmp:∀b,F b->g' b=QI/\((∃j,g b=QH (QH j))\/H b=QI)
 dom:∀b o,H b=QH o->∃o',H' b=QH o'
section
variable {K:Np} {H H' H1 H2:Hp} {g g' g1 g2:Gh} {F F1 F2:Pr}
theorem Evo.refl(g:Gh)(H:Hp):Evo g H g H (λ_=>False):=⟨λ_ _ _ e=>e,λ_=>Iff.rfl,λb i e=>.inl ⟨i,e⟩,λ_ z=>z.elim,λ_ o e=>⟨o,e⟩⟩
theorem Evo.froz(e:Evo g H g' H' F)(h:H b=QH o)(n:g b=QI):g' b=QI/\¬F b:=by
 show⟨?_,λz=>?_⟩
 ·cases q:g' b with
  |none=>rfl
  |some x=>
   cases x with
   |none=>have:=(e.out b).mpr q;rw[n] at this;cases this
   |some i=>
    rcases e.new b i q with⟨j,q⟩|q
    ·rw[n] at q;cases q
    ·rw[h] at q;cases q
 ·rcases(e.tmp b z).2 with⟨j,q⟩|q
  ·rw[n] at q;cases q
  ·rw[h] at q;cases q
open Classical in
noncomputable def Gh.minus(g:Gh)(F:Pr):Gh:=λb=>if F b then QI else g b
theorem hUq(h:F b):g.minus F b=QI:=by unfold Gh.minus;rw[if_pos h]
theorem bI(h:¬F b):g.minus F b=g b:=by unfold Gh.minus;rw[if_neg h]
theorem kU(h:g.minus F b=QH x):g b=QH x/\¬F b:=by
 unfold Gh.minus at h;split at h
 ·cases h
 ·ext n;show⟨h,n⟩
theorem bT(h:¬F b):g.plus F b=g b:=by unfold Gh.plus;rw[if_neg h]
theorem Evo.trans(a:Evo g H g1 H1 F1)(b:Evo (g1.plus F1) H1 g2 H2 F2):Evo g H (g2.minus F1) H2 (λb=>F1 b\/F2 b):=by
 let f:∀c,¬F1 c->∀j,(g1.plus F1) c=QH (QH j)->(∃k,g c=QH (QH k))\/H c=QI:=λc n j e=>by
  rw[bT n] at e;show a.new c j e
 let p:∀c,H1 c=QI->H c=QI:=λc q=>by
  cases e:H c with
  |none=>rfl
  |some o=>obtain⟨v,m⟩:=a.dom c o e;rw[q] at m;cases m
 show⟨λc o n e=>?_,λc=>⟨λq=>?_,λq=>?_⟩,λc i q=>?_,λc z=>?_,λc o e=>?_⟩
 ·show b.keep c o (λi q=>?_) (a.keep c o n e);let s:=bJ q;rcases a.new c i s with⟨j,q⟩|q
  ·show n j q
  ·rw[e] at q;cases q
 ·let d:¬F1 c:=λz=>by
   have:=(a.tmp c z).1;rw[(a.out c).mp q] at this;cases this
  rw[bI d];show(b.out c).mp (by rw[bT d];show(a.out c).mp q)
 ·obtain⟨l,d⟩:=kU q;have:=(b.out c).mpr l;rw[bT d] at this;show(a.out c).mpr this
 ·obtain⟨l,d⟩:=kU q;rcases b.new c i l with⟨j,q⟩|q
  ·show f c d j q
  ·show .inr (p c q)
 ·rcases z with z|z
  ·show⟨hUq z,(a.tmp c z).2⟩
  ·obtain⟨t,u⟩:=b.tmp c z;by_cases h:F1 c
   ·show⟨hUq h,(a.tmp c h).2⟩
   ·show⟨by rw[bI h];show t,?_⟩;rcases u with⟨j,q⟩|q
    ·show f c h j q
    ·show .inr (p c q)
 ·obtain⟨r,e1⟩:=a.dom c o e;show b.dom c r e1
theorem VR1.evo(m:bw kd=QL)(b:Evo (g1.plus F1) H1 g2 H2 F2)(h:VR1 K H1 g1 F1 kd d v F1):VR1 K H2 (g2.minus F1) (λc=>F1 c\/F2 c) kd d v F1:=by
 let g:∀c o,(¬Sx g1 F1 c\/F1 c)->H1 c=QH o->H2 c=QH o:=λc o n e=>by
  show b.keep c o (λi q=>?_) e;rcases n with n|n
  ·show n (.inl (by rw[bJ q];simp))
  ·rw[aS n] at q;cases q
 let f:∀c o,H1 c=QH o->¬Sx g1 F1 c->¬Sx (g2.minus F1) (λc=>F1 c\/F2 c) c:=λc o e n z=>by
  let a:¬F1 c:=λz=>n (.inr z)
  let l:(g1.plus F1) c=QI:=by
   rw[bT a]
   cases q:g1 c with
   |none=>rfl
   |some x=>show absurd (.inl (by rw[q];simp)) n
  obtain⟨j,f2⟩:=b.froz e l;rcases z with z|z|z
  ·rw[bI a] at z;show z j
  ·show a z
  ·show f2 z
 cases kd with
 |sh=>show⟨h.1,h.2.go λc o n e=>⟨g c o (.inl n) e,f c o e n⟩⟩
 |fr k=>show Tr.go g f h
 |bo i k=>cases m
theorem EZ(b:Evo (g1.plus F1) H1 g2 H2 F2)(c:QO):Sx (g2.minus F1) (λc=>F1 c\/F2 c) c↔Sx g2 F2 c:=by
 by_cases h:F1 c
 ·have:g2 c=QH QI:=(b.out c).mp (aS h);show⟨λ_=>.inl (by rw[this];simp),λ_=>.inr (.inl h)⟩
 ·show⟨λz=>z.elim (λz=>.inl (by rw[bI h] at z;show z)) λz=>z.elim (λz=>absurd z h) .inr,λz=>z.elim (λz=>.inl (by rw[bI h];show z)) λz=>.inr (.inr z)⟩
theorem hV(b:Evo (g1.plus F1) H1 g2 H2 F2):(g2.minus F1).plus (λc=>F1 c\/F2 c)=g2.plus F2:=by
 funext c;by_cases a:F2 c
 ·rw[aS a,aS (.inr a)]
 ·by_cases h:F1 c
  ·rw[aS (.inl h),bT a];show((b.out c).mp (aS h)).symm
  ·rw[bT a,bT (λz=>z.elim h a),bI h]
theorem VR1.evoR(b:Evo (g1.plus F1) H1 g2 H2 F2)(h:VR1 K H2 g2 F2 kd d v F):VR1 K H2 (g2.minus F1) (λc=>F1 c\/F2 c) kd d v F:=by
 let a:∀c o,H2 c=QH o->¬Sx g2 F2 c->¬Sx (g2.minus F1) (λc=>F1 c\/F2 c) c:=λc o _ n z=>n ((EZ b c).mp z)
 cases kd with
 |sh=>show⟨h.1,h.2.go λc o n e=>⟨e,a c o e n⟩⟩
 |fr k=>show Tr.go (λ_ _ _ e=>e) a h
 |bo i k=>
  obtain⟨g,l,f,j⟩:=h;show⟨g,l,λc z=>?_,Tr.go (λ_ _ _ e=>e) a j⟩;rw[bI (λm=>?_)]
  ·show f c z
  ·have:=f c z;rw[(b.out c).mp (aS m)] at this;cases this
theorem VRL.evoR(b:Evo (g1.plus F1) H1 g2 H2 F2):∀{kds:List KD} {vs:List V} {F:Pr},VRL K H2 g2 F2 kds vs F->VRL K H2 (g2.minus F1) (λc=>F1 c\/F2 c) kds vs F
 |[],_,_,h=>h
 |(kd,d)::r,_,_,h=>by
  obtain⟨y,a,g,j,e,l,i,k,f⟩:=h;show⟨y,a,g,j,e,l,i,k.evoR b,VRL.evoR b f⟩
theorem pq(h:bw kd=QL)(a:Evo g H g1 H1 F1)(f:VR1 K H1 g1 F1 kd d v F1)(b:Evo (g1.plus F1) H1 g2 H2 F2)(i:SE K (g2.plus F2) Z2 Y H2)(j:VRL K H2 g2 F2 kds vs F2) :
  Evo g H (g2.minus F1) H2 (λc=>F1 c\/F2 c)/\SE K ((g2.minus F1).plus (λc=>F1 c\/F2 c)) Z2 Y H2/\VRL K H2 (g2.minus F1) (λc=>F1 c\/F2 c) ((kd,d)::kds) (v::vs) (λc=>F1 c\/F2 c):=by
 show⟨a.trans b,by rw[hV b];show i,v,vs,F1,F2,rfl,λc=>Iff.rfl,λc k e=>?_,f.evo h b,j.evoR b⟩;have:=(b.out c).mp (aS k);rw[(b.tmp c e).1] at this;cases this
end
abbrev MR:=Option (Kd×D×Ro)
def bz(X:Cx)(f:Ro->MR)(e:QN):Prop:=∀Z q d Z',f Z=QH (q,d,Z')->∀g Y H Q,SE X.K g Z Y H->
 (∀v g' H' F,Evo g H g' H' F->SE X.K (g'.plus F) Z' Y H'->VR1 X.K H' g' F q d v F->Q v H')->wE X e Y H Q
def pt(X:Cx)(f:Ro->Option (List KD×Ro))(es:List QN):Prop:=∀Z kds Z',f Z=QH (kds,Z')->∀g Y H Q,SE X.K g Z Y H->
 (∀vs g' H' F,Evo g H g' H' F->SE X.K (g'.plus F) Z' Y H'->VRL X.K H' g' F kds vs F->Q vs H')->wA X es Y H Q
def t5(X:Cx)(f:Ro->Option (Bool×Ro))(e:QN):Prop:=∀Z b Z',f Z=QH (b,Z')->∀g Y H Q,SE X.K g Z Y H->
 (∀g' H',Evo g H g' H' (λ_=>False)->SE X.K g' Z' Y H'->Q b H')->wT X e Y H Q
section
variable {X:Cx}
theorem cA{g:Gh}{H H':Hp}{F:Pr}(s:Same H H')(a:∀b,F b->H b=QI)(c:∀b,F b->g b=QI):Evo g H g H' F:=
 ⟨λb o _ e=>s b o e,λ_=>Iff.rfl,λb i e=>.inl ⟨i,e⟩,λb z=>⟨c b z,.inr (a b z)⟩,λb o e=>⟨o,s b o e⟩⟩
theorem eK{g:Gh}{H:Hp}(m:MuOk H (Sg g))(h:H b=QI):g b=QI:=by
 cases e:g b with
 |none=>rfl
 |some x=>obtain⟨o,q,_⟩:=m b (by rw[Sg,e];simp);rw[h] at q;cases q
theorem SndE.m{f:Ro->Option KD}(h:SndE X f e):bz X (λZ=>(f Z).map λp=>(p.1,p.2,Z)) e:=by
 intro Z o d r a g Y H Q j q;dsimp only at a
 cases c:f Z with
 |none=>rw[c] at a;cases a
 |some p=>
  rw[c] at a;cases a;show h Z p.1 p.2 c g Y H Q j λv n s l=>?_;obtain⟨F,i,k⟩:=l;show q v g n F (cA s i λb z=>eK j.mu (i b z)) (j.plus s i k.dom) k
theorem SndT.m{f:Ro->Option Bool}(h:SndT X f e):t5 X (λZ=>(f Z).map λp=>(p,Z)) e:=by
 intro Z b j a g Y H Q d q;dsimp only at a
 cases c:f Z with
 |none=>rw[c] at a;cases a
 |some p=>
  rw[c] at a;cases a;show h Z b c g Y H Q d λi s=>q g i (cA s (λ_ z=>z.elim) λ_ z=>z.elim) (d.same s)
def dF(q:Kd)(d:D):Kd:=match q with
 |.bo i k=>if qZ d=QJ then .sh else .bo i k
 |k=>k
theorem VR1.im{g:Gh}(m:MuOk H (Sg (g.plus F)))(h:VR1 K H g F kd d v F):VR1 K H g F (dF kd d) d v F:=by
 cases kd with
 |sh=>show h
 |fr k=>show h
 |bo i k=>
  unfold dF;dsimp only;split
  ·ext a;show⟨h.1,h.rd.im (λb z=>m b ((al b).mpr z)) a⟩
  ·show h
def i9(a:MR)(r:Ro->Option (List KD×Ro)):Option (List KD×Ro):=match a with
 |some (kd,d,Z1)=>if bw (dF kd d)=QJ then QI else(match r Z1 with|some (kds,Z2)=>QH ((dF kd d,d)::kds,Z2)|none=>QI)
 |none=>QI
theorem Bp{k:Ro->MR}(n:ah e=QJ)(m:bz X k e)(s:pt X fr es):pt X (λZ=>i9 (k Z) fr) (e::es):=by
 intro Z u t h g Y H Q E q;dsimp only[i9] at h;split at h
 ·ext o d j e1;split at h
  ·cases h
  ·ext C;split at h
   ·ext a K e2;cases h;show kH (bq aq cQ (aj n)) (m Z o d j e1 g Y H _ E λv y r l f b z=>s j a t e2 (y.plus l) Y r _ b λB F p I c i w=>?_);obtain⟨D,A,x⟩:=pq (by simpa using C) f (z.im b.mu) c i w;show q (v::B) _ p _ D A x
   ·cases h
 ·cases h
noncomputable def hZq(a:MR)(r:Ro->Option (List KD)):Option (List KD×Ro):=match a with
 |some (kd,d,Z1)=>(match r Z1 with|some kds=>QH ((kd,d)::kds,Z1)|none=>QI)
 |none=>QI
theorem t6{g g1:Gh}(a:Evo g H g1 H1 F1)(k:SE K (g1.plus F1) Z1 Y H1)(m:VR1 K H1 g1 F1 kd d v F1)(s:Same H1 H2)(r:VRs K (g1.plus F1) H1 H2 kds vs) :
  ∃F,Evo g H g1 H2 F/\SE K (g1.plus F) Z1 Y H2/\VRL K H2 g1 F ((kd,d)::kds) (v::vs) F:=by
 obtain⟨b,b1,b2⟩:=r
 let i:∀c,b c->g1 c=QI/\¬F1 c:=λc z=>by
  have:=eK k.mu (b1 c z);by_cases h:F1 c
  ·rw[aS h] at this;cases this
  ·rw[bT h] at this;show⟨this,h⟩
 let p:∀c,H1 c=QI->H c=QI:=λc q=>by
  cases e:H c with
  |none=>rfl
  |some o=>obtain⟨f,j⟩:=a.dom c o e;rw[q] at j;cases j
 show⟨λc=>F1 c\/b c,⟨λc o n e=>s c o (a.keep c o n e),a.out,a.new,λc z=>z.elim (a.tmp c) λz=>⟨(i c z).1,.inr (p c (b1 c z))⟩,λc o e=>let ⟨f,q⟩:=a.dom c o e;⟨f,s c f q⟩⟩,?_,v,vs,F1,b,rfl,λc=>Iff.rfl,λc t l=>(i c l).2 t,?_,b2.unplus⟩
 ·rw[<- i5];show k.plus s b1 b2.dom
 ·show m.go s λc o e z=>z.elim id λz=>by rw[b1 c z] at e;cases e
theorem E1{i:Ro->MR}(p:ah e=QJ)(o:bz X i e)(w:kJ X fr es):pt X (λZ=>hZq (i Z) fr) (e::es):=by
 intro Z k j h g Y H Q z q;dsimp only[hZq] at h;split at h
 ·ext s d B e1;split at h
  ·ext a e2;cases h;show kH (bq aq cQ (aj p)) (o Z s d j e1 g Y H _ z λv f x m c b n=>w j a e2 (f.plus m) Y x _ b λu t s2 A=>?_);obtain⟨F,y,r,l⟩:=t6 c b n s2 A;show q (v::u) f t F y r l
  ·cases h
 ·cases h
open Classical in
noncomputable def lL(H:Hp)(F:Pr):Hp:=λb=>if F b then QI else H b
theorem kW:Same (lL H F) H:=λb o e=>by
 unfold lL at e;split at e
 ·cases e
 ·show e
theorem rJ{g:Gh}{F:Pr}(f:SE K (g.plus F) Z Y H)(d:∀b,F b->g b=QI):MuOk (lL H F) (Sg g):=λb z=>by
 let a:¬F b:=λc=>z (d b c);obtain⟨o,e,n⟩:=f.mu b ((al b).mpr (.inl z));show⟨o,by unfold lL;rw[if_neg a];show e,n⟩
theorem yb{g g1:Gh}{H H1 H2:Hp}{F F2:Pr}(a:Evo g H g1 H1 F)(f:SE K (g1.plus F) Z1 Y H1)(s:Same H1 H2)(h1:∀b,F2 b->lL H1 F b=QI)(p:∀b,F2 b->∃o,H2 b=QH o/\∀xs,o≠.tup xs):Evo g H g1 H2 F2/\SE K (g1.plus F2) Z1 Y H2:=by
 let j:∀b,F2 b->F b\/H1 b=QI:=λb z=>by
  have:=h1 b z;unfold lL at this;split at this
  ·ext q;show .inl q
  ·show .inr this
 let t:∀c,H1 c=QI->H c=QI:=λc q=>by
  cases e:H c with
  |none=>rfl
  |some o=>obtain⟨k,l⟩:=a.dom c o e;rw[q] at l;cases l
 let d:∀b,F2 b->g1 b=QI:=λb z=>by
  rcases j b z with q|q
  ·show(a.tmp b q).1
  ·have:=eK f.mu q;by_cases h:F b
   ·rw[aS h] at this;cases this
   ·rw[bT h] at this;show this
 show⟨⟨λc o n e=>s c o (a.keep c o n e),a.out,a.new,λc z=>⟨d c z,(j c z).elim (λq=>(a.tmp c q).2) λq=>.inr (t c q)⟩,λc o e=>let ⟨k,q⟩:=a.dom c o e;⟨k,s c k q⟩⟩,?_⟩;show⟨λi u e=>?_,λb z=>?_,f.len⟩
 ·obtain⟨v,r,e1,e2,e3⟩:=f.slot i u e;show⟨v,r,e1,λb z=>?_,e3.go (λb o _ e=>s b o e) λb o e n z=>?_⟩
  ·have:=bJ (e2 b z);show ca this λm=>by rw[d b m] at this;cases this
  ·rcases(al b).mp z with z|z
   ·show n ((al b).mpr (.inl z))
   ·rcases j b z with q|q
    ·show n ((al b).mpr (.inr q))
    ·rw[q] at e;cases e
 ·rcases(al b).mp z with z|z
  ·obtain⟨o,e,n⟩:=f.mu b ((al b).mpr (.inl z));show⟨o,s b o e,n⟩
  ·show p b z
theorem VRL.off(h:VRL K H g F kds vs F):VRs K g (lL H F) H kds vs:=⟨F,λb z=>by unfold lL;rw[if_pos z],h⟩
theorem StrictOk.m{f:List KD->Option KD}{j:Ro->Option (List KD×Ro)}(h:StrictOk X f es node)(n:pt X j es):bz X (λZ=>(j Z).bind λp=>(f p.1).map λq=>(q.1,q.2,p.2)) node:=by
 intro Z D d B a g Y H Q A q;dsimp only at a
 cases e:j Z with
 |none=>rw[e] at a;cases a
 |some p=>
  obtain⟨c,E⟩:=p;rw[e] at a;dsimp only[Ob] at a
  cases e2:f c with
  |none=>rw[e2] at a;cases a
  |some r=>
   rw[e2] at a;cases a;show h c r.1 r.2 e2 Y H Q (n Z c _ e g Y H _ A λC k s F l i t=>⟨k,lL s F,rJ i λb z=>(l.tmp b z).1,kW,t.off,λv o s2 x=>?_⟩);obtain⟨y,b1,b2⟩:=x;obtain⟨w,u⟩:=yb l i s2 b1 b2.dom;show q v k o y w u b2
end
abbrev kX:=Ow×D
abbrev Fm:=List kX->Option (Kd×D×List (Option kX))
noncomputable def E2(p:kX):Option Sl:=QH ⟨QL,p.1,p.2⟩
noncomputable def CD(p:Option kX):Option Sl:=p.map λp=>⟨QL,p.1,p.2⟩
def v3(K:Np)(B:Fm):Sp:=λvs H Q _=>∃ks g q d outs,SE K g (ks.map E2) (vs.map QH) H/\B ks=QH (q,d,outs)/\
 ∀v g' H' F,Evo g H g' H' F->SE K (g'.plus F) (outs.map CD) (vs.map QH) H'->VR1 K H' g' F q d v F->Q v H'
set_option genInjectivity true in
inductive RA where
 |ref (i:Nat)|val (kd:Kd) (d:D)
def VRA(K:Np)(H:Hp)(g:Gh)(Ft:Pr)(Y:L2.St):List RA->List V->Pr->Prop
 |[],vs,F=>vs=[]/\∀b,¬F b
 |.ref i::r,vs,F=>∃y ys,vs=y::ys/\Y[i]?=QH (QH y)/\VRA K H g Ft Y r ys F
 |.val kd d::r,vs,F=>∃y ys F1 F2,vs=y::ys/\(∀b,F b↔F1 b\/F2 b)/\(∀b,F1 b->¬F2 b)/\VR1 K H g Ft kd d y F1/\VRA K H g Ft Y r ys F2
def f7(X:Cx)(f:Ro->Option (List RA×Ro))(es:List QN):Prop:=∀Z ras Z',f Z=QH (ras,Z')->∀g Y H Q,SE X.K g Z Y H->
 (∀vs g' H' F,Evo g H g' H' F->SE X.K (g'.plus F) Z' Y H'->VRA X.K H' g' F Y ras vs F->Q vs H')->wA X es Y H Q
section
variable {K:Np} {H H1 H2:Hp} {g g1 g2:Gh} {F1 F2:Pr} {Y:L2.St}
theorem VRA.evoR(b:Evo (g1.plus F1) H1 g2 H2 F2):∀{ras:List RA} {vs:List V} {F:Pr},VRA K H2 g2 F2 Y ras vs F->VRA K H2 (g2.minus F1) (λc=>F1 c\/F2 c) Y ras vs F
 |[],_,_,h=>h
 |.ref i::r,_,_,h=>by
  obtain⟨y,a,e,e2,f⟩:=h;show⟨y,a,e,e2,VRA.evoR b f⟩
 |.val kd d::r,_,_,h=>by
  obtain⟨y,a,l,j,e,k,g,m,f⟩:=h;show⟨y,a,l,j,e,k,g,m.evoR b,VRA.evoR b f⟩
theorem aT{g:Gh}{F:Pr}(h:∀b,¬F b):g.plus F=g:=by
 funext b;show bT (h b)
end
section
variable {X:Cx}
theorem CF:f7 X (λZ=>QH ([],Z)) []:=by
 intro Z a c h g Y H Q b q;cases h;show kH dO (q [] g H (λ_=>False) (.refl g H) ?_ ⟨rfl,λ_ z=>z⟩);rw[aT λ_ z=>z];show b
noncomputable def pv(i:Nat)(o:Option (Option Sl))(r:Option (List RA×Ro)):Option (List RA×Ro):=match o,r with
 |some (QH _),QH (ras,Z')=>QH (.ref i::ras,Z')
 |_,_=>QI
theorem Iy(O:ao X U c){i:Nat}{l:Ro->Option (List RA×Ro)}(a:fR c x=QH i)(v:f7 X l es):f7 X (λZ=>pv i Z[i]? (l Z)) (.Name x p::es):=by
 intro Z y w h g Y H Q n q;dsimp only[pv] at h;split at h
 ·ext z b A e1 e2;cases h;let e:SndE X (λZ=>eG i Z[i]?) (.Name x p):=g6 O a p;obtain⟨f,d,_⟩:=n.get e1
  -- the name gives that very value
  show kH (bq aq cQ (aj rfl)) ?_;unfold fR at a;split at a
  ·ext j u;split at a
   ·ext e;cases a;simp only[Nr,nA,OK] at e;show am (qB (by rw[O.N];show aU u) (by rw[O.sc];show ny e.1) e.2.1 e.2.2) ⟨f,d,?_⟩;show v Z b w e2 g Y H _ n λm s t F o k r=>q (f::m) s t F o k ⟨f,m,rfl,d,r⟩
   ·cases a
  ·cases a
 ·cases h
def yc(a:MR)(r:Ro->Option (List RA×Ro)):Option (List RA×Ro):=match a with
 |some (kd,d,Z1)=>if bw (dF kd d)=QJ then QI else(match r Z1 with|some (ras,Z2)=>QH (.val (dF kd d) d::ras,Z2)|none=>QI)
 |none=>QI
theorem yd{n:Ro->MR}(r:ah e=QJ)(p:bz X n e)(w:f7 X fr es):f7 X (λZ=>yc (n Z) fr) (e::es):=by
 intro Z x y h g Y H Q E q;dsimp only[yc] at h;split at h
 ·ext s d l e1;split at h
  ·cases h
  ·ext D;split at h
   ·ext f K e2;cases h;show kH (bq aq cQ (aj r)) (p Z s d l e1 g Y H _ E λv A u k i b B=>w l f y e2 (A.plus k) Y u _ b λm I t C a j z=>?_);show q (v::m) _ t _ (i.trans a) (by rw[hV a];show j) ⟨v,m,k,C,rfl,λc=>Iff.rfl,λc F o=>?_,(B.im b.mu).evo (by simpa using D) a,z.evoR a⟩;have:=(a.out c).mp (aS F);rw[(a.tmp c o).1] at this;cases this
   ·cases h
 ·cases h
end
noncomputable def cC:List RA->List Nat
 |[]=>[]
 |.ref i::r=>i::cC r
 |.val _ _::r=>cC r
def eL(Z:Ro):List RA->Option (List kX)
 |[]=>QH []
 |.ref i::r=>match Z[i]?,eL Z r with
  |some (QH ⟨QL,k,d⟩),QH ks=>QH ((k,d)::ks)
  |_,_=>QI
 |.val kd d::r=>if bw kd=QJ then QI else(eL Z r).map ((.fz,d)::·)
noncomputable def cN:List RA->Ro->Ro->Ro
 |.ref i::r,o::os,Z=>cN r os (Z.set i o)
 |.val _ _::r,_::os,Z=>cN r os Z
 |_,_,Z=>Z
noncomputable def nJ(ras:List RA)(i:Nat):Option Nat:=ras.findIdx? λa=>match a with|.ref j=>j==i|_=>QL
def Bq(B:Option Fm)(a:Option (List RA×Ro)):MR:=match B,a with
 |some B,QH (ras,Z)=>if(cC ras).Nodup then(match eL Z ras with
  |some ks=>(match B ks with
   |some (kd,d,outs)=>if bw kd=QJ\/outs.length≠ras.length then QI else QH (kd,d,cN ras (outs.map CD) Z)
   |none=>QI)
  |none=>QI) else QI
 |_,_=>QI
section
theorem gy{Z:Ro}:∀{ras:List RA} {ks:List kX},eL Z ras=QH ks->ks.length=ras.length/\∀(j:Nat) a,ras[j]?=QH a->∃k d,ks[j]?=QH (k,d)/\(match a with|.ref i=>Z[i]?=QH (QH ⟨QL,k,d⟩)|.val kd d'=>k=.fz/\d=d'/\bw kd=QL)
 |[],ks,h=>by cases h;show⟨rfl,λj a e=>by simp at e⟩
 |.ref i::r,ks,h=>by
  unfold eL at h;split at h
  ·ext k d b e1 e2;cases h;obtain⟨l,g⟩:=gy e2;show⟨by simp[l],λj a e=>?_⟩
   cases j with
   |zero=>simp at e;subst e;show⟨k,d,rfl,e1⟩
   |succ j=>simpa using g j a (by simpa using e)
  ·cases h
 |.val kd d::r,ks,h=>by
  unfold eL at h;split at h
  ·cases h
  ·ext c;obtain⟨b,e,rfl⟩:=bx h;obtain⟨l,g⟩:=gy e;show⟨by simp[l],λj a e=>?_⟩
   cases j with
   |zero=>simp at e;subst e;show⟨.fz,d,rfl,rfl,rfl,by simpa using c⟩
   |succ j=>simpa using g j a (by simpa using e)
theorem ia:∀{ras:List RA} {i j:Nat},nJ ras i=QH j->ras[j]?=QH (.ref i)
 |[],i,j,h=>by simp[nJ] at h
 |a::r,i,j,h=>by
  unfold nJ at h;rw[N4] at h
  cases a with
  |ref k=>
   by_cases e:k=i
   ·subst e;simp at h;subst h;rfl
   ·let f:(k==i)=QL:=by simpa using e
    simp only[f] at h;obtain⟨c,b,rfl⟩:=bx (by simpa using h);simpa using ia (by unfold nJ;show b)
  |val g d=>
   simp only at h;obtain⟨c,b,rfl⟩:=bx (by simpa using h);simpa using ia (by unfold nJ;show b)
theorem eZ:∀{ras:List RA} {j i:Nat},ras[j]?=QH (.ref i)->i∈cC ras
 |[],_,_,h=>by simp at h
 |a::r,0,i,h=>by simp at h;subst h;show NJ
 |.ref k::r,j+1,i,h=>NE _ (eZ (by simpa using h))
 |.val kd d::r,j+1,i,h=>eZ (ras:=r) (by simpa using h)
theorem rK:∀{ras:List RA} {j i:Nat},(cC ras).Nodup->ras[j]?=QH (.ref i)->nJ ras i=QH j
 |[],_,_,_,h=>by simp at h
 |.ref k::r,0,i,_,h=>by simp at h;subst h;simp[nJ,N4]
 |.val kd d::r,0,i,_,h=>by simp at h
 |.ref k::r,j+1,i,hn,h=>by
  let c:=eZ (by simpa using h);let a:k∉cC r/\(cC r).Nodup:=NU.mp hn
  let e:(k==i)=QL:=by
   simp only[beq_eq_false_iff_ne,ne_eq];intro z;subst z;show a.1 c
  let b:=rK a.2 (by simpa using h:r[j]?=QH (.ref i));unfold nJ at b⊢;rw[N4];simp only[e,b];rfl
 |.val kd d::r,j+1,i,hn,h=>by
  let b:=rK (ras:=r) hn (by simpa using h:r[j]?=QH (.ref i));unfold nJ at b⊢;rw[N4];simp only[b];rfl
theorem ja:∀{ras:List RA} {outs:Ro} {Z:Ro},(cN ras outs Z).length=Z.length
 |[],_,_=>rfl
 |.ref i::r,[],_=>rfl
 |.val _ _::r,[],_=>rfl
 |.ref i::r,o::os,Z=>by simp only[cN];rw[ja];simp
 |.val _ _::r,o::os,Z=>by simp only[cN];show ja
theorem jb:∀{ras:List RA} {outs:Ro} {Z:Ro},(cC ras).Nodup->outs.length=ras.length->∀(i:Nat) b,(cN ras outs Z)[i]?=QH (QH b)->(i∉cC ras/\Z[i]?=QH (QH b))\/∃(j:Nat),ras[j]?=QH (RA.ref i)/\outs[j]?=QH (QH b)
 |[],outs,Z,_,_,i,b,h=>by cases outs<;>show .inl ⟨by simp[cC],h⟩
 |.ref k::r,[],Z,_,hl,i,b,h=>by simp at hl
 |.val kd d::r,[],Z,_,hl,i,b,h=>by simp at hl
 |.val kd d::r,o::os,Z,hn,hl,i,b,h=>by
  simp only[cN] at h;rcases jb (ras:=r) hn (by simpa using hl) i b h with⟨c,a⟩|⟨j,c,a⟩
  ·show .inl ⟨c,a⟩
  ·show .inr ⟨j+1,by simpa using c,by simpa using a⟩
 |.ref k::r,o::os,Z,hn,hl,i,b,h=>by
  simp only[cN] at h;let f:k∉cC r/\(cC r).Nodup:=NU.mp hn;rcases jb f.2 (by simpa using hl) i b h with⟨c,a⟩|⟨j,c,a⟩
  ·by_cases e:i=k
   ·subst e
    let g:i<Z.length:=by
     have:=(Nq.mp a).1;simpa using this
    rw[NY g] at a;show .inr ⟨0,rfl,a⟩
   ·rw[NW (Ne.symm e)] at a;show .inl ⟨by simp only[cC,NB,not_or];show⟨e,c⟩,a⟩
  ·show .inr ⟨j+1,by simpa using c,by simpa using a⟩
end
section
variable {K:Np} {H H1 H2:Hp} {g g1:Gh} {F:Pr} {Y:L2.St} {Z:Ro}
theorem VRA.get:∀{ras:List RA} {vs:List V} {F:Pr},VRA K H g Ft Y ras vs F->vs.length=ras.length/\∀(j:Nat) a,ras[j]?=QH a->∃y,vs[j]?=QH y/\(match a with|.ref i=>Y[i]?=QH (QH y)|.val kd d=>∃f:Pr,(∀b,f b->F b)/\VR1 K H g Ft kd d y f)
 |[],vs,F,h=>by obtain⟨rfl,_⟩:=h;show⟨rfl,λj a e=>by simp at e⟩
 |.ref i::r,vs,F,h=>by
  obtain⟨y,n,rfl,e,k⟩:=h;obtain⟨l,q⟩:=VRA.get k;show⟨by simp[l],λj a c=>?_⟩
  cases j with
  |zero=>simp at c;subst c;show⟨y,rfl,e⟩
  |succ j=>simpa using q j a (by simpa using c)
 |.val kd d::r,vs,F,h=>by
  obtain⟨y,n,p,v,rfl,m,u,t,k⟩:=h;obtain⟨l,q⟩:=VRA.get k;show⟨by simp[l],λj a c=>?_⟩
  cases j with
  |zero=>simp at c;subst c;show⟨y,rfl,p,λb z=>(m b).mpr (.inl z),t⟩
  |succ j=>
   obtain⟨s,e1,e2⟩:=q j a (by simpa using c);show⟨s,by simpa using e1,?_⟩
   cases a with
   |ref i=>show e2
   |val kd d=>obtain⟨f,o,f2⟩:=e2;show⟨f,λb z=>(m b).mpr (.inr (o b z)),f2⟩
theorem Iz{ks:List kX}{vs:List V}(L:(cC ras).Nodup)(N:eL Z ras=QH ks)(C:∀b,F b->g1 b=QI)(x:SE K (g1.plus F) Z Y H1)(r:VRA K H1 g1 F Y ras vs F):SE K (g1.re (nJ ras)) (ks.map E2) (vs.map QH) H1:=by
 obtain⟨w,O⟩:=gy N;obtain⟨I,M⟩:=r.get;let u:∀b,Sg (g1.re (nJ ras)) b->Sg (g1.plus F) b:=λb z=>(al b).mpr (.inl ((jQ b).mp z));show⟨λj Q e=>?_,λb z=>x.mu b (u b z),by simp[w,I]⟩;rw[Nu] at e
 cases q:ks[j]? with
 |none=>rw[q] at e;cases e
 |some p=>
  rw[q] at e;cases e;let E:j<ras.length:=by rw[<- w];show(Nq.mp q).1
  let l:ras[j]?=QH ras[j]:=NC E;obtain⟨k,d,f,m⟩:=O j _ l;rw[q] at f;cases f;obtain⟨y,t,h⟩:=M j _ l;generalize ras[j]=a at l m h
  cases a with
  |ref i=>
   let m:Z[i]?=QH (QH ⟨QL,k,d⟩):=m;let h:Y[i]?=QH (QH y):=h;obtain⟨v,D,e1,e2,e3⟩:=x.slot i _ m;rw[h] at e1;cases e1;show⟨y,D,by simp[t],λb z=>?_,e3.go (λ_ _ _ e=>e) λb o _ n z=>n (u b z)⟩;unfold Gh.re;rw[bJ (e2 b z)];change QH (nJ ras i)=_;rw[rK L l]
  |val g H=>
   obtain⟨rfl,rfl,P⟩:k=.fz/\d=H/\bw g=QL:=m;obtain⟨R,A,f2⟩:=h;show⟨y,λ_=>False,by simp[t],λb z=>z.elim,.fz ?_⟩;let s:∀b,Sg (g1.re (nJ ras)) b->g1 b≠QI:=λb z=>(jQ b).mp z
   cases g with
   |sh=>show f2.2.weak λb z=>.inl (s b z)
   |fr c=>show Tr.rp (λb z=>⟨.inl (s b z),λB=>s b z (C b (A b B))⟩) f2
   |bo i c=>cases P
noncomputable def dh(g1 q:Gh)(ras:List RA):Gh:=λb=>match q b with
 |some (QH j)=>(match ras[j]? with|some (.ref i)=>QH (QH i)|_=>QI)
 |some QI=>g1 b
 |none=>QI
theorem Br{a:Gh}{ras:List RA}{j i:Nat}(h:a b=QH (QH j))(e:ras[j]?=QH (.ref i)):dh g1 a ras b=QH (QH i):=by
 unfold dh;rw[h];dsimp only;rw[e]
theorem px{a:Gh}(h:a b=QH QI):dh g1 a ras b=g1 b:=by unfold dh;rw[h]
theorem nK{a:Gh}(h:a b=QI):dh g1 a ras b=QI:=by unfold dh;rw[h]
theorem kY{a:Gh}{ras:List RA}(h:dh g1 a ras b=QH x):(∃j i,a b=QH (QH j)/\ras[j]?=QH (.ref i)/\x=QH i)\/(a b=QH QI/\g1 b=QH x):=by
 unfold dh at h;split at h
 ·ext j e;split at h
  ·ext i e2;cases h;show .inl ⟨j,i,e,e2,rfl⟩
  ·cases h
 ·ext e;show .inr ⟨e,h⟩
 ·cases h
theorem t7{m:Nat->Option Nat}(h:g.re m b=QH (QH j)):∃i,g b=QH (QH i)/\m i=QH j:=by
 unfold Gh.re at h
 cases q:g b with
 |none=>simp[q] at h
 |some x=>
  cases x with
  |none=>simp[q] at h
  |some i=>simp[q] at h;show⟨i,rfl,h⟩
theorem IA(h:g b=QI):g.re m b=QI:=by unfold Gh.re;rw[h]
theorem Lr(h:g b=QH QI):g.re m b=QH QI:=by unfold Gh.re;rw[h]
theorem Ls{m:Nat->Option Nat}(h:g b=QH (QH i)):g.re m b=QH (m i):=by unfold Gh.re;rw[h]
theorem mw{ras:List RA}{l:Gh}{E:Ro}{U:L2.St}(hn:(cC ras).Nodup)(L:E.length=ras.length)(P:bw kd=QL)(a:Evo g H g1 H1 F)(X:SE K (g1.plus F) Z Y H1)(hY:∀(j i:Nat) u w,ras[j]?=QH (.ref i)->E[j]?=QH (QH u)->U[j]?=QH (QH w)->Y[i]?=QH (QH w))(m:Evo (g1.re (nJ ras)) H1 l H2 Fr)(r:SE K (l.plus Fr) E U H2)(O:VR1 K H2 l Fr kd d v Fr) :
  Evo g H (dh g1 l ras) H2 Fr/\SE K ((dh g1 l ras).plus Fr) (cN ras E Z) Y H2/\VR1 K H2 (dh g1 l ras) Fr kd d v Fr:=by
 let B:∀c,H1 c=QI->H c=QI:=λc q=>by
  cases e:H c with
  |none=>rfl
  |some o=>obtain⟨o',S⟩:=a.dom c o e;rw[q] at S;cases S
 -- frozen ones stay so
 let y:∀b o,H1 b=QH o->g1 b=QI->dh g1 l ras b=QI/\¬Fr b:=λb o e n=>by
  obtain⟨I,f2⟩:=m.froz e (IA n);show⟨nK I,f2⟩
 let h:∀b i,g1 b=QH (QH i)->(∃j,g b=QH (QH j))\/H b=QI:=λb i e=>a.new b i e
 let s:∀b j,l b=QH (QH j)->(∃k,g b=QH (QH k))\/H b=QI:=λb j e=>by
  rcases m.new b j e with⟨k,q⟩|q
  ·obtain⟨i,f,_⟩:=t7 q;show h b i f
  ·show .inr (B b q)
 let N:Evo g H (dh g1 l ras) H2 Fr:=by
  show⟨λb o n e=>?_,λb=>⟨λe=>?_,λe=>?_⟩,λb i e=>?_,λb z=>?_,λb o e=>?_⟩
  ·show m.keep b o (λj q=>?_) (a.keep b o n e);obtain⟨i,f,_⟩:=t7 q;rcases a.new b i f with⟨k,p⟩|p
   ·show n k p
   ·rw[e] at p;cases p
  ·let e1:=(a.out b).mp e;let e2:=(m.out b).mp (Lr e1);rw[px e2];show e1
  ·rcases kY e with⟨j,i,_,_,z⟩|⟨_,e1⟩
   ·cases z
   ·show(a.out b).mpr e1
  ·rcases kY e with⟨j,i',e1,_,_⟩|⟨_,e1⟩
   ·show s b j e1
   ·show h b i e1
  ·obtain⟨t1,t2⟩:=m.tmp b z;show⟨nK t1,?_⟩;rcases t2 with⟨j,q⟩|q
   ·obtain⟨i,f,_⟩:=t7 q;show h b i f
   ·show .inr (B b q)
  ·obtain⟨o1,e1⟩:=a.dom b o e;show m.dom b o1 e1
 let t:∀b,Sg (dh g1 l ras) b->Sg l b:=λb z A=>z (nK A);show⟨N,⟨λi u e=>?_,λb z=>?_,by rw[ja];show X.len⟩,?_⟩
 ·rcases jb hn L i u e with⟨Q,e1⟩|⟨j,W,V⟩
  ·-- a slot that was not eL in
   obtain⟨w,T,e2,e3,e4⟩:=X.slot i u e1
   let C:∀b,T b->g1 b=QH (QH i)/\l b=QH QI:=λb z=>by
    let f:=bJ (e3 b z);show⟨f,(m.out b).mp ?_⟩;rw[Ls f]
    cases p:nJ ras i with
    |none=>rfl
    |some j=>show absurd (eZ (ia p)) Q
   show⟨w,T,e2,λb z=>?_,e4.go (λb o D e=>m.keep b o (λj q=>?_) e) λb o e n z=>?_⟩
   ·obtain⟨l1,M⟩:=C b z;show ca (by rw[px M];show l1) λA=>?_;rw[(m.tmp b A).1] at M;cases M
   ·obtain⟨k,f,p⟩:=t7 q;rcases D with D|D
    ·show D ((al b).mpr (.inl (by rw[Sg,f];simp)))
    ·rw[(C b D).1] at f;cases f;show absurd (eZ (ia p)) Q
   ·let nF:g1 b=QI:=by
     cases f:g1 b with
     |none=>rfl
     |some x=>show absurd ((al b).mpr (.inl (by rw[Sg,f];simp))) n
    obtain⟨I,f2⟩:=y b o e nF;rcases(al b).mp z with z|z
    ·show z I
    ·show f2 z
  ·-- one that was
   obtain⟨w,Fj,e2,e3,e4⟩:=r.slot j u V;show⟨w,Fj,hY j i u w W V e2,λb z=>?_,e4.go (λ_ _ _ e=>e) λb o e n z=>?_⟩
   ·let f:=bJ (e3 b z);show ca (Br f W) λA=>?_;rw[(m.tmp b A).1] at f;cases f
   ·rcases(al b).mp z with z|z
    ·show n ((al b).mpr (.inl (t b z)))
    ·show n ((al b).mpr (.inr z))
 ·rcases(al b).mp z with z|z
  ·show r.mu b ((al b).mpr (.inl (t b z)))
  ·show r.mu b ((al b).mpr (.inr z))
 ·let R:∀b o,H2 b=QH o->¬Sx l Fr b->¬Sx (dh g1 l ras) Fr b:=λb o _ n z=>n (z.imp (t b) id)
  cases kd with
  |sh=>show⟨O.1,O.2.go λb o n e=>⟨e,R b o e n⟩⟩
  |fr k=>show Tr.go (λ_ _ _ e=>e) R O
  |bo i k=>cases P
theorem t8{Q:VK}(h:Bq (QH B) (QH (ras,Z))=QH (kd,d,Z2))(a:Evo g H g1 H1 F)(p:SE K (g1.plus F) Z Y H1)(r:VRA K H1 g1 F Y ras vs F)(q:∀v g' H' F',Evo g H g' H' F'->SE K (g'.plus F') Z2 Y H'->VR1 K H' g' F' kd d v F'->Q v H'):v3 K B vs H1 Q E:=by
 unfold Bq at h;dsimp only at h;split at h
 ·ext l;split at h
  ·ext O L;split at h
   ·ext C U outs P;split at h
    ·cases h
    ·ext n;cases h
     let k:bw kd=QL:=by
      cases e:bw kd with
      |false=>rfl
      |true=>show absurd (.inl e) n
     let c:outs.length=ras.length:=Classical.byContradiction λz=>n (.inr z);show⟨O,g1.re (nJ ras),kd,d,outs,Iz l L (λb z=>(a.tmp b z).1) p r,P,λv T u D s f I=>?_⟩;obtain⟨_,x⟩:=r.get
     obtain⟨R,M,A⟩:=mw l (by rw[Nt];show c) k a p (λj i S w N _ o=>by
      obtain⟨y,t,m⟩:=x j _ N;let m:Y[i]?=QH (QH y):=m;rw[Nu,t] at o;cases o;show m) s f I
     show q v _ u D R M A
   ·cases h
  ·cases h
 ·cases h
end
noncomputable def clr(ps:List (Nat×D))(Z:Ro):Ro:=ps.foldl (λZ p=>Z.set p.1 QI) Z
noncomputable def yf(cap:List (Option Nat))(ps:List (Nat×D)):Bool:=ps.all λp=>match cap[p.1]? with|some QI=>QJ|_=>QL
def ib(cap:List (Option Nat))(tg:IT)(O:Ro->Option (Bool×Ro))(B:Ro->MR)(d:D)(q:Ro):Option (Option KD×Ro):=match pc tg d with
 |some ps=>if bL ps q=QJ/\yf cap ps=QJ then(match O (setAll ps q) with
  |some (QJ,Zt)=>(match B Zt with|some (kd,d,Z1)=>QH (QH (dF kd d,d),clr ps Z1)|none=>QI)
  |some (QL,Zt)=>QH (QI,clr ps Zt)
  |none=>QI) else QI
 |none=>QI
def aG(r:Ow)(f:D->Ro->Option (Option KD×Ro)):List D->Ro->Option (List D×Ro)
 |[],Z=>QH ([],Z)
 |d::ds,Z=>match f d Z with
  |some (QH kd,Z1)=>if bK r kd=QJ then(match aG r f ds Z1 with|some (ys,Z2)=>QH (kd.2::ys,Z2)|none=>QI) else QI
  |some (QI,Z1)=>aG r f ds Z1
  |none=>QI
theorem gz:∀{a b:List D} {Z Z':Ro} {ys:List D},aG r f (a++b) Z=QH (ys,Z')->∃x c y,aG r f a Z=QH (x,c)/\aG r f b c=QH (y,Z')/\ys=x++y
 |[],b,Z,Z',ys,h=>⟨[],Z,ys,rfl,h,rfl⟩
 |d::a,b,Z,Z',ys,h=>by
  rw[OE] at h;unfold aG at h;split at h
  ·ext k c e1;split at h
   ·ext j;split at h
    ·ext l m e2;cases h;obtain⟨x,e,y,i,g,rfl⟩:=gz e2;show⟨k.2::x,e,y,by simp[aG,e1,i,j],g,rfl⟩
    ·cases h
   ·cases h
  ·ext c e1;obtain⟨x,e,y,i,g,rfl⟩:=gz h;show⟨x,e,y,by simp[aG,e1,i],g,rfl⟩
  ·cases h
theorem cF:∀{a:List D} {d:D} {x y:List D} {Z c b:Ro},aG r f a Z=QH (x,c)->aG r f [d] c=QH (y,b)->aG r f (a++[d]) Z=QH (x++y,b)
 |[],d,x,y,Z,c,b,h,h1=>by cases h;show h1
 |e::a,d,x,y,Z,c,b,h,h1=>by
  unfold aG at h;rw[OE];unfold aG;split at h
  ·ext j g e1;split at h
   ·ext i;split at h
    ·ext k l e2;cases h;rw[cF e2 h1];simp[i]
    ·cases h
   ·cases h
  ·ext g e1;show cF h h1
  ·cases h
theorem pA{f:D->Ro->Option (Option KD×Ro)}{ds ys:List D}(h:aG r f ds Z=QH (ys,Z')){i:Nat}(e:ds[i]?=QH d){x:List D}(g:aG r f (ds.take i) Z=QH (x,Zi)) :
  (∃a,f d Zi=QH (QI,a)/\aG r f (ds.take (i+1)) Z=QH (x,a))\/∃c a,f d Zi=QH (QH c,a)/\bK r c=QJ/\aG r f (ds.take (i+1)) Z=QH (x++[c.2],a):=by
 let m:ds=ds.take i++(d::ds.drop (i+1)):=by
  obtain⟨o,rfl⟩:=Nq.mp e;rw[<- N8 o,Pm]
 let n:ds.take (i+1)=ds.take i++[d]:=by rw[Pd,e];rfl
 rw[m] at h;obtain⟨p,a,y,l,b,_⟩:=gz h;rw[g] at l;cases l;unfold aG at b;rw[n];split at b
 ·ext c j e1;split at b
  ·ext k;show .inr ⟨c,j,e1,k,cF g (by simp[aG,e1,k])⟩
  ·cases b
 ·ext j e1;show .inl ⟨j,e1,by simpa using cF g (y:=[]) (by simp[aG,e1])⟩
 ·cases b
theorem gB:∀{ds ys:List D} {Z Z':Ro},aG r f ds Z=QH (ys,Z')->ys.length<=ds.length
 |[],ys,Z,Z',h=>by cases h;show Ny _
 |d::ds,ys,Z,Z',h=>by
  unfold aG at h;split at h
  ·ext b a e1;split at h
   ·split at h
    ·ext c e e2;cases h;have:=gB e2;simp;lia
    ·cases h
   ·cases h
  ·ext a e1;have:=gB h;simp;lia
  ·cases h
abbrev IR:=Option (List Nat×List D×Ro)
def mx(X:Cx)(f:Ro->IR)(tg iter:QN):Prop:=∀Z bs ds q,f Z=QH (bs,ds,q)->∀g Y H R,SE X.K g Z Y H->
 (∀J s g1 H1,Evo g H g1 H1 (λ_=>False)->SE X.K g1 q Y H1->i3 X.K J s ds->s.P X.K g1 H1->s.from g1 H1 bs->R J H1)->wI X tg iter Y H R
noncomputable def Lu(a:Option (List Nat×List D))(Z:Ro):IR:=match a with|some (bs,ds)=>QH (bs,ds,Z)|none=>QI
theorem SndI.m{f:Ro->Option (List Nat×List D)}(h:SndI X f tg iter):mx X (λZ=>Lu (f Z) Z) tg iter:=by
 intro Z l d o a g Y H R b q;dsimp only[Lu] at a;split at a
 ·ext c i e;cases a;show h Z l d e g Y H R b λJ s n s1 j sp k=>q J s g n (cA s1 (λ_ z=>z.elim) λ_ z=>z.elim) (b.same s1) j sp k.from_H
 ·cases a
noncomputable def jc(cap:List (Option Nat)):List RA:=cap.map λo=>match o with|some i=>.ref i|none=>.val .sh .non
def jd(r:Ow)(it:IR)(f:D->Ro->Option (Option KD×Ro))(cap:List (Option Nat)):MR:=match it with
 |some (bs,ds,Z)=>if bs=[]/\ds.length<=100000 then(match aG r f ds (aJ Z cap) with|some (ys,Zc)=>if Zc.length=cap.length then QH (.fr (.own [] r),.lst ys,cN (jc cap) Zc Z) else QI|none=>QI) else QI
 |none=>QI
theorem je:∀cap:List (Option Nat),cC (jc cap)=cap.filterMap id
 |[]=>rfl
 |none::r=>by
  have:=je r;simp only[jc,NS,cC] at this⊢;simpa using this
 |some i::r=>by
  have:=je r;simp only[jc,NS,cC] at this⊢;simpa using this
theorem Bs(cap:List (Option Nat))(i:Nat):nJ (jc cap) i=i6 cap i:=by
 unfold nJ i6 jc;rw[OX];congr 1;funext o
 cases o with
 |none=>rfl
 |some k=>simp[Function.comp]
theorem SE.clr{H:Hp}:∀{ps:List (Nat×D)} {Z:Ro} {Y:L2.St},SE K g Z Y H->SE K g (clr ps Z) Y H
 |[],Z,Y,h=>h
 |p::ps,Z,Y,h=>by
  change SE K g (J.clr ps (Z.set p.1 QI)) Y H;show SE.clr ⟨λi c e=>?_,h.mu,by simp[h.len]⟩;by_cases b:i=p.1
  ·subst b
   let a:p.1<Z.length:=by
    have:=(Nq.mp e).1;simpa using this
   rw[NY a] at e;cases e
  ·rw[NW (Ne.symm b)] at e;show h.slot i c e
theorem j0:∀{ps:List (Nat×D)} {vs:List (Nat×V)} {Y:L2.St} {j:Nat},RpP K H S ps vs->(∀p∈ps,p.1≠j)->(g9 vs Y)[j]?=Y[j]?
 |[],vs,Y,j,h,_=>by rw[(h)];rfl
 |(i,d)::ps,vs,Y,j,h,hn=>by
  obtain⟨v,c,rfl,_,a⟩:=h;change(g9 c (Y.set i (QH v)))[j]?=_;rw[j0 a λp b=>hn p (NE _ b),NW (hn (i,d) NJ)]
section
variable {X:Cx} {U:Tab} {c:Cz}
theorem Evo.drop{F F2:Pr}(a:Evo g H g' H' F)(h:∀b,F2 b->F b):Evo g H g' H' F2:=⟨a.keep,a.out,a.new,λb z=>a.tmp b (h b z),a.dom⟩
theorem SE.drop{g:Gh}{F F2:Pr}(c:SE K (g.plus F) Z Y H)(h:∀b,F2 b->F b)(f:∀b,F b->g b=QI):SE K (g.plus F2) Z Y H:=by
 let a:∀b,Sg (g.plus F2) b->Sg (g.plus F) b:=λb z=>(al b).mpr (((al b).mp z).imp id (h b));show⟨λi k e=>?_,λb z=>c.mu b (a b z),c.len⟩;obtain⟨v,j,e1,e2,e3⟩:=c.slot i k e;show⟨v,j,e1,λb z=>?_,e3.go (λ_ _ _ e=>e) λb o _ n z=>n (a b z)⟩;let q:=bJ (e2 b z);show ca q λd=>by rw[f b (h b d)] at q;cases q
theorem Evo.upd{H H':Hp}(a:Evo g H g' H' F)(d:H p=QI):Evo g H g' (upd H' p o) F:=by
 show⟨λb c n e=>?_,a.out,a.new,a.tmp,λb c e=>?_⟩
 ·rw[ae (λz=>by rw[z,d] at e;cases e)];show a.keep b c n e
 ·obtain⟨f,e1⟩:=a.dom b c e;show⟨f,by rw[ae (λz=>by rw[z,d] at e;cases e)];show e1⟩
theorem pB(a:Evo g H g1 H1 (λ_=>False))(b:Evo g1 H1 g2 H2 F2):Evo g H g2 H2 F2:=by
 let t:=a.trans (by rw[aT λ_ z=>z];show b);let e1:g2.minus (λ_=>False)=g2:=by funext c;show bI λz=>z
 rw[e1] at t;show t.drop λc z=>.inr z
def nM(X:Cx)(f:Ro->Option (Bool×Ro))(ifs:List QN):Prop:=∀Z b Z',f Z=QH (b,Z')->∀g Y H Q,SE X.K g Z Y H->(∀g' H',Evo g H g' H' (λ_=>False)->SE X.K g' Z' Y H'->Q b H')->EL X ifs Y H Q
theorem E3:nM X (λZ=>QH (QJ,Z)) []:=λZ b c h g Y H Q a q=>by cases h;show rE tz (q g H (.refl g H) a)
theorem t9{K:Np}{g' h m:Gh}{H1 H2 k:Hp}{D:QO}{a:Pr}{us:List V}{t:List J.D}{r:Ow}(l:Evo g' H1 h H2 (λb=>b=D\/a b))(w:¬a D)(y:H2 D=QH (.lst us))(A:TrL K H2 (Sx h λb=>b=D\/a b) t [] r us a)(d:Evo (h.plus λb=>b=D\/a b) H2 m k (λ_=>False)) :
  ∃g,Evo g' H1 g k (λb=>b=D\/a b)/\(g.plus λb=>b=D\/a b)=m/\k D=QH (.lst us)/\TrL K k (Sx g λb=>b=D\/a b) t [] r us a:=by
 let s:(h.plus λb=>b=D\/a b) D=QH QI:=aS (.inl rfl);let p:=(l.trans d).drop λb z=>.inl z;show⟨m.minus (λb=>b=D\/a b),p,?_,d.keep D _ (λi f=>by rw[s] at f;cases f) y,?_⟩
 ·let e:=hV d;rw[aT λ_ z=>z] at e;let e2:(λc=>(c=D\/a c)\/False)=λb=>b=D\/a b:=by funext b;simp
  rw[e2] at e;show e
 ·show A.go (λb o j e=>?_) λb o e n z=>?_
  ·show d.keep b o (λi f=>?_) e;rcases j with j|j
   ·show j (.inl (by rw[bJ f];simp))
   ·rw[aS (.inr j)] at f;cases f
  ·let q:¬(b=D\/a b):=λz=>n (.inr z)
   let v:(h.plus λb=>b=D\/a b) b=QI:=by
    rw[bT q]
    cases f:h b with
    |none=>rfl
    |some x=>show absurd (.inl (by rw[f];simp)) n
   obtain⟨u,f2⟩:=d.froz e v;rcases z with z|z
   ·rw[bI q] at z;show z u
   ·show q z
abbrev Lv(K:Np)(f:List J.D->Ro->Option (List J.D×Ro))(cp:List (Option Nat))(Y1:L2.St)(r:Ow)(ds:List J.D)(g':Gh)(Z:Ro)(H1:Hp)(D:QO):Nat->Nat->L2.St->Hp->Prop:=λi m Y' H'=>m=ds.length-i/\i<=ds.length/\∃(B:Gh) (q:Pr) (us:List V) (R:List J.D) (O:Ro),f (ds.take i) Z=QH (R,O)/\Evo g' H1 B H' (λb=>b=D\/q b)/\¬q D/\SE K (B.plus λb=>b=D\/q b) O Y' H'/\
  (∀(j i:Nat),cp[j]?=QH (QH i)->Y'[j]?=Y1[j]?)/\H' D=QH (.lst us)/\TrL K H' (Sx B λb=>b=D\/q b) R [] r us q
theorem ua(O:ao X U c){fi:Ro->IR}(hck:a7 c scope=QJ)(hi:mx X fi tg iter)(gc:nG ⟨fU scope c.sc,ac scope,gw scope⟩ n tg=QH t)(h8:∀C s H ex,nM (ai X (ac scope) scope C s H ex) ft ifs)(g3:∀C s H ex,bz (ai X (ac scope) scope C s H ex) fe elt)(h:jd r (fi Z) (ib (au c scope) t ft fe) (au c scope)=QH (kd,d,Z')){Y:L2.St}{Q:VK}(se:SE X.K g Z Y H)(q:∀v g' H' F,Evo g H g' H' F->SE X.K (g'.plus F) Z' Y H'->VR1 X.K H' g' F kd d v F->Q v H') :
  iP (wI X tg iter) (λv Y H Q=>∀C s H0 ex,wG (ai X (ac scope) scope C s H0 ex) tg v Y H Q) (λY H Q=>∀C s H0 ex,EL (ai X (ac scope) scope C s H0 ex) ifs Y H Q) (λY H Q=>∀C s H0 ex,wE (ai X (ac scope) scope C s H0 ex) elt Y H Q) (au c scope) Y H Q:=by
 let hf:kO (au c scope)=QJ:=by
  simp only[a7,Nr] at hck;show hck.1.2
 unfold jd at h;split at h
 ·ext bs E Z0 gd;split at h
  ·ext I;obtain⟨rfl,I⟩:=I;split at h
   ·ext ys Ze hm;split at h
    ·ext ka;cases h;let CO:=cW O hck;show hi Z [] E Z0 gd g Y H _ se λjj ke g1 H1 h1 h5 jt sp sf D hD=>?_;replace q:∀v g' H' F,Evo g1 H1 g' H' F->SE X.K (g'.plus F) (cN (jc (au c scope)) Ze Z0) Y H'->VR1 X.K H' g' F (.fr (.own [] r)) (.lst ys) v F->Q v H':=λv g' H' F e s r=>q v g' H' F (pB h1 e) s r;clear se h1;generalize g1=g at *;generalize Z0=Z at *;let ha:SE X.K (g.re (i6 (au c scope))) (aJ Z (au c scope)) (cx Y (au c scope)) H1:=h5.cap hf;generalize hx:g.re (i6 (au c scope))=g' at ha;let gS:∀b,Sg g' b↔Sg g b:=λb=>by rw[<- hx];show jQ b
     generalize hZ:aJ Z (au c scope)=Zc at ha hm
     show⟨Lv X.K (aG r (ib (au c scope) t ft fe)) (au c scope) (cx Y (au c scope)) r E g' Zc H1 D,
      ⟨E.length,by simp,NZ _,g',λ_=>False,[],[],Zc,by simp[aG],?_,λz=>z,?_,λj i _=>rfl,ak,by unfold TrL;show⟨rfl,λ_ z=>z⟩⟩,?_⟩
     ·let gD:g' D=QI:=eK ha.mu hD;show⟨λb o n e=>ag hD b o e,λ_=>Iff.rfl,λb i e=>.inl ⟨i,e⟩,λb z=>?_,λb o e=>⟨o,ag hD b o e⟩⟩;rcases z with z|z
      ·subst z;show⟨gD,.inr hD⟩
      ·show z.elim
     ·show ha.plus (ag hD) (λb z=>z.elim (λz=>z▸hD) λz=>z.elim) λb z=>z.elim (λz=>⟨.lst [],z▸ak,λxs h=>by cases h⟩) λz=>z.elim
     rintro i m Y' H' ⟨rfl,kp,gi,f,us,yi,Zi,hc,u,B,hl,hn,gD,tr⟩
     let kl:∀b,(b=D\/f b)->gi b=QI:=λb z=>(u.tmp b z).1
     let kf:ke.P X.K (gi.plus λb=>b=D\/f b) H':=by
      let fz:∀b o,H1 b=QH o->¬Sg g b->H' b=QH o/\¬Sg (gi.plus λb=>b=D\/f b) b:=λb o e n=>by
       let n':g' b=QI:=by
        cases l:g' b with
        |none=>rfl
        |some x=>show absurd ((gS b).mp (by rw[Sg,l];simp)) n
       obtain⟨f1,f2⟩:=u.froz e n';show⟨u.keep b o (λi l=>by rw[n'] at l;cases l) e,λz=>?_⟩;rcases(al b).mp z with z|z
       ·show z f1
       ·show f2 z
      show Src.mono (λb o e n=>(fz b o e n).2) (λb o A e=>?_) (λa e=>sf.from_t e) sp;rcases A with A|A
      ·show(fz b o e A).1
      ·rcases sf.from_l A with sf|⟨i,kb,_⟩
       ·show(fz b o e (by rw[Sg,sf];simp)).1
       ·cases kb
     obtain⟨j1,j2⟩:=jt i _ H' kf hl.mu;by_cases V:i<E.length
     ·let hd:E[i]?=QH E[i]:=NC V;obtain⟨go,yl⟩:=j2 _ hd;show .inr ⟨go,λx H2 hy C s0 H0 ex=>?_⟩;obtain⟨s2,rx⟩:=yl x H2 hy;let st:=pA hm hd hc
      let hg:∃o,ib (au c scope) t ft fe E[i] Zi=QH o:=by
       rcases st with⟨Z1,e,_⟩|⟨kd,Z1,e,_⟩
       ·show⟨_,e⟩
       ·show⟨_,e⟩
      obtain⟨o0,L⟩:=hg;let R:=L;unfold ib at R;split at R
      ·ext ps gp;split at R
       ·ext hw;obtain⟨hw,gv⟩:=hw
        let h4:∀(j i:Nat),(au c scope)[j]?=QH (QH i)->∀p∈ps,p.1≠j:=λj i e p hp z=>by
         have:=N5.mp gv p hp;rw[z,e] at this;cases this
        show tB (ph (CO C s0 H0 ex) n gc) (hJ gp rx λvs hv C1 h2 h6 hz=>?_);let t1:=SE.setAll hv (hl.same s2);let h0:Evo g' H1 gi H2 (λb=>b=D\/f b):=⟨λb o n e=>s2 _ _ (u.keep b o n e),u.out,u.new,u.tmp,λb o e=>let ⟨o',l⟩:=u.dom b o e;⟨o',s2 _ _ l⟩⟩;let h7:TrL X.K H2 (Sx gi λb=>b=D\/f b) yi [] r us f:=tr.go (λb o _ e=>s2 _ _ e) λ_ _ _ n=>n;split at R
        ·ext Zt hT;show h8 C1 h2 h6 hz _ QJ Zt hT _ _ _ _ t1 λgt H3 hr N=>vK λC2 gs gj g0=>?_;obtain⟨M,hs,hj,ht,hu⟩:=t9 h0 B (s2 _ _ gD) h7 hr;rw[<- hj] at N
         let h9:us.length<=i:=by
          rw[tr.len];show NT (gB hc) (by rw[N0];lia)
         split at R
         ·ext ky y Z1 gb;cases R
          let T:bK r (dF ky y,y)=QJ/\aG r (ib (au c scope) t ft fe) (E.take (i+1)) Zc=QH (yi++[y],clr ps Z1):=by
           rcases st with⟨Z2,e,_⟩|⟨kd,Z2,e,e2,e3⟩
           ·rw[L] at e;cases e
           ·rw[L] at e;cases e;show⟨e2,e3⟩
          show g3 C2 gs gj g0 _ ky y Z1 gb _ _ H3 _ N λvy g2 H4 Fy k hh r4=>?_;let kc:=VR1.im hh.mu r4;let g4:(M.plus λb=>b=D\/f b) D=QH QI:=aS (.inl rfl);let kk:H4 D=QH (.lst us):=k.keep D _ (λi l=>by rw[g4] at l;cases l) ht
          let S:∀b,(b=D\/f b)->¬Fy b:=λb z z2=>by
           have:=(k.out b).mp (aS z);rw[(k.tmp b z2).1] at this;cases this
          let h3:=hs.trans k;let mm:MuOk H4 (Sx g2 Fy):=λb z=>hh.mu b ((al b).mpr z);obtain⟨F2,a1,a2⟩:=VR1.fit T.1 mm (λb z=>(k.tmp b z).1) (λb z=>z) kc;let gl:=h9;let kD:∀b o,b≠D->H4 b=QH o->upd H4 D (.lst (us++[vy])) b=QH o:=λb o n e=>by rw[ae n];show e
          let mD:∀b,(b=D\/f b)->(g2.minus λb=>b=D\/f b) b=QI:=λb z=>hUq z;let ga:∀b,((b=D\/f b)\/Fy b)->(g2.minus λb=>b=D\/f b) b=QI:=λb z=>(h3.tmp b z).1;let ho:∀b,(b=D\/(f b\/F2 b))->((b=D\/f b)\/Fy b):=λb z=>z.elim (λz=>.inl (.inl z)) λz=>z.elim (λz=>.inl (.inr z)) λz=>.inr (a1 b z);show⟨us,kk,Os gl (ND V (aP I)),E.length-(i+1),by lia,rfl,V,g2.minus (λb=>b=D\/f b),λb=>f b\/F2 b,us++[vy],yi++[y],clr ps Z1,T.2,(h3.drop ho).upd hD,λz=>z.elim B λz=>S D (.inl rfl) (a1 D z),?_,λj i e=>(j0 hv (h4 j i e)).trans (hn j i e),ak,?_⟩
          ·show SE.upd (SE.clr (SE.drop (by rw[hV k];show hh) ho ga)) (aS (.inl rfl)) (λxs h=>by cases h)
          ·show TrL.snoc (hu.go (λb o A e=>?_) λb o e n z=>?_) ((a2 (Sx (g2.minus λb=>b=D\/f b) λb=>b=D\/(f b\/F2 b)) λb z=>?_).go (λb o A e=>kD b o (λz=>?_) e) λb o e n z=>n z) λb z1 z2=>S b (.inr z1) (a1 b z2)
           ·let nb:b≠D:=λz=>by
             subst z;show A.elim (λz=>z (.inr (.inl rfl))) B
            show kD b o nb (k.keep b o (λi l=>?_) e);rcases A with A|A
            ·show A (.inl (by rw[bJ l];simp))
            ·rw[aS (.inr A)] at l;cases l
           ·let nb:¬(b=D\/f b):=λz=>n (.inr z)
            let gn:(M.plus λb=>b=D\/f b) b=QI:=by
             rw[bT nb]
             cases l:M b with
             |none=>rfl
             |some x=>show absurd (.inl (by rw[l];simp)) n
            obtain⟨f1,f2⟩:=k.froz e gn;rcases z with z|z
            ·rw[bI nb] at z;show z f1
            ·rcases ho b z with z|z
             ·show nb z
             ·show f2 z
           ·rcases z with z|z
            ·by_cases A:b=D\/f b
             ·rw[hUq A] at z;show absurd rfl z
             ·rw[bI A] at z;show .inr (.inl z)
            ·rcases z with z|z|z
             ·right;left;rw[(k.out b).mp (aS (.inl z))];simp
             ·right;left;rw[(k.out b).mp (aS (.inr z))];simp
             ·show .inr (.inr (.inl z))
           ·subst z;show A.elim (λz=>z (.inr (.inl rfl))) λz=>S b (.inl rfl) (a1 b z)
         ·cases R
        ·ext Zt hT;cases R
         let T:aG r (ib (au c scope) t ft fe) (E.take (i+1)) Zc=QH (yi,clr ps Zt):=by
          rcases st with⟨Z1,e,e2⟩|⟨kd,Z1,e,_⟩
          ·rw[L] at e;cases e;show e2
          ·rw[L] at e;cases e
         show h8 C1 h2 h6 hz _ QL Zt hT _ _ _ _ t1 λgt H3 hr N=>vJ ?_;obtain⟨M,hs,hj,ht,hu⟩:=t9 h0 B (s2 _ _ gD) h7 hr;rw[<- hj] at N;show⟨E.length-(i+1),by lia,rfl,V,M,f,us,yi,clr ps Zt,T,hs,B,SE.clr N,λj i e=>(j0 hv (h4 j i e)).trans (hn j i e),ht,hu⟩
        ·cases R
       ·cases R
      ·cases R
     ·let e:i=E.length:=by lia
      subst e;rw[Oh,hm] at hc;cases hc;show .inl ⟨j1 (Ny _),?_⟩;let gk:(cC (jc (au c scope))).Nodup:=by rw[je];simpa[kO] using hf
      let g5:g.re (nJ (jc (au c scope)))=g':=by
       rw[<- hx];congr 1;funext i;show Bs _ _
      let rv:VR1 X.K H' gi (λb=>b=D\/f b) (.fr (.own [] r)) (.lst ys) (.ref D) (λb=>b=D\/f b):=by
       change Tr _ _ _ _ _ _ _;unfold Tr
       show⟨D,_,us,f,rfl,gD,rfl,λ_=>B,(λh=>nomatch h),λb=>⟨λz=>z.imp (λz=>⟨rfl,z⟩) id,λz=>z.imp (λz=>z.2) id⟩,tr⟩
      obtain⟨c1,c2,c3⟩:=mw gk (by rw[ka];simp[jc]) rfl (.refl g H1) (by rw[aT λ_ z=>z];show h5)
       (λj i sl w ej eo ew=>by
        unfold jc at ej;rw[Nu] at ej
        cases l:(au c scope)[j]? with
        |none=>rw[l] at ej;cases ej
        |some o=>
         rw[l] at ej
         cases o with
         |none=>cases ej
         |some i'=>
          cases ej;rw[hn j i l] at ew;unfold cx at ew;rw[Nu,l] at ew;let W:(Y[i]?).join=QH w:=by simpa using ew
          cases q2:Y[i]? with
          |none=>rw[q2] at W;cases W
          |some w'=>rw[q2] at W;have:w'=QH w:=W;rw[this]) (by rw[g5];show u) hl rv
      show q _ _ H' _ c1 c2 c3
    ·cases h
   ·cases h
  ·cases h
 ·cases h
theorem Bt(O:ao X U c){p:Ro->IR}(hck:a7 c scope=QJ)(hns:de iter=QJ)(hi:mx X p tg iter)(i:nG ⟨fU scope c.sc,ac scope,gw scope⟩ n tg=QH t)(m:∀C s H ex,nM (ai X (ac scope) scope C s H ex) ft ifs)(j:∀C s H ex,bz (ai X (ac scope) scope C s H ex) fe elt) :
  bz X (λZ=>jd r (p Z) (ib (au c scope) t ft fe) (au c scope)) (.ListComp elt [⟨tg,iter,ifs,0⟩] scope pos):=by
 intro Z x d y h g Y H Q w q
 show am (oV O.calm (dc O hck) vO
  (λC s f ex a b o k v u l I r e=>vP a b o k v u l I r (e C s f ex)) (λC s f ex a b o k l I e=>e C s f ex a b I) (λC s f ex a b o k l I e=>e C s f ex a b I) (c5 hns)) (ua O hck hi i m j h w q)
end
def w2(X:Cx)(a b:QN)(Y:L2.St)(H:Hp)(R:List V->Hp->Prop):Prop:=wE X a Y H λx H1=>wE X b Y H1 λy H2=>R [x,y] H2
def ub(X:Cx)(f:Ro->Option (List KD×Ro))(a b:QN):Prop:=∀Z kds Z',f Z=QH (kds,Z')->∀g Y H Q,SE X.K g Z Y H->
 (∀vs g' H' F,Evo g H g' H' F->SE X.K (g'.plus F) Z' Y H'->VRL X.K H' g' F kds vs F->Q vs H')->w2 X a b Y H Q
def Strict2(X:Cx)(f:List KD->Option KD)(a b q:QN):Prop:=∀kds B d,f kds=QH (B,d)->∀Y H Q,w2 X a b Y H (MG X kds B d Q)->wE X q Y H Q
section
variable {X:Cx} {U:Tab} {c:Cz}
theorem Strict2.m{f:List KD->Option KD}{k:Ro->Option (List KD×Ro)}(h:Strict2 X f a b node)(o:ub X k a b):bz X (λZ=>(k Z).bind λp=>(f p.1).map λq=>(q.1,q.2,p.2)) node:=by
 intro Z E d C c g Y H Q B q;dsimp only at c
 cases e:k Z with
 |none=>rw[e] at c;cases c
 |some p=>
  obtain⟨i,I⟩:=p;rw[e] at c;dsimp only[Ob] at c
  cases e2:f i with
  |none=>rw[e2] at c;cases c
  |some r=>
   rw[e2] at c;cases c;show h i r.1 r.2 e2 Y H Q (o Z i _ e g Y H _ B λD l t F n j u=>⟨l,lL t F,rJ j λb z=>(n.tmp b z).1,kW,u.off,λv s s2 y=>?_⟩);obtain⟨A,b1,b2⟩:=y;obtain⟨x,w⟩:=yb n j s2 b1 b2.dom;show q v l s A x w b2
theorem VR.one{v:V}(h:VR K g H0 H kd d v):VRs K g H0 H [(kd,d)] [v]:=by
 obtain⟨F,a,c⟩:=h;show⟨F,a,v,[],F,λ_=>False,rfl,λb=>⟨.inl,λz=>z.elim id λz=>z.elim⟩,λ_ _ z=>z,c,rfl,λ_ z=>z⟩
theorem E4{o:Ro->MR}{n:Ro->Option KD}(r:bz X o a)(E:SndE X n b):ub X (λZ=>hZq (o Z) λZ=>cy (n Z) (QH [])) a b:=by
 intro Z kds k h g Y H Q I q;dsimp only[hZq] at h;split at h
 ·ext s d K e1;split at h
  ·ext i e2;cases h;unfold cy at e2;split at e2
   ·ext x L y e;cases e2;cases e;obtain⟨j,l⟩:=x;show r Z s d k e1 g Y H _ I λv m u p f c C=>E k j l y (m.plus p) Y u _ c λw t s2 z=>?_;obtain⟨A,F,D,B⟩:=t6 (kds:=[(j,l)]) (vs:=[w]) f c C s2 z.one;show q [v,w] m t A F D B
   ·cases e2
  ·cases h
 ·cases h
theorem Bu{t s:Ro->MR}(x:bz X t a)(N:bz X s b):ub X (λZ=>i9 (t Z) λZ=>hZq (s Z) λ_=>QH []) a b:=by
 intro Z D C h g Y H Q P q;dsimp only[i9] at h;split at h
 ·ext y d p e1;split at h
  ·cases h
  ·ext j;split at h
   ·ext m S e2;cases h;unfold hZq at e2;split at e2
    ·ext n r R e3;cases e2;show x Z y d p e1 g Y H _ P λv I B u i c L=>N p n r C e3 (I.plus u) Y B _ c λw A o l e k E=>?_;let f:VRL X.K o A l [(n,r)] [w] l:=⟨w,[],l,λ_=>False,rfl,λb=>⟨.inl,λz=>z.elim id λz=>z.elim⟩,λ_ _ z=>z,E,rfl,λ_ z=>z⟩;obtain⟨O,M,F⟩:=pq (by simpa using j) i (L.im c.mu) e k f;show q [v,w] _ o _ O M F
    ·cases e2
   ·cases h
 ·cases h
noncomputable def f2(f:KD->KD->Option KD):List KD->Option KD
 |[x,y]=>f x y
 |_=>QI
theorem n_bin:Strict2 X (f2 (dZ op)) a b (.BinOp a op b pos):=by
 intro c n d h Y H Q p
 match c,h with
 |[x,y],h=>
  show am (Cq (xA op) aq aq) (jZ p λA B o=>jZ o λw z ⟨g,j,m,s,r,q⟩=>?_);obtain⟨v,u,e,f,t⟩:=r.two;cases e;show⟨g,j,x,y,n,d,m,s,f,t,h,λv k i l=>q v k i (l.older s)⟩
def J1:KD->KD->Option KD:=λx y=>xE (QH x) (QH y)
theorem Lw(O:ao X U c)(C:cR b=QJ):Strict2 X (f2 J1) a b (.Subscript a b pos):=by
 intro t D d h Y H Q N
 match t,h with
 |[x,y],h0=>
  let h:xE (QH x) (QH y)=QH (D,d):=h0;clear h0;obtain⟨L,F⟩:=x;obtain⟨I,B⟩:=y
  let o:∀{R:V->V->Hp->Prop},(∀n l f g j,MuOk j (Sg g)->Same j f->VR X.K g j f L F n->VR X.K g j f I B l->(∀v z,Same f z->VR X.K g j z D d v->Q v z)->R n l f)->wE X a Y H λn E=>wE X b Y E λl f=>R n l f:=λk=>
   jZ N λn E M=>jZ M λl f ⟨g,j,m,s,r,q⟩=>by
    obtain⟨v,T,e,S,P⟩:=r.two;cases e;show k n l f g j m s S P q
  rcases tK h with⟨i,e,u⟩|⟨p,e,u⟩
  ·cases(show B=_ from e);show am (tq m7 aq aq (bW C)) (o λn l f g j m s A w q=>?_);obtain rfl:=w.rd.int;show tL u A λv r=>q v f (Same.refl f) r
  ·cases(show F=_ from e);show am (nc (by have:=O.tab.units;lia) aq aq (bW C)) (o λn l f g j m s A w q=>o6 u A w λv r=>q v f (Same.refl f) r)
theorem n_tup:StrictOk X (λkds=>iZ k (QH kds)) es (.Tuple es n pos):=by
 intro kds l d h Y H Q e;dsimp only[iZ] at h;split at h
 ·split at h
  ·ext b;cases h;show am (m4 cQ) (cc e λi j ⟨g,f,m,s1,c,q⟩=>⟨by rw[c.len];show aP b.2,λp a=>?_⟩);show q _ _ (ag a) (c.tupO b.1 m s1 a)
  ·cases h
 ·split at h
  ·ext b;cases h;show am (m4 cQ) (cc e λi j ⟨g,f,m,s1,c,q⟩=>⟨by rw[c.len];show aP b.2,λp a=>?_⟩);show q _ _ (ag a) ((AS (m.same s1) a (c.sh b.1 m s1)).older s1)
  ·cases h
theorem Lx(O:ao X U c){es:List QN}{j:Ro->Option (List RA×Ro)}(w:U.fm x=QH λK=>v3 K B)(l:iW c.sc x=QJ)(v:ah e=QJ)(o:es.all ah=QJ)(m:f7 X j (e::es)) :
  bz X (λZ=>Bq (QH B) (j Z)) (.Call (.Name x p) (e::es) [] pos):=by
 intro Z D d N h g Y H Q C q;obtain⟨n,y,M,S,F,s,z,hk,A,i⟩:=O.tab.fm x _ w;dsimp only at h
 cases a:j Z with
 |none=>rw[a] at h;cases h
 |some r=>
  obtain⟨f,t⟩:=r;rw[a] at h;show am (sX (E:=E0) F s (dC O l) z hk A .nil oO cQ i (aj v) (br o)) (m Z f t a g Y H _ C λR P L I k b u=>?_);rw[N9];show t8 h k b u q
def yg(i:Nat)(Z:Ro):MR:=match Z[i]? with
 |some (QH ⟨QL,k,d⟩)=>if q5 k=QJ then QH (.sh,d,Z) else QH (.fr k,d,Z.set i QI)
 |_=>QI
open Classical in
noncomputable def Gh.off(g:Gh)(i:Nat):Gh:=λb=>if g b=QH (QH i) then QI else g b
theorem uc{g:Gh}(h:Sg (g.off i) b):Sg g b/\g b≠QH (QH i):=by
 by_cases n:g b=QH (QH i)
 ·show absurd (by unfold Gh.off;rw[if_pos n]) h
 ·show⟨λz=>h ?_,n⟩;unfold Gh.off;rw[if_neg n];show z
theorem yh{g:Gh}(h:g b≠QH (QH i)):g.off i b=g b:=by unfold Gh.off;rw[if_neg h]
theorem yj{g:Gh}(h:g b=QH (QH i)):g.off i b=QI:=by unfold Gh.off;rw[if_pos h]
theorem kZ{g:Gh}(h:g.off i b=QH x):g b=QH x/\x≠QH i:=by
 unfold Gh.off at h;split at h
 ·cases h
 ·ext n;show⟨h,λz=>n (by rw[h,z])⟩
theorem nN{g:Gh}{F:Pr}(a:∀b,F b->g b=QH (QH i)):Evo g H (g.off i) H F:=by
 show⟨λ_ _ _ e=>e,λb=>⟨λe=>?_,λe=>(kZ e).1⟩,λb j e=>.inl ⟨j,(kZ e).1⟩,λb z=>⟨yj (a b z),.inl ⟨i,a b z⟩⟩,λ_ o e=>⟨o,e⟩⟩;rw[yh (by rw[e];simp)];show e
theorem rL{g:Gh}{F:Pr}{Z Z':Ro}{Y:L2.St}(h:SE K g Z Y H)(l:∀b,F b->g b=QH (QH i))(w:Z'.length=Z.length)(t:∀(j:Nat) a,Z'[j]?=QH (QH a)->(j≠i/\Z[j]?=QH (QH a))\/(∃v,Y[j]?=QH (QH v)/\a.k=.fz/\Rp K H (Sg ((g.off i).plus F)) a.d v)):SE K ((g.off i).plus F) Z' Y H:=by
 let c:∀b,Sg ((g.off i).plus F) b->Sg g b:=λb z=>((al b).mp z).elim (λz=>(uc z).1) λz=>by rw[Sg,l b z];simp
 show⟨λj a e=>?_,λb z=>h.mu b (c b z),by rw[w];show h.len⟩;rcases t j a e with⟨m,e1⟩|⟨v,e1,e2,e3⟩
 ·obtain⟨v,u,r,q,p⟩:=h.slot j a e1;show⟨v,u,r,λb z=>?_,p.go (λ_ _ _ e=>e) λb o _ n z=>n (c b z)⟩;let f:=q b z;show ca ?_ λs=>by rw[l b s] at f;cases f;show m rfl
  rw[yh (by rw[f];intro z;cases z;show m rfl)];show f
 ·obtain⟨x,k,d⟩:=a;let e2:k=.fz:=e2;subst e2;show⟨v,λ_=>False,e1,λb z=>z.elim,.fz e3⟩
theorem fK(O:ao X U c){i:Nat}(a:fR c x=QH i)(pos:Pos){Y:L2.St}{Q:VK}(e:Y[i]?=QH (QH v))(q:Q v H):wE X (.Name x pos) Y H Q:=by
 unfold fR at a;split at a
 ·ext j d;split at a
  ·ext b;cases a;simp only[Nr,nA,OK] at b;show am (qB (i:=i) (by rw[O.N];show aU d) (by rw[O.sc];show ny b.1) b.2.1 b.2.2) ⟨v,e,q⟩
  ·cases a
 ·cases a
theorem IB(O:ao X U c)(p:fR c x=QH i)(pos:Pos):bz X (yg i) (.Name x pos):=by
 intro Z s d t h g Y H Q m q;unfold yg at h;split at h
 ·ext k w e;obtain⟨v,r,e1,e2,e3⟩:=m.slot i _ e;split at h
  ·ext hk;cases h;let a:=jV hk;subst a;show fK O p pos e1 (q v g H (λ_=>False) (.refl g H) (by rw[aT λ_ z=>z];show m) ⟨λ_ z=>z,?_⟩);show e3.fz_inv.2.weak λb z=>z.elim id λz=>z.elim
  ·cases h;show fK O p pos e1 (q v (g.off i) H r (nN e2) (rL m e2 (by simp) λj u e4=>?_) ?_)
   ·by_cases f:j=i
    ·subst f
     let l:j<Z.length:=by
      have:=(Nq.mp e4).1;simpa using this
     rw[NY l] at e4;cases e4
    ·rw[NW (Ne.symm f)] at e4;show .inl ⟨f,e4⟩
   ·change Tr _ _ _ _ _ _ _;show e3.go (λ_ _ _ e=>e) λb o _ n z=>n (z.elim (λz=>(uc z).1) λz=>by rw[Sg,e2 b z];simp)
 ·cases h
end
section
variable {K:Np} {H:Hp} {S:Pr}
theorem TrL.focus:∀{ds:List D} {es:List Ow} {r:Ow} {xs:List V} {F:Pr} {j:Nat} {d:D},TrL K H S ds es r xs F->ds[j]?=QH d->∃(x:V) (n g:Pr),xs[j]?=QH x/\(∀b,F b↔n b\/g b)/\(∀b,n b->¬g b)/\Tr K H S d (es.getD j r) x n/\
  ∀(k:Hp) (i:Pr) (m:D) (a:Pr),(∀b o,(¬S b\/g b)->H b=QH o->k b=QH o)->(∀b o,H b=QH o->¬S b->¬i b)->Tr K k i m (es.getD j r) x a->(∀b,a b->¬g b)->TrL K k i (ds.set j m) es r xs (λb=>a b\/g b)
 |[],_,_,_,_,_,_,h,e=>by simp at e
 |d0::ds,es,r,xs,F,0,d,h,e=>by
  unfold TrL at h;obtain⟨y,u,q,E,rfl,C,p,w,B⟩:=h;simp at e;subst e
  show⟨y,q,E,rfl,C,p,by cases es<;>simpa using w,λk i m a v s t f=>?_⟩
  unfold TrL
  show⟨y,u,a,E,rfl,λb=>Iff.rfl,f,by cases es<;>simpa using t,B.go v s⟩
 |d0::ds,es,r,xs,F,j+1,d,h,e=>by
  unfold TrL at h;obtain⟨y,u,q,E,rfl,C,p,w,B⟩:=h
  obtain⟨x,n,g,e1,e2,e3,e4,L⟩:=TrL.focus B (by simpa using e)
  let I:es.tail.getD j r=es.getD (j+1) r:=by cases es<;>simp
  rw[I] at e4;show⟨x,n,λb=>q b\/g b,by simpa using e1,λb=>?_,λb l c=>?_,e4,λk i m a v s t f=>?_⟩
  ·rw[C b,e2 b];show⟨λz=>z.elim (λz=>.inr (.inl z)) λz=>z.imp id .inr,λz=>z.elim (λz=>.inr (.inl z)) λz=>z.imp id .inr⟩
  ·rcases c with c|c
   ·show p b c ((e2 b).mpr (.inl l))
   ·show e3 b l c
  ·change TrL K k i (d0::ds.set j m) es r (y::u) _;unfold TrL;show⟨y,u,q,λb=>a b\/g b,rfl,λb=>⟨λz=>z.elim (λz=>.inr (.inl z)) λz=>z.imp id .inr,λz=>z.elim (λz=>.inr (.inl z)) λz=>z.imp id .inr⟩,λb l c=>?_,w.go (λb o A e=>v b o (A.imp id .inl) e) s,L k i m a (λb o A e=>v b o (A.imp id .inr) e) s (by rw[I];show t) λb l c=>f b l (.inr c)⟩;rcases c with c|c
   ·show f b c (.inl l)
   ·show p b l ((e2 b).mpr (.inr c))
def FP(K:Np)(H:Hp)(S:Pr)(k:Ow)(v:V)(F:Pr)(W:Ow)(d1:D)(R:V)(up:D->D):Prop:=∃(F1 B:Pr),(∀b,F b↔F1 b\/B b)/\(∀b,F1 b->¬B b)/\Tr K H S d1 W R F1/\
  ∀(H':Hp) (S':Pr) (O:D) (q:Pr),(∀b o,(¬S b\/B b)->H b=QH o->H' b=QH o)->(∀b o,H b=QH o->¬S b->¬S' b)->Tr K H' S' O W R q->(∀b,q b->¬B b)->Tr K H' S' (up O) k v (λb=>q b\/B b)
theorem FP.root(h:Tr K H S d k v F):FP K H S k v F k d v id:=by
 show⟨F,λ_=>False,λb=>⟨.inl,λz=>z.elim id λz=>z.elim⟩,λ_ _ z=>z,h,λg f c a j l t i=>?_⟩;let e:(λb=>a b\/False)=a:=by funext b;show propext ⟨λz=>z.elim id λz=>z.elim,.inl⟩
 rw[e];show t
theorem FP.same(h:FP K H S k v F k1 d1 v1 up)(s:Same H H2):FP K H2 S k v F k1 d1 v1 up:=by
 obtain⟨l,i,r,f,j,m⟩:=h;show⟨l,i,r,f,j.go (λb o _ e=>s b o e) λ_ _ _ n=>n,λq d c a k1 p t g=>m q d c a (λb o u e=>k1 b o u (s b o e)) (λb o e n=>p b o (s b o e) n) t g⟩
theorem FP.step{es:List Ow}{ds:List D}{up:D->D}{j:Nat}(h:FP K H S k v F (.own es r) (.nd hd ds) v1 up)(T:ds[j]?=QH d):∃a o xs x,v1=.ref a/\H a=QH o/\cP K o hd xs/\xs.length=ds.length/\xs[j]?=QH x/\FP K H S k v F (es.getD j r) d x (λz=>up (.nd hd (ds.set j z))):=by
 obtain⟨Z,B,U,A,M,O⟩:=h;unfold Tr at M;obtain⟨a,o,xs,F',rfl,p,E,N,I,q,t⟩:=M
 obtain⟨x,Y,m,e1,e2,e3,e4,P⟩:=t.focus T
 show⟨a,o,xs,x,rfl,p,E,t.len,e1,Y,λb=>(hd.mu=QJ/\b=a)\/m b\/B b,λb=>?_,λb i c=>?_,e4,λs y n f u w X l=>?_⟩
 ·rw[U b,q b,e2 b];show⟨λz=>z.elim (λz=>z.elim (λz=>.inr (.inl z)) λz=>z.imp id λz=>.inr (.inl z)) λz=>.inr (.inr (.inr z)),λz=>z.elim (λz=>.inl (.inr (.inl z))) λz=>z.elim (λz=>.inl (.inl z)) λz=>z.elim (λz=>.inl (.inr (.inr z))) .inr⟩
 ·rcases c with⟨g,rfl⟩|c|c
  ·show N g ((e2 b).mpr (.inl i))
  ·show e3 b i c
  ·show A b ((q b).mpr (.inr ((e2 b).mpr (.inl i)))) c
 ·let W:=P s y n f (λb o C e=>u b o (C.imp id λz=>.inr (.inl z)) e) w X λb i c=>l b i (.inr (.inl c))
  let Q:s a=QH o:=by
   cases g:hd.mu with
   |true=>show u a o (.inr (.inl ⟨g,rfl⟩)) p
   |false=>show u a o (.inl (I g)) p
  let V:Tr K s y (.nd hd (ds.set j n)) (.own es r) (.ref a) (λb=>(hd.mu=QJ/\b=a)\/(f b\/m b)):=by
   unfold Tr;show⟨a,o,xs,λb=>f b\/m b,rfl,Q,E,λg z=>z.elim (λz=>l a z (.inl ⟨g,rfl⟩)) λz=>N g ((e2 a).mpr (.inr z)),λg=>w a o p (I g),λb=>Iff.rfl,W⟩
  let L:=O s y _ _ (λb o C e=>u b o (C.imp id λz=>.inr (.inr z)) e) w V λb i c=>by
   rcases i with⟨g,rfl⟩|i|i
   ·show A b ((q b).mpr (.inl ⟨g,rfl⟩)) c
   ·show l b i (.inr (.inr c))
   ·show A b ((q b).mpr (.inr ((e2 b).mpr (.inr i)))) c
  let R:(λb=>((hd.mu=QJ/\b=a)\/(f b\/m b))\/B b)=λb=>f b\/((hd.mu=QJ/\b=a)\/m b\/B b):=by
   funext b;show propext ⟨λz=>z.elim (λz=>z.elim (λz=>.inr (.inl z)) λz=>z.imp id λz=>.inr (.inl z)) λz=>.inr (.inr (.inr z)),λz=>z.elim (λz=>.inl (.inr (.inl z))) λz=>z.elim (λz=>.inl (.inl z)) λz=>z.elim (λz=>.inl (.inr (.inr z))) .inr⟩
  rw[R] at L;show L
end
def CG(hd:Hd)(n:Nat)(x:D):Option Nat:=match hd with
 |.lst=>(match x with|.int z=>jN n z|_=>QI)
 |.tup=>(match x with|.int z=>jN n z|_=>QI)
 |.dic t ks=>(match iT x with|some k=>if gY t k=QJ then aR ks k else QI|none=>QI)
 |.obj _ _=>QI
def yk(p:Option (Ow×D×(D->D)))(x:Option KD):Option (Ow×D×(D->D)):=match p,x with
 |some (.own es r,.nd hd ds,up),QH (_,dx)=>(match CG hd ds.length dx with
  |some j=>(match ds[j]? with|some d=>QH (es.getD j r,d,λz=>up (.nd hd (ds.set j z)))|none=>QI)
  |none=>QI)
 |_,_=>QI
def ud(f:Str)(p:Option (Ow×D×(D->D))):Option (Ow×D×(D->D)):=match p with
 |some (.own es r,.nd (.obj c ns) ds,up)=>(match aZ f ns with
  |some j=>(match ds[j]? with|some d=>QH (es.getD j r,d,λz=>up (.nd (.obj c ns) (ds.set j z)))|none=>QI)
  |none=>QI)
 |_=>QI
noncomputable def f8(o:Option (Option Sl)):Option (Ow×D×(D->D)):=match o with
 |some (QH ⟨QL,k,d⟩)=>QH (k,d,id)
 |_=>QI
def lM(X:Cx)(i:Nat)(f:Ro->Option (Ow×D×(D->D)))(e:QN):Prop:=∀Z B O up,f Z=QH (B,O,up)->∀g Y H Q,SE X.K g Z Y H->
 (∀q H' v F k d,Same H H'->Z[i]?=QH (QH ⟨QL,k,d⟩)->Y[i]?=QH (QH v)->(∀b,F b->g b=QH (QH i))->FP X.K H' (Sg g) k v F B O q up->Q q H')->wE X e Y H Q
section
variable {X:Cx} {U:Tab} {c:Cz}
theorem E5(O:ao X U c){i:Nat}(a:fR c x=QH i)(pos:Pos):lM X i (λZ=>f8 Z[i]?) (.Name x pos):=by
 intro Z b j l h g Y H Q f q;dsimp only[f8] at h;split at h
 ·ext k d e;cases h;obtain⟨v,F,e1,e2,e3⟩:=f.slot i _ e;show fK O a pos e1 (q v H v F b j (Same.refl H) e e1 e2 (.root e3))
 ·cases h
theorem E6(O:ao X U c){fp:Ro->Option (Ow×D×(D->D))}{W:Ro->Option KD}(K:lM X i fp a)(N:SndE X W b)(I:cR b=QJ):lM X i (λZ=>yk (fp Z) (W Z)) (.Subscript a b pos):=by
 intro Z k1 d1 up h g Y H Q p q;dsimp only[yk] at h;split at h
 ·ext es r hd R hc kx T M L;split at h
  ·ext j e;split at h
   ·ext dj P;cases h
    cases hd with
    |lst=>
     show am (tq m7 aq aq (bW I)) (K Z _ _ _ M g Y H _ p λS w v F k d s1 e1 e2 e3 m=>N Z _ _ L g Y w _ (p.same s1) λy u s2 A=>?_)
     cases T with
     |int z=>
      obtain rfl:=A.rd.int;obtain⟨C,o,E,x,rfl,B,s,l,f,n⟩:=(m.same s2).step P;cases(s);show .inl ⟨C,E,z,x,rfl,rfl,.of B,by unfold L2.qy;rw[l,(show jN R.length z=QH j from e)];show f,q x u v F k d (s1.trans s2) e1 e2 e3 n⟩
     |_=>cases e
    |tup=>
     show am (tq m7 aq aq (bW I)) (K Z _ _ _ M g Y H _ p λS w v F k d s1 e1 e2 e3 m=>N Z _ _ L g Y w _ (p.same s1) λy u s2 A=>?_)
     cases T with
     |int z=>
      obtain rfl:=A.rd.int;obtain⟨C,o,E,x,rfl,B,s,l,f,n⟩:=(m.same s2).step P;cases(s);show .inr (.inl ⟨C,E,z,x,rfl,rfl,.of B,by unfold L2.qy;rw[l,(show jN R.length z=QH j from e)];show f,q x u v F k d (s1.trans s2) e1 e2 e3 n⟩)
     |_=>cases e
    |dic t ks=>
     simp only[CG] at e;split at e
     ·ext kk hk;split at e
      ·ext hf;show am (nc (by have:=O.tab.units;lia) aq aq (bW I)) (K Z _ _ _ M g Y H _ p λS w v F k d s1 e1 e2 e3 m=>N Z _ _ L g Y w _ (p.same s1) λy u s2 A=>?_);obtain⟨C,o,E,x,rfl,B,s,l,f,n⟩:=(m.same s2).step P;let V:=jX B s hk A.rd hf;rw[e,Ob,f] at V;show⟨C,x,rfl,V,q x u v F k d (s1.trans s2) e1 e2 e3 n⟩
      ·cases e
     ·cases e
    |obj c ns=>cases e
   ·cases h
  ·cases h
 ·cases h
end
section
variable {X:Cx}
theorem IC{p:Ro->Option (Ow×D×(D->D))}(L:attributeBase a f X.env (eval a X.env)=eval a X.env)(t:lM X i p a):lM X i (λZ=>ud f (p Z)) (.Attribute a f pos):=by
 intro Z U R S h g Y H Q M q;dsimp only[ud] at h;split at h
 ·ext T r c ns N E y;split at h
  ·ext j n;split at h
   ·ext O I;cases h;show am (xb aq L) (t Z _ _ _ y g Y H _ M λP w v F k d s1 e1 e2 e3 e=>?_);obtain⟨B,o,V,x,rfl,A,s,l,b,m⟩:=e.step I;obtain⟨C,z,_,⟨K,u⟩,rfl,_⟩:=s;show⟨B,C,z,_,x,rfl,A,K,u f (NO (aU n)),rg n b,q x w v F k d s1 e1 e2 e3 m⟩
   ·cases h
  ·cases h
 ·cases h
end
open Classical in
noncomputable def Gh.give(g:Gh)(F:Pr)(i:Nat):Gh:=λb=>if F b then QH (QH i) else g b
section
variable {K:Np} {H:Hp} {g:Gh} {F:Pr} {Z:Ro} {Y:L2.St}
theorem ig{F2:Pr}(h:F2 b):g.give F2 i b=QH (QH i):=by unfold Gh.give;rw[if_pos h]
theorem bE{F2:Pr}(h:¬F2 b):g.give F2 i b=g b:=by unfold Gh.give;rw[if_neg h]
theorem give_S{F2:Pr}:Sg (g.give F2 i) b↔Sg g b\/F2 b:=by
 by_cases h:F2 b
 ·show⟨λ_=>.inr h,λ_=>by rw[Sg,ig h];simp⟩
 ·show⟨λz=>.inl (by rw[Sg,bE h] at z;show z),λz=>z.elim (λz=>by rw[Sg,bE h];show z) λz=>absurd z h⟩
structure nO(K:Np)(H:Hp)(g:Gh)(F:Pr)(Z:Ro)(Y:L2.St)(i:Nat)(k:Ow)(es:List Ow)(r:Ow)(hd:Hd)(ds:List D)(up:D->D)(a:Addr)(o:HO)(xs:List V)(F':Pr):Prop where
 at_:H a=QH o
 ok:cP K o hd xs
 kids:TrL K H (Sg (g.plus F)) ds es r xs F'
 lab:∀b,F' b->g b=QH (QH i)
 nin:¬F' a
 own:g a=QH (QH i)
 put:∀(o':HO) (hd':Hd) (ds':List D) (xs':List V) (F2 F3:Pr),hd'.mu=QJ->cP K o' hd' xs'->(∀xs,o'≠.tup xs)->(∀b,F2 b->F b)->(∀b,F3 b->F' b\/F2 b)->TrL K H (Sg (g.give F2 i)) ds' es r xs' F3->
  SE K (g.give F2 i) (Z.set i (QH ⟨QL,k,up (.nd hd' ds')⟩)) Y (upd H a o')
theorem FP.node{i:Nat}{L:Pr}{hd:Hd}(U:SE K (g.plus F) Z Y H)(hg:∀b,F b->g b=QI)(e:Z[i]?=QH (QH ⟨QL,k,d⟩))(hv:Y[i]?=QH (QH v))(lb:∀b,L b->(g.plus F) b=QH (QH i))(fp:FP K H (Sg (g.plus F)) k v L (.own es r) (.nd hd ds) v1 up)(y:hd.mu=QJ):∃a o xs F',v1=.ref a/\nO K H g F Z Y i k es r hd ds up a o xs F':=by
 obtain⟨F1,Fr,E,P,X,h4⟩:=fp;unfold Tr at X;obtain⟨a,o,xs,F',rfl,q1,q2,n1,n2,x,t⟩:=X;let I:∀b,L b->g b=QH (QH i):=λb z=>bJ (lb b z);let m:g a=QH (QH i):=I a ((E a).mpr (.inl ((x a).mpr (.inl ⟨y,rfl⟩))));let gF:∀b,F' b->g b=QH (QH i):=λb z=>I b ((E b).mpr (.inl ((x b).mpr (.inr z))));show⟨a,o,xs,F',rfl,q1,q2,t,gF,n1 y,m,λu R Q S A O C T nt s2 s3 t'=>?_⟩;let q:∀b,Sg (g.give A i) b->Sg (g.plus F) b:=λb z=>(al b).mpr ((give_S.mp z).imp id (s2 b));let D:∀b f,b≠a->H b=QH f->upd H a u b=QH f:=λb f n e=>by rw[ae n];show e
 let l:∀b,A b->g b=QI:=λb z=>hg b (s2 b z);let p:¬O a:=λz=>(s3 a z).elim (n1 y) λz=>by rw[l a z] at m;cases m
 show⟨λj sl B=>?_,λb z=>?_,by simp[U.len]⟩
 ·by_cases M:j=i
  ·subst M
   let N:j<Z.length:=by
    have:=(Nq.mp B).1;simpa using this
   rw[NY N] at B;cases B
   let tn:Tr K (upd H a u) (Sg (g.give A j)) (.nd R Q) (.own es r) (.ref a) (λb=>b=a\/O b):=by
    unfold Tr;show⟨a,u,S,O,rfl,ak,T,λ_=>p,λh=>by (rw[C] at h;cases h),λb=>⟨λz=>z.imp (λz=>⟨C,z⟩) id,λz=>z.imp (λz=>z.2) id⟩,t'.go (λb f c e=>D b f (λz=>?_) e) λ_ _ _ n=>n⟩;subst z;rcases c with c|c
    ·show c (give_S.mpr (.inl (by rw[Sg,m];simp)))
    ·show p c
   show⟨v,_,hv,λb z=>?_,h4 (upd H a u) (Sg (g.give A j)) _ _ (λb f c e=>D b f (λz=>?_) e) (λb f _ n z=>n (q b z)) tn λb V s=>?_⟩
   ·rcases z with(rfl|z)|z
    ·rw[bE (λz=>by rw[l b z] at m;cases m)];show m
    ·by_cases s:A b
     ·show ig s
     ·rw[bE s];show(s3 b z).elim (gF b) λz=>absurd z s
    ·have:=I b ((E b).mpr (.inr z));rw[bE (λz=>by rw[l b z] at this;cases this)];show this
   ·subst z;rcases c with c|c
    ·show c ((al b).mpr (.inl (by rw[Sg,m];simp)))
    ·show P b ((x b).mpr (.inl ⟨y,rfl⟩)) c
   ·rcases V with rfl|V
    ·show P b ((x b).mpr (.inl ⟨y,rfl⟩)) s
    ·rcases s3 b V with z|z
     ·show P b ((x b).mpr (.inr z)) s
     ·have:=I b ((E b).mpr (.inr s));rw[l b z] at this;cases this
  ·rw[NW (Ne.symm M)] at B;obtain⟨w,Fj,e1,e2,e3⟩:=U.slot j sl B;let W:∀b,Fj b->g b=QH (QH j):=λb z=>bJ (e2 b z);show⟨w,Fj,e1,λb z=>?_,e3.go (λb f c e=>D b f (λz=>?_) e) λb f _ n z=>n (q b z)⟩
   ·have:=W b z;rw[bE (λz=>by rw[l b z] at this;cases this)];show this
   ·subst z;rcases c with c|c
    ·show c ((al b).mpr (.inl (by rw[Sg,m];simp)))
    ·rw[W b c] at m;cases m;show M rfl
 ·by_cases c:b=a
  ·show⟨u,by rw[c];show ak,nt⟩
  ·obtain⟨f,e2,n⟩:=U.mu b (q b z);show⟨f,D b f c e2,n⟩
theorem Evo.give{F2:Pr}(c:Evo g0 H0 g H F)(s2:∀b,F2 b->F b)(h:g a=QH (QH i)):Evo g0 H0 (g.give F2 i) (L2.upd H a o') (λ_=>False):=by
 let d:∀b,F2 b->g b=QI:=λb z=>(c.tmp b (s2 b z)).1;show⟨λb o n e=>?_,λb=>⟨λe=>?_,λe=>?_⟩,λb j e=>?_,λ_ z=>z.elim,λb o e=>?_⟩
 ·rw[ae (λz=>?_)]
  ·show c.keep b o n e
  ·subst z;rcases c.new b i h with⟨j,q⟩|q
   ·show n j q
   ·rw[e] at q;cases q
 ·have:=(c.out b).mp e;rw[bE (λz=>by rw[d b z] at this;cases this)];show this
 ·by_cases z:F2 b
  ·rw[ig z] at e;cases e
  ·rw[bE z] at e;show(c.out b).mpr e
 ·by_cases z:F2 b
  ·show(c.tmp b (s2 b z)).2
  ·rw[bE z] at e;show c.new b j e
 ·by_cases f:b=a
  ·show⟨o',by rw[f];show ak⟩
  ·obtain⟨k,q⟩:=c.dom b o e;show⟨k,by rw[ae f];show q⟩
end
end J
namespace L2
open PyProof.Rows
open PySem.AutoSeq1
theorem rM(l:QO)(c:Array QK)(n:Nat)(b:QO)(a:Array QK)(k:Nat)(p:Option QO)(o:Array (Option QK))(m:¬(!c.isEmpty&&Builtin.List.listTooLong (c.size+a.size))=QJ)(e:c.size<=sizeLine)(hs2:c.size+a.size<=sizeLine+1) :
  Meets (Builtin.«list.extend» ⟨[.ref l,.ref b],[]⟩) (λ_ R s=>s.heap.get? l=QH { cls:=.type "list",dict:=QI,data:=.seq c n,slots:=#[] }/\s.heap.get? b=QH { cls:=.type "tuple",dict:=p,data:=.seq a k,slots:=o }/\R (.ok (.ret Value.none)) { s with heap:=s.heap.update l (Obj.mapSeq λx=>x++a),toks:=s.toks }):=
 .of_wp λf w A R s h=>by
  obtain⟨q,g,d,t,r⟩:=s;obtain⟨i,j,h⟩:=h;obtain f1:=idx_int;obtain f2:=AutoSeq1.sub_tuple_tuple;obtain f3:=AutoSeq1.sub_list_list;obtain f4:=AutoSeq1.sub_tuple_list;obtain f5:=AutoSeq1.sub_list_tuple;obtain hz':(c++a).size<=sizeLine+1:=by rw[Array.size_append];show hs2
  wp_walk using(wpAny_updateSeq i rfl (hz:=e) (_hz':=hz')),wpAny_loadPart' i,wpAny_loadPart' j;show⟨_,rfl,h⟩
def pC:V->List V->Hp->VK->Prop:=λx vs H Q=>∃l b xs zs,x=.ref l/\vs=[.ref b]/\H l=QH (.lst xs)/\(H b=QH (.lst zs)\/H b=QH (.tup zs))/\xs.length+zs.length<=sizeLine/\Q .non (upd H l (.lst (xs++zs)))
theorem rN:Hy X "list.extend" pC:=by
 intro g s Y H x R v N Q I A y h;obtain⟨l,b,M,o,rfl,rfl,i,hBq,B,q⟩:=h;rcases hBq with hBq|hBq
 ·show vG g s Y H _ _ _ _ Q I A y ⟨l,b,M,o,rfl,rfl,i,hBq,B,q⟩
 cases A;obtain⟨u,rfl,C⟩:=y.one;cases C;obtain⟨z,d,n,r,P,e⟩:=I.lstM i;obtain⟨O,a,t,⟨c,K,D,E⟩,e2,j,p,m⟩:=(show ObjOk X.prog X.w H s.heap b (.tup o) from I.hok b _ hBq);replace j:c=.type "tuple":=j;replace m:D=.seq _ p:=m;subst j m;let L:=t.length;let k:d.toArray.size+a.toArray.size<=sizeLine:=by rw[Nz,Nz];lia
 let f:¬(!d.toArray.isEmpty&&Builtin.List.listTooLong (d.toArray.size+a.toArray.size))=QJ:=by
  rw[ko k,Pv];show NV
 show call_meets F.slot_list_extend ⟨_,e,rfl⟩ F.entry_list_extend (F.args_list_extend_2 _ _)
  (rM l d.toArray n b a.toArray p K E f (by rw[Nz];lia) (by lia)) ⟨e,e2,?_⟩
 show⟨.non,_,I.lset (its':=d++a) i e (by simp) (r.append t) ?_,rfl,q⟩;rw[NK]
 lia
end L2
namespace J
def jf(m:Str)(es:List Ow)(r:Ow)(ds:List D)(q:List KD):Option (D×List D):=
 if m="append" then(match q with|[x]=>if es.length<=ds.length/\bK r x=QJ/\ds.length<100000 then QH (.non,ds++[x.2]) else QI|_=>QI)
 else if m="extend" then(match q with|[(k,.nd hd ys)]=>if eW (.own es r)=QJ/\dY k ys=QJ/\bw k=QL/\ds.length+ys.length<=100000/\(hd=.lst\/hd=.tup) then QH (.non,ds++ys) else QI|_=>QI)
 else if m="pop" then(match q with
  |[]=>if eW (.own es r)=QJ then(ds[ds.length-1]?).map λd=>(d,ds.dropLast) else QI
  |[(_,.int z)]=>if eW (.own es r)=QJ/\-(2^63)<=z/\z<2^63 then(match seqIndex? z ds.length with|some j=>(ds[j]?).map λd=>(d,ds.eraseIdx j)|none=>QI) else QI
  |_=>QI)
 else QI
def E7(m:Str):V->List V->Hp->VK->Prop:=
 if m="append" then tw else if m="extend" then pC else if m="pop" then(λx vs H Q=>Hz x vs H Q\/xi x vs H Q) else λ_ _ _ _=>False
section
variable {K:Np} {H:Hp} {g g0:Gh} {H0:Hp} {F F':Pr} {Z:Ro} {Y:L2.St} {i:Nat} {k:Ow} {es:List Ow} {r:Ow} {ds:List D} {up:D->D} {a:QO} {o:HO} {xs:List V}
theorem ii:g.give (λ_=>False) i=g:=by funext b;show bE λz=>z
theorem TrL.snoc2:∀{ds:List D} {es:List Ow} {r:Ow} {us:List V} {F F2:Pr} {d:D} {v:V},es.length<=ds.length->TrL K H S ds es r us F->Tr K H S d r v F2->(∀b,F b->¬F2 b)->TrL K H S (ds++[d]) es r (us++[v]) (λb=>F b\/F2 b)
 |[],es,r,us,F,F2,d,v,hl,h,t,dj=>by
  have:es=[]:=OT.mp (Nat.le_zero.mp hl);subst this;show TrL.snoc h t dj
 |e::ds,es,r,us,F,F2,d,v,hl,h,t,dj=>by
  unfold TrL at h;obtain⟨y,g,i,j,rfl,c,f,m,l⟩:=h;change TrL K H S (e::(ds++[d])) es r (y::(g++[v])) _;unfold TrL
  show⟨y,g++[v],i,λb=>j b\/F2 b,rfl,λb=>?_,λb k a=>?_,m,TrL.snoc2 (by cases es<;>simp at hl⊢;lia) l t λb z=>dj b ((c b).mpr (.inr z))⟩
  ·change F b\/F2 b↔i b\/j b\/F2 b;rw[c b,or_assoc]
  ·rcases a with a|a
   ·show f b k a
   ·show dj b ((c b).mpr (.inl k)) a
theorem TrL.ofFlat:∀{ds:List D} {es:List Ow} {xs:List V},(∀e∈es,e=.fz)->RpL K H S ds xs->TrL K H S ds es .fz xs λ_=>False
 |[],_,_,_,h=>by unfold TrL;show⟨h.nil_inv,λ_ z=>z⟩
 |d::ds,es,_,he,h=>by
  obtain⟨y,c,rfl,r,t⟩:=h.cons_inv;unfold TrL
  show⟨y,c,_,_,rfl,λb=>⟨.inl,λz=>z.elim id id⟩,λ_ z=>z.elim,?_,TrL.ofFlat (λe q=>he e (by cases es with|nil=>cases q|cons a r=>show .tail _ q)) t⟩
  let e:es.headD .fz=.fz:=by
   cases es with
   |nil=>rfl
   |cons a r=>show he a (.head _)
  rw[e];show Tr.fz r
theorem k4{Q:VK}(h:jf m es r ds as=QH (d',ds'))(f:nO K H g F Z Y i k es r .lst ds up a o xs F')(ev:Evo g0 H0 g H F)(se:SE K (g.plus F) Z Y H)(M:VRL K H g F as vs F)(q:∀v g' H' O,Evo g0 H0 g' H' O->SE K (g'.plus O) (Z.set i (QH ⟨QL,k,up (.lst ds')⟩)) Y H'->VR1 K H' g' O .sh d' v O->Q v H'):E7 m (.ref a) vs H Q:=by
 let ho:o=.lst xs:=f.ok;subst ho;let U:∀b,F b->g b=QI:=λb z=>(ev.tmp b z).1;let mm:MuOk H (Sx g F):=λb z=>se.mu b ((al b).mpr z);let sx:∀b,Sg (g.plus F) b↔Sx g F b:=λb=>al b
 -- behind the change
 let u:∀{c:List V} {F2 F3:Pr} {v:V},(∀b,F2 b->F b)->(∀b,F3 b->F' b\/F2 b)->TrL K H (Sg (g.give F2 i)) ds' es r c F3->Rp K (upd H a (.lst c)) (Sg (g.give F2 i)) d' v->Q v (upd H a (.lst c)):=λ{c F2 F3 v} s2 s3 t E=>by
  show q v (g.give F2 i) _ (λ_=>False) (ev.give s2 f.own) ?_ ⟨λ_ z=>z,E.weak λb z=>z.elim id λz=>z.elim⟩;rw[aT λ_ z=>z];show f.put (.lst c) .lst ds' c F2 F3 rfl rfl (λ_ h=>by cases h) s2 s3 t
 let P:∀{F2:Pr},(∀b,F2 b->F b)->∀b o,H b=QH o->¬Sg (g.plus F) b->¬Sg (g.give F2 i) b:=λs2 b o _ n z=>n ((al b).mpr ((give_S.mp z).imp id (s2 b)))
 let p:eW (.own es r)=QJ->(∀e∈es,e=.fz)/\r=.fz/\RpL K H (Sg g) ds xs:=λS=>by
  obtain⟨w,A⟩:=tG S;show⟨w,A,?_⟩;have:=f.kids;rw[A] at this;show(this.flat w).2.weak λb z=>(al b).mpr (.inl z)
 let L:∀{d:D} {v:V} {c:List V},Rp K H (Sg g) d v->Rp K (upd H a (.lst c)) (Sg g) d v:=λr=>r.go λb o n e=>⟨by rw[ae (λz=>n (by rw[z,Sg,f.own];simp))];show e,n⟩;unfold jf at h;unfold E7;split at h
 ·ext W;rw[if_pos W];split at h
  ·ext x;split at h
   ·ext l;cases h;obtain⟨y,ys,F1,ha,rfl,I,dj,r1,rfl,hn⟩:=M;let e1:∀b,F b↔F1 b:=λb=>⟨λz=>((I b).mp z).elim id λz=>absurd z (hn b),λz=>(I b).mpr (.inl z)⟩;obtain⟨F2,T,a2⟩:=VR1.fit l.2.1 mm (λb z=>U b ((e1 b).mpr z)) (λb z=>(e1 b).mpr z) r1;show⟨a,xs,y,rfl,rfl,f.at_,by rw[f.kids.len];show ND l.2.2 (aP (Ny _)),?_⟩;show u (F2:=F2) (F3:=λb=>F' b\/F2 b) (λb z=>(e1 b).mpr (T b z)) (λb z=>z) (TrL.snoc2 l.1 (f.kids.go (λ_ _ _ e=>e) (P λb z=>(e1 b).mpr (T b z))) (a2 _ λb z=>?_) λb z1 z2=>?_) (by unfold Rp;rfl)
    ·rcases give_S.mp z with z|z
     ·show .inr (.inl z)
     ·show .inr (.inr (.inl z))
    ·have:=f.lab b z1;rw[U b ((e1 b).mpr (T b z2))] at this;cases this
   ·cases h
  ·cases h
 ·ext W;rw[if_neg W];split at h
  ·ext C;rw[if_pos C];split at h
   ·ext kk ys;split at h
    ·ext l;cases h;obtain⟨w,A,s⟩:=p l.1;subst A;obtain⟨v,rfl,E⟩:=M.off.one;obtain⟨b,o,zs,rfl,gb,qb,rb⟩:=E.items l.2.1 (rJ se U) kW;show⟨a,b,xs,zs,rfl,rfl,f.at_,?_,by rw[s.len,rb.len];show aP l.2.2.2.1,?_⟩
     ·rcases l.2.2.2.2 with rfl|rfl<;>cases(show o=_ from qb)
      ·show .inl gb
      ·show .inr gb
     show u (F2:=λ_=>False) (F3:=λ_=>False) (λ_ z=>z.elim) (λ_ z=>z.elim) (by rw[ii];show .ofFlat w (s.append rb)) (by unfold Rp;rfl)
    ·cases h
   ·cases h
  ·ext C;rw[if_neg C];split at h
   ·ext R;rw[if_pos R];split at h
    ·split at h
     ·ext S;obtain⟨w,A,s⟩:=p S;subst A;obtain⟨rfl,_⟩:=M;obtain⟨dd,B,e⟩:=bx h;cases e;obtain⟨y,N,X⟩:=s.getD B;rw[<- s.len] at N;show .inl ⟨a,xs,y,rfl,rfl,f.at_,N,?_⟩
      show u (F2:=λ_=>False) (F3:=λ_=>False) (λ_ z=>z.elim) (λ_ z=>z.elim) (by
       rw[ii,Qa,Qa,s.len];show .ofFlat w (s.take _)) (by rw[ii];show L X)
     ·cases h
    ·ext kz z;split at h
     ·ext l;obtain⟨w,A,s⟩:=p l.1;subst A;obtain⟨v,rfl,E⟩:=M.off.one;obtain rfl:=E.rd.int;split at h
      ·ext j hj;obtain⟨dd,B,e⟩:=bx h;cases e;obtain⟨y,N,X⟩:=s.getD B;show .inr ⟨a,xs,z,j,y,rfl,rfl,f.at_,l.2.1,l.2.2,by rw[s.len];show hj,N,?_⟩;show u (F2:=λ_=>False) (F3:=λ_=>False) (λ_ z=>z.elim) (λ_ z=>z.elim) (by rw[ii];show .ofFlat w (s.erase _)) (by rw[ii];show L X)
      ·cases h
     ·cases h
    ·cases h
   ·cases h
end
noncomputable def mNames:List Str:=["append","extend","pop"]
def ij(m:Str)(i:Nat)(p:Option (Ow×D×(D->D)))(q:Option (List KD))(Z:Ro):MR:=match p,q with
 |some (.own es r,.nd .lst ds,up),QH q=>(match jf m es r ds q,Z[i]? with
  |some (d',ds'),QH (QH ⟨QL,k,_⟩)=>QH (.sh,d',Z.set i (QH ⟨QL,k,up (.lst ds')⟩))
  |_,_=>QI)
 |_,_=>QI
section
variable {X:Cx} {U:Tab} {c:Cz}
theorem rO(f:m∈mNames):∃id,Slot "list" m id/\typeOf (.builtin id)=pure (.type "method_descriptor")/\GD X id (E7 m):=by
 simp only[mNames,NB,NQ,or_false] at f;rcases f with rfl|rfl|rfl
 ·show⟨_,PySem.F.slot_list_append,PySem.F.type_list_append,l7⟩
 ·show⟨_,PySem.F.slot_list_extend,PySem.F.type_list_extend,rN⟩
 ·show⟨_,PySem.F.slot_list_pop,PySem.F.type_list_pop,?_⟩;intro a s Y H x c v b Q I e d h;rcases h with h|h
  ·show Ed a s Y H x c v b Q I e d h
  ·show xj a s Y H x c v b Q I e d h
theorem E8{ap cp:Pos}{n:Ro->Option (Ow×D×(D->D))}(C:m∈mNames)(u:lM X i n b)(L:d9 b=QJ)(x:(ap.endLine==cp.line)=QJ):bz X (λZ=>ij m i (n Z) (QH []) Z) (.Call (.Attribute b m ap) [] [] cp):=by
 intro Z P d S h g Y H Q s q;dsimp only[ij] at h;split at h
 ·ext W r N U as A w;cases w;split at h
  ·ext d' B k T M l;cases h;obtain⟨I,s1,s2,s3⟩:=rO (X:=X) C;show am (qU PySem.F.plainAttrs_list s1 s2 s3 aq (dD L) x) (u Z _ _ _ A g Y H _ s λR y v F k0 O f e1 e2 e3 t=>?_);rw[l] at e1;cases e1;let c:SE X.K (g.plus λ_=>False) Z Y y:=by rw[aT λ_ z=>z];show s.same f
   let j:g.plus (λ_=>False)=g:=aT λ_ z=>z;obtain⟨a,o,p,V,rfl,e⟩:=FP.node (F:=λ_=>False) c (λ_ z=>z.elim) l e2 (by rw[j];show e3) (by rw[j];show t) rfl;let E:o=.lst p:=e.ok;subst E;show⟨.inl ⟨rfl,p,.of e.at_⟩,k4 M e (cA f (λ_ z=>z.elim) λ_ z=>z.elim) c ⟨rfl,λ_ z=>z⟩ q⟩
  ·cases h
 ·cases h
theorem E9{b e:QN}{ap cp:Pos}{T:Ro->Option (Ow×D×(D->D))}{U:Ro->Option KD}(hm:m∈mNames)(hp:lM X i T b)(ha:SndE X U e)(R:d9 b=QJ)(N:ah e=QJ)(hl:(ap.endLine==cp.line)=QJ):bz X (λZ=>ij m i (T Z) (cy (U Z) (QH [])) Z) (.Call (.Attribute b m ap) [e] [] cp):=by
 intro Z kd d Z' h g Y H Q s q;dsimp only[ij] at h;split at h
 ·ext es r ds up as ep u;split at h
  ·ext d' hd k dd em L;cases h;obtain⟨hf,s1,s2,s3⟩:=rO (X:=X) hm;show am (Cr PySem.F.plainAttrs_list s1 s2 s3 aq (bq aq dO (aj N)) (dD R) (xL N) hl (aj N) rfl) (hp Z _ _ _ ep g Y H _ s λW C v F k0 d0 j e1 e2 e3 A=>?_);rw[L] at e1;cases e1;unfold cy at u;split at u
   ·ext x he ex O;cases O;cases u;obtain⟨kx,dx⟩:=x;let P:g.plus (λ_=>False)=g:=aT λ_ z=>z
    let sq:∃l,SqL X.K C (match W with|.ref a=>a|_=>0) l/\∃a,W=.ref a:=by
     obtain⟨a,o,l,F',rfl,w⟩:=FP.node (F:=λ_=>False) (by rw[P];show s.same j) (λ_ z=>z.elim) L e2 (by rw[P];show e3) (by rw[P];show A) rfl;let ho:o=.lst l:=w.ok;subst ho;show⟨l,.of w.at_,a,rfl⟩
    obtain⟨S,M,a0,rfl⟩:=sq;show⟨.inl ⟨rfl,S,M⟩,ha Z kx dx ex g Y C _ (s.same j) λy H2 c r2=>?_⟩;obtain⟨p,t,V⟩:=r2;let sy:=(s.same j).plus c t V.dom;let f:∀b,p b->g b=QI:=λb z=>eK (s.same j).mu (t b z);let hc:=A.same c
    let f3:FP X.K H2 (Sg (g.plus p)) k v F (.own es r) (.lst ds) (.ref a0) up:=by
     obtain⟨F1,Fr,q1,q2,q3,q4⟩:=A;let B:∀b o,C b=QH o->¬Sg g b->¬Sg (g.plus p) b:=λb o e n z=>((al b).mp z).elim n λz=>by rw[t b z] at e;cases e
     show⟨F1,Fr,q1,q2,q3.go (λb o _ e=>c b o e) B,λH' S' I E t1 t2 t3 t4=>q4 H' S' I E (λb o R e=>t1 b o (R.imp (λn=>B b o e n) id) (c b o e)) (λb o e n=>t2 b o (c b o e) (B b o e n)) t3 t4⟩
    obtain⟨a,o,l,F',e4,w⟩:=FP.node (F:=p) sy f L e2 (λb z=>ca (e3 b z) λz2=>by have:=e3 b z;rw[f b z2] at this;cases this) f3 rfl;cases e4;show k4 em w (cA (j.trans c) (λb z=>j.free (t b z)) f) sy ⟨y,[],p,λ_=>False,rfl,λb=>⟨.inl,λz=>z.elim id λz=>z.elim⟩,λ_ _ z=>z,V,rfl,λ_ z=>z⟩ q
   ·cases u
  ·cases h
 ·cases h
def ue(m:Str)(i:Nat)(o:Option (Option Sl))(a:MR):MR:=match o,a with
 |some (QH ⟨QL,.own _ _,.nd .lst _⟩),QH (kd,d,Z1)=>ij m i (f8 Z1[i]?) (QH [(dF kd d,d)]) Z1
 |_,_=>QI
theorem Fa(O:ao X U c){i:Nat}{e:QN}{ap cp:Pos}{B:Ro->MR}(hm:m∈mNames)(hc:fR c x=QH i)(M:bz X B e)(S:d9 (.Name x p)=QJ)(s:ah e=QJ)(N:(ap.endLine==cp.line)=QJ):bz X (λZ=>ue m i Z[i]? (B Z)) (.Call (.Attribute (.Name x p) m ap) [e] [] cp):=by
 intro Z kd d Z' h g Y H Q K q;dsimp only[ue] at h;split at h
 ·ext hd r0 he kx dx E T P;obtain⟨hf,s1,s2,s3⟩:=rO (X:=X) hm;obtain⟨v,F,e1,e2,e3⟩:=K.slot i _ T;let l:=e3;unfold Tr at l;obtain⟨a0,o0,n,hg,rfl,A,t,_⟩:=l;let t:o0=.lst n:=t;subst t;show am (Cr PySem.F.plainAttrs_list s1 s2 s3 aq (bq aq dO (aj s)) (dD S) (xL s) N (aj s) rfl) (fK O hc p e1 ⟨.inl ⟨rfl,n,.of A⟩,M Z kx dx E P g Y H _ K λy A H1 u C f W=>?_⟩);unfold ij at h;split at h
  ·ext es r ds up as I L;cases L;split at h
   ·ext d' V k R em j;cases h;have:f8 E[i]?=QH (k,R,id):=by rw[j];rfl
    rw[this] at I;cases I;obtain⟨w,Fi,D,w2,w3⟩:=f.slot i _ j;rw[e1] at D;cases D;obtain⟨a,o,xs,F',e4,nd⟩:=FP.node (F:=u) f (λb z=>(C.tmp b z).1) j e1 w2 (.root w3) rfl;cases e4;show k4 em nd C f ⟨y,[],u,λ_=>False,rfl,λb=>⟨.inl,λz=>z.elim id λz=>z.elim⟩,λ_ _ z=>z,W.im f.mu,rfl,λ_ z=>z⟩ q
   ·cases h
  ·cases h
 ·cases h
end
abbrev iH:Pr:=λ_=>False
noncomputable def frzN:List Nat->Ro->Ro
 |[],Z=>Z
 |i::is,Z=>frzN is (match Z[i]? with|some (QH ⟨QL,k,d⟩)=>Z.set i (QH ⟨QL,.fz,d⟩)|_=>Z)
theorem SE.frz1{g:Gh}{Z:Ro}{i:Nat}(f:SE K g Z Y H)(e:Z[i]?=QH (QH ⟨QL,k,d⟩)):SE K (g.off i) (Z.set i (QH ⟨QL,.fz,d⟩)) Y H/\Evo g H (g.off i) H iH:=by
 obtain⟨v,m,e1,e2,e3⟩:=f.slot i _ e;let r:Rp K H (Sg ((g.off i).plus iH)) d v:=e3.rp λb z=>((al b).mp z).elim (λz=>⟨(uc z).1,λh=>(uc z).2 (e2 b h)⟩) λz=>z.elim
 have:=rL (Z':=Z.set i (QH ⟨QL,.fz,d⟩)) (F:=iH) f (λ_ z=>z.elim) (by simp) λj l e4=>(by
  by_cases a:j=i
  ·subst a
   let c:j<Z.length:=by
    have:=(Nq.mp e4).1;simpa using this
   rw[NY c] at e4;cases e4;show .inr ⟨v,e1,rfl,r⟩
  ·rw[NW (Ne.symm a)] at e4;show .inl ⟨a,e4⟩)
 rw[aT λ_ z=>z] at this;show⟨this,nN λ_ z=>z.elim⟩
theorem SE.frzN{H:Hp}:∀(a:List Nat) {g:Gh} {Z:Ro},SE K g Z Y H->∃g',SE K g' (frzN a Z) Y H/\Evo g H g' H iH
 |[],g,Z,se=>⟨g,se,.refl g H⟩
 |i::a,g,Z,se=>by
  unfold J.frzN;split
  ·ext k d e;obtain⟨s1,e1⟩:=se.frz1 e;obtain⟨b,s2,e2⟩:=SE.frzN a s1;show⟨b,s2,pB e1 e2⟩
  ·show SE.frzN a se
inductive BP where
 |nm (i:Nat)
 |ix (b:BP) (e:IE)
 |fld (b:BP) (f:Str)
noncomputable def BP.slot:BP->Nat
 |.nm i=>i
 |.ix b _=>b.slot
 |.fld b _=>b.slot
def rP(U:Nat->Option Fn):BP->Ro->Option (Ow×D×(D->D))
 |.nm i,Z=>f8 Z[i]?
 |.ix b e,Z=>yk (rP U b Z) (aa U e Z)
 |.fld b f,Z=>ud f (rP U b Z)
inductive MI where
 |p (it:II)
inductive MT where
 |p (e:IE)
inductive MO where
 |non
mutual
inductive ME where
 |p (e:IE)
 |mv (i:Nat)
 |io (f:Nat) (as:MAs)
 |blt (x:Str) (as:uf)
 |tup (k:Ow) (as:uf)
 |bin (op:Q1) (as:uf)
 |ix (as:uf)
 |comp (r:Ow) (cap:List (Option Nat)) (tg:IT) (it:MI) (ts:MO) (elt:ME)
 |mut (m:Str) (b:BP) (as:fV)
 |mutM (m:Str) (i:Nat) (a:ME)
inductive MAs where
 |nil
 |ref (i:Nat) (r:MAs)
 |val (a:ME) (r:MAs)
inductive uf where
 |fin (a:ME) (r:fV)
 |cons (a:ME) (r:uf)
end
noncomputable def oS(f:List KD->Option KD)(a:Option (List KD×Ro)):MR:=match a with
 |some (kds,Z)=>(match f kds with|some (kd,d)=>QH (kd,d,Z)|none=>QI)
 |none=>QI
noncomputable def J2(a:Option KD)(Z:Ro):MR:=match a with|some (kd,d)=>QH (kd,d,Z)|none=>QI
noncomputable def Ly(a:Option Bool)(Z:Ro):Option (Bool×Ro):=match a with|some b=>QH (b,Z)|none=>QI
structure GG where
 fn:Nat->Option Fn
 fm:Nat->Option Fm
def nP(U:GG):MI->Ro->IR
 |.p it,Z=>Lu (fW U.fn it Z) Z
def lN(U:GG):MT->Ro->Option (Bool×Ro)
 |.p e,Z=>Ly (aK U.fn e Z) Z
noncomputable def Bv(U:GG):MO->Ro->Option (Bool×Ro)
 |.non,Z=>QH (QJ,Z)
mutual
def bf(U:GG):ME->Ro->MR
 |.p e,Z=>J2 (aa U.fn e Z) Z
 |.mv i,Z=>yg i Z
 |.io f as,Z=>Bq (U.fm f) (e6 U as Z)
 |.blt x as,Z=>oS (eJ x) (cj U as Z)
 |.tup k as,Z=>oS (λkds=>iZ k (QH kds)) (cj U as Z)
 |.bin op as,Z=>oS (f2 (dZ op)) (cj U as Z)
 |.ix as,Z=>oS (f2 J1) (cj U as Z)
 |.comp r cap tg it ts elt,Z=>jd r (nP U it Z) (ib cap tg (Bv U ts) (bf U elt)) cap
 |.mut m b as,Z=>ij m b.slot (rP U.fn b Z) (aW U.fn as Z) Z
 |.mutM m i a,Z=>ue m i Z[i]? (bf U a Z)
def e6(U:GG):MAs->Ro->Option (List RA×Ro)
 |.nil,Z=>QH ([],Z)
 |.ref i r,Z=>pv i Z[i]? (e6 U r Z)
 |.val a r,Z=>yc (bf U a Z) (e6 U r)
def cj(U:GG):uf->Ro->Option (List KD×Ro)
 |.fin a r,Z=>hZq (bf U a Z) (aW U.fn r)
 |.cons a r,Z=>i9 (bf U a Z) (cj U r)
end
section
theorem ym{U:GG}:bf U (.p e) Z=J2 (aa U.fn e Z) Z:=rfl
theorem Fb:bf U (.mv i) Z=yg i Z:=rfl
theorem rQ{U:GG}:bf U (.io f as) Z=Bq (U.fm f) (e6 U as Z):=rfl
theorem Bw:bf U (.blt x as) Z=oS (eJ x) (cj U as Z):=rfl
theorem Bx:bf U (.tup k as) Z=oS (λkds=>iZ k (QH kds)) (cj U as Z):=rfl
theorem By:bf U (.bin op as) Z=oS (f2 (dZ op)) (cj U as Z):=rfl
theorem Fc:bf U (.ix as) Z=oS (f2 J1) (cj U as Z):=rfl
theorem pF:bf U (.comp r cap tg it ts elt) Z=jd r (nP U it Z) (ib cap tg (Bv U ts) (bf U elt)) cap:=rfl
theorem j3{U:GG}:bf U (.mut m b as) Z=ij m b.slot (rP U.fn b Z) (aW U.fn as Z) Z:=rfl
theorem yn:bf U (.mutM m i a) Z=ue m i Z[i]? (bf U a Z):=rfl
end
def wH(f:QN->Option ME)(g:QN->Option IE):List QN->Option uf
 |[]=>QI
 |e::es=>if ah e then(match dE g es with
  |some r=>(f e).map λa=>.fin a r
  |none=>(match f e,wH f g es with|some a,QH r=>QH (.cons a r)|_,_=>QI)) else QI
def CH(c:Cz)(f:QN->Option ME):List Bool->List QN->Option MAs
 |_,[]=>QH .nil
 |true::fl,.Name x _::es=>(match fR c x,CH c f fl es with|some i,QH r=>QH (.ref i r)|_,_=>QI)
 |fl,e::es=>if ah e then(match f e,CH c f fl.tail es with|some a,QH r=>QH (.val a r)|_,_=>QI) else QI
noncomputable def yo(it:Option II):Option MI:=match it with
 |some it=>QH (.p it)
 |none=>QI
def CI(c:Cz)(f:QN->Option IE):Nat->QN->Option BP
 |0,_=>QI
 |n+1,e=>match e with
  |.Name x _=>(fR c x).map .nm
  |.Subscript a b _=>if cR b then(match CI c f n a,f b with|some p,QH e=>QH (.ix p e)|_,_=>QI) else QI
  |.Attribute a z _=>if d9 a then(CI c f n a).map λp=>.fld p z else QI
  |_=>QI
def J3(m:Str)(b:QN)(ap cp:Pos):Bool:=mNames.contains m&&d9 b&&(ap.endLine==cp.line)
def Lz(fns:Nms)(c:Cz)(x:Str)(p:Pos):Option ME:=match fns.md p.line p.col with
 |some QJ=>(fR c x).map .mv
 |_=>QI
def LA(fns:Nms)(c:Cz)(q:QN->Option ME)(R:QN->Option IE)(x:Str)(O:List QN):Option ME:=match O with
 |[]=>QI
 |a::es=>if iW c.sc x&&(a::es).all ah then(match aZ x fns.fns with
  |some i=>(match fns.io i with
   |some B=>(CH c q B (a::es)).map (.io i)
   |none=>QI)
  |none=>(wH q R (a::es)).map (.blt x)) else QI
def J4(c:Cz)(O:QN->Option ME)(q:QN->Option IE)(b:QN)(m:Str)(ap cp:Pos)(B:List QN):Option ME:=match B with
 |[]=>if J3 m b ap cp then(CI c q 6 b).map λp=>.mut m p .nil else QI
 |e::es=>match es with
  |_::_=>QI
  |[]=>if J3 m b ap cp&&ah e then(match q e with
   |some R=>(CI c q 6 b).map λp=>.mut m p (.cons R .nil)
   |none=>(match b with|.Name x _=>(match fR c x,O e with|some i,QH a=>QH (.mutM m i a)|_,_=>QI)|_=>QI)) else QI
def LB(fns:Nms)(c:Cz)(B:QN->Option ME)(O:QN->Option IE)(g:QN)(q:List QN)(ks:List Keyword)(cp:Pos):Option ME:=match ks with
 |_::_=>QI
 |[]=>match g with
  |.Name x _=>LA fns c B O x q
  |.Attribute b m ap=>J4 c B O b m ap cp q
  |_=>QI
noncomputable def nQ:List QN->Option MO
 |[]=>QH .non
 |_=>QI
def v4(fns:Nms)(c:Cz)(B:Cz->QN->Option ME)(O:Cz->QN->Option IE)(elt:QN)(q:List Comprehension)(scope:Q0)(p:Pos):Option ME:=match q with
 |[]=>QI
 |g::q=>match q with
  |_::_=>QI
  |[]=>if g.is_async=0 then(if de g.iter&&a7 c scope then(match nG ⟨fU scope c.sc,ac scope,gw scope⟩ 4 g.target,yo (EO c (O c) g.target g.iter),nQ g.ifs,B ⟨fU scope c.sc,ac scope,gw scope⟩ elt with
    |some t,QH it,QH ts,QH el=>QH (.comp ((fns.an p.line p.col).getD .fz) (au c scope) t it ts el)|_,_,_,_=>QI) else QI) else QI
def cM(fns:Nms):Nat->Cz->QN->Option ME
 |0,_,_=>QI
 |n+1,c,e=>match cE fns n c e with
  |some q=>QH (.p q)
  |none=>match e with
   |.Name x p=>Lz fns c x p
   |.Call g as ks cp=>LB fns c (cM fns n c) (cE fns n c) g as ks cp
   |.Tuple es _ p=>(wH (cM fns n c) (cE fns n c) es).map (.tup (fns.kT p))
   |.BinOp a op b _=>(wH (cM fns n c) (cE fns n c) [a,b]).map (.bin op)
   |.Subscript a b _=>if cR b then(wH (cM fns n c) (cE fns n c) [a,b]).map .ix else QI
   |.ListComp elt gs scope p=>v4 fns c (cM fns n) (cE fns n) elt gs scope p
   |_=>QI
def LC(fns:Nms):Nat->Cz->QN->Option MT
 |0,_,_=>QI
 |n+1,c,e=>(cT fns n c e).map .p
def lO(fns:Nms)(U:GG):Str->Option (Np->Sp):=λx=>(aZ x fns.fns).bind λi=>(U.fm i).map λB=>λK=>v3 K B
abbrev a5(fns:Nms)(U:GG):Tab:=cL fns U.fn (lO fns U)
section
variable {X:Cx} {c:Cz} (fns:Nms) (U:GG)
theorem rR(O:ao X (cL fns U.fn fm) c){d:QN->Option IE}(g:∀e f,d e=QH f->SndE X (aa U.fn f) e)(h:yo (EO c d tg iter)=QH a):mx X (nP U a) tg iter:=by
 unfold yo at h;split at h
 ·ext it b;cases h;show(tX fns U.fn O g b).m
 ·cases h
theorem j4(f:List KD->Option KD)(a:Ro->Option (List KD×Ro)):(λZ=>oS f (a Z))=λZ=>(a Z).bind λp=>(f p.1).map λq=>(q.1,q.2,p.2):=by
 funext Z;unfold oS
 cases a Z with
 |none=>rfl
 |some p=>
  obtain⟨b,c⟩:=p;dsimp only[Ob]
  cases f b with
  |none=>rfl
  |some q=>rfl
theorem rS(h:SndE X (aa U.fn ie) e):bz X (bf U (.p ie)) e:=by
 have:=h.m
 rw[show(λZ=>(aa U.fn ie Z).map λp=>(p.1,p.2,Z))=bf U (.p ie) by funext Z;rw[ym];unfold J2;cases aa U.fn ie Z<;>rfl] at this
 show this
theorem yp{f:QN->Option ME}{g:QN->Option IE}(i:∀e a,f e=QH a->bz X (bf U a) e)(j:∀e a,g e=QH a->SndE X (aa U.fn a) e):∀{es:List QN} {b:uf},wH f g es=QH b->pt X (cj U b) es
 |[],b,h=>by cases h
 |e::es,b,h=>by
  unfold wH at h;split at h
  ·ext k;split at h
   ·ext r c;obtain⟨a,d,rfl⟩:=bx h;show E1 k (i _ _ d) (fJ U.fn j c).1
   ·split at h
    ·ext a r d c;cases h;show Bp k (i _ _ d) (yp i j c)
    ·cases h
  ·cases h
theorem CJ{f:QN->Option ME}{g:QN->Option IE}(m:∀e a,f e=QH a->bz X (bf U a) e)(n:∀e a,g e=QH a->SndE X (aa U.fn a) e){a b:QN}(h:wH f g [a,b]=QH as):ub X (cj U as) a b:=by
 unfold wH at h;split at h
 ·ext s;split at h
  ·ext r c;obtain⟨i,l,rfl⟩:=bx h;unfold dE dE at c;split at c
   ·split at c
    ·ext j o k d;cases c;cases d
     rw[show cj U (.fin i (.cons j .nil))=λZ=>hZq (bf U i Z) λZ=>cy (aa U.fn j Z) (QH []) by
      funext Z;simp only[cj,aW]
      try rfl]
     show E4 (m _ _ l) (n _ _ k)
    ·cases c
   ·cases c
  ·split at h
   ·ext i r l c;cases h;unfold wH at c;split at c
    ·split at c
     ·ext o d;cases d;obtain⟨j,p,rfl⟩:=bx c
      rw[show cj U (.cons i (.fin j .nil))=λZ=>i9 (bf U i Z) λZ=>hZq (bf U j Z) λ_=>QH [] by
       funext Z;simp only[cj,aW]
       try rfl]
      show Bu (m _ _ l) (m _ _ p)
     ·ext q;show absurd q (by simp[dE])
    ·cases c
   ·cases h
 ·cases h
theorem Fd(O:ao X Ut c){f:QN->Option ME}(g:∀e a,f e=QH a->bz X (bf U a) e):∀{j:List Bool} {es:List QN} {b:MAs},CH c f j es=QH b->f7 X (e6 U b) es
 |j,[],b,h=>by
  have:b=.nil:=by
   unfold CH at h;cases h;rfl
  subst this;show CF
 |j,e::es,b,h=>by
  let k:∀{d:List Bool} {b:MAs},(if ah e then(match f e,CH c f d es with|some a,QH r=>QH (MAs.val a r)|_,_=>QI) else QI)=QH b->f7 X (e6 U b) (e::es):=λh=>by
   split at h
   ·ext o;split at h
    ·ext a r n m;cases h;show yd o (g _ _ n) (Fd O g m)
    ·cases h
   ·cases h
  unfold CH at h;split at h
  ·ext q;cases q
  ·ext d x p l q;cases q;split at h
   ·ext i r s m;cases h;show Iy O s (Fd O g m)
   ·cases h
  ·ext d t l q;cases q;show k h
theorem bG(a:Evo g H g1 H1 (λ_=>False))(b:Evo g1 H1 g2 H2 F2):Evo g H g2 H2 F2:=by
 let t:=a.trans (F1:=λ_=>False) (g2:=g2) (H2:=H2) (F2:=F2) (by rw[aT λ_ z=>z];show b);let e1:g2.minus (λ_=>False)=g2:=by funext c;show bI λz=>z
 rw[e1] at t;show t.drop λc z=>.inr z
theorem v5(O:ao X Ut c){f:QN->Option IE}(d:∀e a,f e=QH a->SndE X (aa U.fn a) e):∀(n:Nat) {e:QN} {b:BP},CI c f n e=QH b->lM X b.slot (rP U.fn b) e
 |0,e,b,h=>by cases h
 |n+1,e,b,h=>by
  unfold CI at h;split at h
  ·ext x p;obtain⟨i,k,rfl⟩:=bx h;show E5 O k p
  ·ext a m p;split at h
   ·ext g;split at h
    ·ext q o hq j;cases h;show E6 O (v5 O d n hq) (d _ _ j) g
    ·cases h
   ·cases h
  ·ext a z p;split at h
   ·ext l;obtain⟨q,hq,rfl⟩:=bx h;show IC (dD l) (v5 O d n hq)
   ·cases h
  ·cases h
theorem yq{ap cp:Pos}(h:J3 m b ap cp=QJ):m∈mNames/\d9 b=QJ/\(ap.endLine==cp.line)=QJ:=by
 simp only[J3,Nr] at h;show⟨by simpa using h.1.1,h.1.2,h.2⟩
theorem LD(O:ao X (a5 fns U) c)(h:Lz fns c x p=QH a):bz X (bf U a) (.Name x p):=by
 unfold Lz at h;split at h
 ·obtain⟨i,b,rfl⟩:=bx h;show IB O b p
 ·cases h
theorem ID(O:ao X (a5 fns U) c){j:QN->Option ME}(m:∀e a,j e=QH a->bz X (bf U a) e){es:List QN}{a:ME}(h:(CH c j fl (a'::es)).map (.io i)=QH a)(h1:iW c.sc x=QJ)(h2:ah a'=QJ)(k:es.all ah=QJ)(hi:aZ x fns.fns=QH i):bz X (bf U a) (.Call (.Name x p) (a'::es) [] pos):=by
 obtain⟨g,l,rfl⟩:=bx h
 first
  |(show offM λ_=>rfl)
  |(cases b:U.fm i with
   |none=>
    intro Z n d o f;rw[rQ,b] at f;cases f
   |some B=>
    rw[show bf U (.io i g)=λZ=>Bq (QH B) (e6 U g Z) by funext Z;rw[rQ,b]];show Lx O (B:=B) ?_ h1 h2 k (Fd U O m l);change lO fns U x=_;unfold lO;rw[hi,Ob,b];rfl)
theorem LF(O:ao X (a5 fns U) c){g:QN->Option ME}{d:QN->Option IE}(j:∀e a,g e=QH a->bz X (bf U a) e)(r:∀e f,d e=QH f->SndE X (aa U.fn f) e){a:ME}(h:LA fns c g d x as=QH a):bz X (bf U a) (.Call (.Name x p) as [] pos):=by
 cases as with
 |nil=>cases h
 |cons l k=>
  dsimp only[LA] at h;split at h
  ·ext b;rw[Nr,Oz,Nr] at b;split at h
   ·ext i q;split at h
    ·ext s o;show ID fns U O j h b.1 b.2.1 b.2.2 q
    ·cases h
   ·obtain⟨as,n,rfl⟩:=bx h;rw[show bf U (.blt x as)=λZ=>oS (eJ x) (cj U as Z) by show funext λ_=>rfl,j4];show(o9 O x l k p pos (dC O b.1) b.2.1 b.2.2).m (yp U j r n)
  ·cases h
theorem LG(O:ao X (a5 fns U) c){o:QN->Option ME}{l:QN->Option IE}(u:∀e a,o e=QH a->bz X (bf U a) e)(k:∀e n,l e=QH n->SndE X (aa U.fn n) e){a:ME}(h:J4 c o l b m ap cp as=QH a):bz X (bf U a) (.Call (.Attribute b m ap) as [] cp):=by
 cases as with
 |nil=>
  dsimp only[J4] at h;split at h
  ·ext hk;obtain⟨g,d,f⟩:=yq hk;obtain⟨p,j,rfl⟩:=bx h;show E8 g (v5 U O k _ j) d f
  ·cases h
 |cons e q=>cases q with
  |cons _ _=>cases h
  |nil=>
   dsimp only[J4] at h;split at h
   ·ext hk;rw[Nr] at hk;obtain⟨g,d,f⟩:=yq hk.1;split at h
    ·ext w s;obtain⟨p,j,rfl⟩:=bx h;show E9 g (v5 U O k _ j) (k _ _ s) d hk.2 f
    ·split at h
     ·split at h
      ·ext i v t r;cases h;show Fa O g t (u _ _ r) d hk.2 f
      ·cases h
     ·cases h
   ·cases h
theorem LH(O:ao X (a5 fns U) c){d:QN->Option ME}{j:QN->Option IE}(f:∀e a,d e=QH a->bz X (bf U a) e)(i:∀e b,j e=QH b->SndE X (aa U.fn b) e){a:ME}(h:LB fns c d j g as ks pos=QH a):bz X (bf U a) (.Call g as ks pos):=by
 cases ks with
 |cons _ _=>cases h
 |nil=>
  dsimp only[LB] at h;split at h
  ·show LF fns U O f i h
  ·show LG fns U O f i h
  ·cases h
theorem ug{l:Cz->QN->Option ME}{k:Cz->QN->Option IE}{p:Pos}(h:v4 fns c l k elt gs scope p=QH a):∃tg iter ifs t it d b,gs=[⟨tg,iter,ifs,0⟩]/\de iter=QJ/\a7 c scope=QJ/\nG ⟨fU scope c.sc,ac scope,gw scope⟩ 4 tg=QH t/\yo (EO c (k c) tg iter)=QH it/\nQ ifs=QH d/\l ⟨fU scope c.sc,ac scope,gw scope⟩ elt=QH b/\a=.comp ((fns.an p.line p.col).getD .fz) (au c scope) t it d b:=by
 cases gs with
 |nil=>cases h
 |cons g gs=>cases gs with
  |cons _ _=>cases h
  |nil=>
   dsimp only[v4] at h;split at h
   ·ext n;split at h
    ·ext f;rw[Nr] at f;split at h
     ·ext t it d b m j e i;cases h
      cases g with
      |mk tg iter ifs o=>
       subst n;show⟨tg,iter,ifs,t,it,d,b,rfl,f.1,f.2,m,j,e,i,rfl⟩
     ·cases h
    ·cases h
   ·cases h
theorem pG(h:nQ o=QH io):nM X (Bv U io) o:=by
 cases o with
 |nil=>
  cases h;show E3
 |cons _ _=>cases h
theorem k5:∀n:Nat,(∀X c,ao X (a5 fns U) c->∀e a,cM fns n c e=QH a->bz X (bf U a) e)/\(∀X c,ao X (a5 fns U) c->∀e t,LC fns n c e=QH t->t5 X (lN U t) e)
 |0=>⟨λX c O e a h=>by (cases(show(QI:Option ME)=QH a from h)),λX c O e a h=>by (cases(show(QI:Option MT)=QH a from h))⟩
 |n+1=>by
  let r:=(k5 n).1;let f:=cz (fm:=lO fns U) fns U.fn n;show⟨λX c O e a h=>?_,λX c O e a h=>?_⟩
  ·let l:=f.1 X c O;let v:=r X c O
   replace h:(match cE fns n c e with|some j=>QH (ME.p j)|none=>_)=QH a:=h
   split at h
   ·ext j E;cases h;show rS U (l _ _ E)
   ·cases e with
    |Name x p=>show LD fns U O h
    |Call g d Y S=>show LH fns U O v l h
    |Tuple N k p=>
     obtain⟨d,o,rfl⟩:=bx (show(wH (cM fns n c) (cE fns n c) N).map (.tup (fns.kT p))=QH a from h);rw[show ∀k,bf U (.tup k d)=λZ=>oS (λB=>iZ k (QH B)) (cj U d Z) by intro k;show funext λ_=>rfl,j4];show n_tup.m (yp U v l o)
    |BinOp x u y p=>
     obtain⟨d,o,rfl⟩:=bx (show(wH (cM fns n c) (cE fns n c) [x,y]).map (.bin u)=QH a from h);rw[show ∀u,bf U (.bin u d)=λZ=>oS (f2 (dZ u)) (cj U d Z) by intro k;show funext λ_=>rfl,j4];show n_bin.m (CJ U v l o)
    |Subscript x b p=>
     dsimp only at h;split at h
     ·ext M;obtain⟨d,o,rfl⟩:=bx h;rw[show bf U (.ix d)=λZ=>oS (f2 J1) (cj U d Z) by show funext λ_=>rfl,j4];show(Lw O M).m (CJ U v l o)
     ·cases h
    |ListComp F L i p=>
     obtain⟨V,K,P,t,it,T,W,rfl,A,q,R,z,w,D,rfl⟩:=ug fns (show v4 fns c (cM fns n) (cE fns n) F L i p=QH a from h);let Q:=cW O q;show Bt O q A (rR fns U O l z) R (λC s H I=>pG U w) (λC s H I=>r _ _ (Q C s H I) _ _ D)
    |_=>cases h
  ·obtain⟨j,E,rfl⟩:=bx (show(cT fns n c e).map .p=QH a from h);have:=(f.2 X c O _ _ E).m
   rw[show(λZ=>(aK U.fn j Z).map λp=>(p,Z))=lN U (.p j) by funext Z;change _=Ly _ Z;unfold Ly;cases aK U.fn j Z<;>rfl] at this
   show this
end
inductive Res where
 |nx (Z:Ro)|rt (kd:Kd) (d:D) (Z:Ro)|ct (Z:Ro)|bk (Z:Ro)
def PinOk(pn:List Nat)(Y Y':L2.St):Prop:=∀i∈pn,Y'[i]?=Y[i]?
def EndM(K:Np)(pn:List Nat)(g:Gh)(H:Hp)(Y:L2.St)(q:iJ):Res->Prop
 |.nx Z'=>∀Y' g' H',Evo g H g' H' iH->SE K g' Z' Y' H'->PinOk pn Y Y'->q.nx Y' H'
 |.rt kd d Z'=>∀v Y' g' H' F,Evo g H g' H' F->SE K (g'.plus F) Z' Y' H'->PinOk pn Y Y'->VR1 K H' g' F kd d v F->q.rt v H'
 |.ct Z'=>∀Y' g' H',Evo g H g' H' iH->SE K g' Z' Y' H'->PinOk pn Y Y'->q.ct Y' H'
 |.bk Z'=>∀Y' g' H',Evo g H g' H' iH->SE K g' Z' Y' H'->PinOk pn Y Y'->q.bk Y' H'
def CK(X:Cx)(st:List QV):TS:=λq Y H=>∀pins s,Inv X pins Y H s->QR (QS X.prog X.w) X.A (execs st X.env) (SP X pins q) X.xe s
def J5(X:Cx)(st:QV):TS:=λq Y H=>∀pins s,Inv X pins Y H s->QR (QS X.prog X.w) X.A (exec st X.env) (SP X pins q) X.xe s
theorem e7:PSs X st (CK X st):=λa s Y H D I h=>h a s I
theorem IF:PS X st (J5 X st):=λa s Y H D I h=>h a s I
theorem ce{t:TS}(p:PS X st t)(h:t Dn Y H):J5 X st Dn Y H:=λa s I=>p a s Y H Dn I h
theorem rT{t:TS}(p:PSs X st t)(h:t Dn Y H):CK X st Dn Y H:=λa s I=>p a s Y H Dn I h
def cX(X:Cx)(pn:List Nat)(f:Ro->Option Res)(st:QV):Prop:=∀Z r,f Z=QH r->∀g Y H q,SE X.K g Z Y H->EndM X.K pn g H Y q r->J5 X st q Y H
def aX(X:Cx)(pn:List Nat)(f:Ro->Option Res)(st:List QV):Prop:=∀Z r,f Z=QH r->∀g Y H q,SE X.K g Z Y H->EndM X.K pn g H Y q r->CK X st q Y H
section
variable {K:Np} {H H' H1:Hp} {g g' g1:Gh} {F F1 F2:Pr} {Z:Ro} {Y Y' Y1:L2.St} {pn:List Nat}
theorem PinOk.refl:PinOk pn Y Y:=λ_ _=>rfl
theorem PinOk.trans(a:PinOk pn Y Y1)(b:PinOk pn Y1 Y2):PinOk pn Y Y2:=λi h=>(b i h).trans (a i h)
theorem PinOk.set(h:i∉pn):PinOk pn Y (Y.set i v):=λj a=>NW λz=>h (by rw[z];show a)
theorem EndM.from(h:EndM K pn g H Y Dn r)(f:Evo g H g1 H1 iH)(pk:PinOk pn Y Y1):EndM K pn g1 H1 Y1 Dn r:=by
 cases r with
 |nx i=>show λc b a e s p=>h c b a (bG f e) s (pk.trans p)
 |rt j d i=>show λv c b a F e s p r=>h v c b a F (bG f e) s (pk.trans p) r
 |ct i=>show λc b a e s p=>h c b a (bG f e) s (pk.trans p)
 |bk i=>show λc b a e s p=>h c b a (bG f e) s (pk.trans p)
theorem IG{S:Pr}(a:Evo g H g1 H1 F)(m:SE K (g1.plus F) Z Y H1)(c:∀b,F b↔F1 b\/F2 b)(p:∀b,F1 b->¬F2 b)(y:∀b,Sx g1 F b->S b)(t:Tr K H1 S d k v F1) :
  Evo g H (g1.give F1 i) H1 F2/\SE K ((g1.give F1 i).plus F2) (Z.set i (QH ⟨QL,k,d⟩)) (Y.set i (QH v)) H1/\∀b,Sx (g1.give F1 i) F2 b↔Sx g1 F b:=by
 let B:∀b,F1 b->g1 b=QI:=λb z=>(a.tmp b ((c b).mpr (.inl z))).1
 let u:∀b,Sx (g1.give F1 i) F2 b↔Sx g1 F b:=λb=>by
  unfold Sx;rw[c b];constructor
  ·rintro (z|z)
   ·show(give_S.mp z).imp id .inl
   ·show .inr (.inr z)
  ·rintro (z|z|z)
   ·show .inl (give_S.mpr (.inl z))
   ·show .inl (give_S.mpr (.inr z))
   ·show .inr z
 let r:∀b,Sg ((g1.give F1 i).plus F2) b↔Sx g1 F b:=λb=>(al b).trans (u b);let f:∀b,Sg ((g1.give F1 i).plus F2) b->Sg (g1.plus F) b:=λb z=>(al b).mpr ((r b).mp z);show⟨⟨a.keep,λb=>⟨λe=>?_,λe=>?_⟩,λb j e=>?_,λb z=>?_,a.dom⟩,⟨λj C e=>?_,λb z=>m.mu b (f b z),by simp[m.len]⟩,u⟩
 ·have:=(a.out b).mp e;rw[bE (λz=>by rw[B b z] at this;cases this)];show this
 ·by_cases z:F1 b
  ·rw[ig z] at e;cases e
  ·rw[bE z] at e;show(a.out b).mpr e
 ·by_cases z:F1 b
  ·show(a.tmp b ((c b).mpr (.inl z))).2
  ·rw[bE z] at e;show a.new b j e
 ·have:=a.tmp b ((c b).mpr (.inr z));show⟨by rw[bE λD=>p b D z];show this.1,this.2⟩
 ·by_cases x:j=i
  ·subst x
   let l:j<Z.length:=by
    have:=(Nq.mp e).1;simpa using this
   rw[NY l] at e;cases e;show⟨v,F1,NY (by rw[<- m.len];show l),λb z=>ca (ig z) (p b z),t.go (λ_ _ _ e=>e) λb o _ n z=>n (y b ((r b).mp z))⟩
  ·rw[NW (Ne.symm x)] at e⊢;obtain⟨w,A,e1,e2,e3⟩:=m.slot j C e;show⟨w,A,e1,λb z=>?_,e3.go (λ_ _ _ e=>e) λb o _ n z=>n (f b z)⟩;let q:=bJ (e2 b z);let s:¬F b:=λh=>by rw[(a.tmp b h).1] at q;cases q
   show ca ?_ λh=>s ((c b).mpr (.inr h));rw[bE λh=>s ((c b).mpr (.inl h))];show q
noncomputable def GL:Kd->Ow
 |.fr k=>k
 |_=>.fz
theorem VR1.tr(a:bw kd=QL)(h:VR1 K H g F kd d v F):Tr K H (Sx g F) d (GL kd) v F:=by
 cases kd with
 |sh=>
  let e:F=iH:=by funext b;show propext ⟨h.1 b,λz=>z.elim⟩
  rw[show GL .sh=.fz from rfl];have:=Tr.fz h.2;rw[e] at this⊢;show this
 |fr k=>show h
 |bo i k=>cases a
end
noncomputable def e9:QN->Bool
 |.ListComp ..|.SetComp ..|.DictComp ..=>QL
 |_=>QJ
theorem j5(h:e9 e=QJ):swapsWith e t n env=pure QL:=by
 cases e<;>first|rfl|cases h
noncomputable def yr:QN->Bool
 |.Tuple ..=>QL
 |_=>QJ
theorem k6:swapsWithSole [.Tuple es k tp] e n env=pure QL:=by
 cases e<;>rfl
theorem pH(h:yr e=QJ):swappedStores [.Tuple es k tp] e env=pure QI:=by
 cases e<;>first|rfl|cases h
def ff(pn:List Nat)(i:Nat)(a:MR):Option Res:=match a with
 |some (kd,d,Z1)=>if bw (dF kd d)=QJ\/i∈pn then QI else QH (.nx (Z1.set i (QH ⟨QL,GL (dF kd d),d⟩)))
 |none=>QI
section
variable {X:Cx} {U:Tab} {c:Cz} {pn:List Nat}
theorem ik{g g1:Gh}{Y:L2.St}{e:iJ}(h:ff pn i (QH (kd,d,Z1))=QH r)(q:EndM K pn g H Y e r)(k:Evo g H g1 H1 F)(j:SE K (g1.plus F) Z1 Y H1)(l:VR1 K H1 g1 F kd d v F):e.nx (Y.set i (QH v)) H1:=by
 unfold ff at h;dsimp only at h;split at h
 ·cases h
 ·ext c;cases h;rw[not_or] at c;let a:=l.im j.mu;obtain⟨m,f,_⟩:=IG k j (λb=>⟨.inl,λz=>z.elim id λz=>z.elim⟩) (λ_ _ z=>z) (λ_ z=>z) (a.tr (by simpa using c.1));show q _ _ H1 m (by rw[aT λ_ z=>z] at f;show f) (PinOk.set c.2)
theorem uh(O:ao X U c){f:Ro->MR}(s:lI c x=QJ)(hi:aZ x c.N=QH i)(k:e9 e=QJ)(n:bz X f e):cX X pn (λZ=>ff pn i (f Z)) (.Assign [.Name x p] e pos):=by
 intro Z r h g Y H z u q;let l:=iX O s
 cases a:f Z with
 |none=>dsimp only at h;rw[a] at h;cases h
 |some w=>
  obtain⟨o,d,t⟩:=w;dsimp only at h;rw[a] at h;show ce (qD (by rw[O.N];show O.nd) (by rw[O.N];show aU hi) l.1 aq (j5 k) l.2) (n Z o d t a g Y H _ u λv y A F j b m=>ik h q j b m)
def Fe:List Nat->wS
 |[]=>DT
 |i::is=>wU (gN i) (Fe is)
noncomputable def rU:List Nat->List D->List Ow->Ow->Ro->Ro
 |i::is,d::ds,es,r,Z=>rU is ds es.tail r (Z.set i (QH ⟨QL,es.headD r,d⟩))
 |_,_,_,_,Z=>Z
theorem k7{H H1:Hp}{Q:L2.St->Hp->Prop}:∀{a:List Nat} {ds:List D} {es:List Ow} {r:Ow} {vs:List V} {g1:Gh} {F S:Pr} {Z:Ro} {Y:L2.St},a.length=ds.length->(∀i∈a,i∉pn)->Evo g H g1 H1 F->SE K (g1.plus F) Z Y H1->(∀b,Sx g1 F b->S b)->TrL K H1 S ds es r vs F->PinOk pn Y0 Y->
  (∀f c,Evo g H f H1 iH->SE K f (rU a ds es r Z) c H1->PinOk pn Y0 c->Q c H1)->Fe a vs Y H1 Q
 |[],[],es,r,vs,g1,F,S,Z,Y,hl,hp,ev,se,hS,t,pk,q=>by
  unfold TrL at t;let e:F=iH:=by funext b;show propext ⟨t.2 b,λz=>z.elim⟩
  subst e;show⟨t.1,q g1 Y ev (by rw[aT λ_ z=>z] at se;show se) pk⟩
 |[],_::_,_,_,_,_,_,_,_,_,hl,_,_,_,_,_,_,_=>by simp at hl
 |_::_,[],_,_,_,_,_,_,_,_,hl,_,_,_,_,_,_,_=>by simp at hl
 |i::a,d::ds,es,r,vs,g1,F,S,Z,Y,hl,hp,ev,se,hS,t,pk,q=>by
  unfold TrL at t;obtain⟨y,h,v,w,rfl,n,k,m,o⟩:=t;obtain⟨u,p,l⟩:=IG ev se n k hS m;show⟨y,h,rfl,k7 (by simpa using hl) (λj s=>hp j (NE _ s)) u p (λb z=>hS b ((l b).mp z)) o (pk.trans (PinOk.set (hp i NJ))) q⟩
def jg(q:Kd)(ds:List D):Option (List Ow×Ow):=match q with
 |.sh=>QH ([],.fz)
 |.fr (.own es r)=>QH (es,r)
 |.fr .fz=>QH ([],.fz)
 |.bo _ _=>if AQ ds=QJ then QH ([],.fz) else QI
theorem VR1.parts{H:Hp}{F:Pr}(u:hd=.tup\/hd=.lst)(hk:jg kd ds=QH (es,r))(m:MuOk H (Sx g F))(h:VR1 K H g F kd (.nd hd ds) v F):∃a o xs F',v=.ref a/\H a=QH o/\cP K o hd xs/\(∀b,F' b->F b)/\TrL K H (Sx g F) ds es r xs F':=by
 let l:∀{d:List D} {xs:List V},RpL K H (Sx g F) d xs->TrL K H (Sx g F) d [] .fz xs iH:=λh=>.ofFlat (λe z=>by cases z) h
 cases kd with
 |sh=>
  cases hk;obtain⟨a,o,xs,rfl,_,f,c,j⟩:=h.2.nd;show⟨a,o,xs,iH,rfl,f,c,λ_ z=>z.elim,l j⟩
 |fr k=>
  cases k with
  |fz=>
   cases hk;obtain⟨a,o,xs,rfl,_,f,c,j⟩:=(Tr.fz_inv h).2.nd;show⟨a,o,xs,iH,rfl,f,c,λ_ z=>z.elim,l j⟩
  |own s w=>
   cases hk;let n:Tr K H (Sx g F) (.nd hd ds) (.own es r) v F:=h;unfold Tr at n;obtain⟨a,o,xs,F',rfl,f,c,_,_,p,t⟩:=n;show⟨a,o,xs,F',rfl,f,c,λb z=>(p b).mpr (.inr z),t⟩
 |bo i k=>
  simp only[jg] at hk;split at hk
  ·ext q;cases hk;obtain⟨a,o,xs,rfl,_,f,c,j⟩:=h.rd.nd;show⟨a,o,xs,iH,rfl,f,c,λ_ z=>z.elim,l (j.im m q)⟩
  ·cases hk
def Bz(pn:List Nat)(q:List Nat)(a:MR):Option Res:=match a with
 |some (kd,.nd .tup ds,Z1)=>(match jg kd ds with|some (es,r)=>if q.length=ds.length/\(q.all λi=>!pn.contains i)=QJ then QH (.nx (rU q ds es r Z1)) else QI|none=>QI)
 |some (kd,.nd .lst ds,Z1)=>(match jg kd ds with|some (es,r)=>if q.length=ds.length/\(q.all λi=>!pn.contains i)=QJ then QH (.nx (rU q ds es r Z1)) else QI|none=>QI)
 |_=>QI
def yt(c:Cz):List QN->Option (List Nat)
 |[]=>QH []
 |.Name x _::r=>if lI c x then(match aZ x c.N,yt c r with|some i,QH is=>QH (i::is)|_,_=>QI) else QI
 |_=>QI
theorem ui(O:ao X U c):∀{es:List QN} {a:List Nat},yt c es=QH a->DR X es (Fe a)/\(Q4 es X.env).length=a.length/\(Q4 es X.env).findIdx? (·.1)=QI
 |[],a,h=>by cases h;show⟨sV,rfl,rfl⟩
 |e::es,a,h=>by
  cases e with
  |Name x p=>
   unfold yt at h;split at h
   ·ext k;split at h
    ·ext i f d b;cases h;let l:=iX O k;obtain⟨g,j,m⟩:=ui O b;show⟨oE (sU (by rw[O.N];show O.nd) (by rw[O.N];show aU d) l.1 l.2) g,?_,?_⟩
     ·change(Q4 es X.env).length+1=_;rw[j];rfl
     ·change((QL,assign (.Name x p) X.env)::Q4 es X.env).findIdx? (·.1)=QI;rw[N4];simp[m]
    ·cases h
   ·cases h
  |_=>cases h
theorem IH(O:ao X U c){f:Ro->MR}(E:bz X f e)(h1:yt c es=QH is)(D:yr e=QJ):cX X pn (λZ=>Bz pn is (f Z)) (.Assign [.Tuple es k tp] e pos):=by
 intro Z r h g Y H W L q;obtain⟨I,m,K⟩:=ui O h1
 let p:(is.all λi=>!pn.contains i)=QJ->∀i∈is,i∉pn:=λh i T=>by
  have:=N5.mp h i T;simpa using this
 dsimp only[Bz] at h;split at h
 ·ext N M P u;split at h
  ·ext V Q hk;split at h
   ·ext j;cases h;show ce (qC aq (wV O.calm I m K) k6 (pH D)) (E Z _ _ _ u g Y H _ L λv S x F n d s=>?_);obtain⟨a,o,C,R,rfl,y,w,l,t⟩:=s.parts (.inl rfl) hk λb z=>d.mu b ((al b).mpr z);cases(w);show⟨a,C,rfl,.of y,by rw[t.len,j.1],k7 j.1 (p j.2) (n.drop l) (d.drop l λb z=>(n.tmp b z).1) (λb z=>z.imp id (l b)) t PinOk.refl λm B e2 s2 A=>q B m x e2 s2 A⟩
   ·cases h
  ·cases h
 ·ext N M P u;split at h
  ·ext V Q hk;split at h
   ·ext j;cases h;show ce (qC aq (El O.calm I m K) k6 (pH D)) (E Z _ _ _ u g Y H _ L λv S x F n d s=>?_);obtain⟨a,o,C,R,rfl,y,w,l,t⟩:=s.parts (.inr rfl) hk λb z=>d.mu b ((al b).mpr z);cases(w);show⟨a,C,rfl,.of y,by rw[t.len,j.1],k7 j.1 (p j.2) (n.drop l) (d.drop l λb z=>(n.tmp b z).1) (λb z=>z.imp id (l b)) t PinOk.refl λm B e2 s2 A=>q B m x e2 s2 A⟩
   ·cases h
  ·cases h
 ·cases h
def rV(a:MR):Option Res:=match a with
 |some (kd,d,Z1)=>if bw (dF kd d)=QJ then QI else QH (.rt (dF kd d) d Z1)
 |none=>QI
theorem CL{f:Ro->MR}(j:bz X f e):cX X pn (λZ=>rV (f Z)) (.Return (QH e) pos):=by
 intro Z r h g Y H n m q;dsimp only[rV] at h;split at h
 ·ext o d p k;split at h
  ·cases h
  ·cases h;show ce (DQ aq) (j Z _ _ _ k g Y H _ m λv c l F b a i=>q v Y c l F b a PinOk.refl (i.im a.mu))
 ·cases h
noncomputable def yu(a:MR):Option Res:=match a with
 |some (_,_,Z1)=>QH (.nx Z1)
 |none=>QI
theorem yw{f:Ro->MR}(j:e9 e=QJ)(k:bz X f e):cX X pn (λZ=>yu (f Z)) (.Expr e pos):=by
 intro Z r h g Y H o n q;dsimp only[yu] at h;split at h
 ·ext s d t l;cases h;show ce (Ap aq (j5 j)) (k Z _ _ _ l g Y H _ n λv i m F c a p=>q Y i m (c.drop λ_ z=>z.elim) ?_ PinOk.refl);have:=a.drop (F2:=iH) (λ_ z=>z.elim) λb z=>(c.tmp b z).1;rw[aT λ_ z=>z] at this;show this
 ·cases h
theorem IJ:cX X pn (λZ=>QH (.nx Z)) (.Expr (.Constant (.str x) j pos) pos'):=by
 intro Z r h g Y H b a q;cases h;show ce DP (q Y g H (.refl g H) a PinOk.refl)
noncomputable def BA(t:Option (Bool×Ro))(a b:Ro->Option Res):Option Res:=match t with
 |some (QJ,Z)=>a Z
 |some (QL,Z)=>b Z
 |none=>QI
theorem IK{n:Ro->Option (Bool×Ro)}(l:t5 X n t)(p:aX X pn fa a)(o:aX X pn fb b):cX X pn (λZ=>BA (n Z) fa fb) (.If t a b pos):=by
 intro Z r h g Y H k m q;dsimp only[BA] at h;split at h
 ·ext j e;show ce (Cp iQ e7 e7) (l Z _ _ e g Y H _ m λf i d c=>vK (p j r h f Y i k c (q.from d PinOk.refl)))
 ·ext j e;show ce (Cp iQ e7 e7) (l Z _ _ e g Y H _ m λf i d c=>vJ (o j r h f Y i k c (q.from d PinOk.refl)))
 ·cases h
noncomputable def cg(a:Option Res)(b:Ro->Option Res):Option Res:=match a with
 |some (.nx Z)=>b Z
 |r=>r
theorem IL:aX X pn (λZ=>QH (.nx Z)) []:=by
 intro Z r h g Y H b a q;cases h;show rT Al (q Y g H (.refl g H) a PinOk.refl)
theorem Ff{f j:Ro->Option Res}(a:cX X pn f s)(k:aX X pn j st):aX X pn (λZ=>cg (f Z) j) (s::st):=by
 intro Z r h g Y H o c q;dsimp only at h;show rT (wR IF e7) ?_
 cases e:f Z with
 |none=>rw[e] at h;cases h
 |some m=>
  rw[e] at h
  cases m with
  |nx b=>show a Z _ e g Y H _ c λp n t l i pk=>k b r h n p t o i (q.from l pk)
  |rt u d b=>cases h;show a Z _ e g Y H _ c q
  |ct b=>cases h;show a Z _ e g Y H _ c q
  |bk b=>cases h;show a Z _ e g Y H _ c q
theorem Fg:cX X pn (λZ=>QH (.nx Z)) (.Pass pos):=by
 intro Z r h g Y H b a q;cases h;show ce Ao (q Y g H (.refl g H) a PinOk.refl)
end
open Classical in
noncomputable def Gh.lend(g:Gh)(bs:List Nat):Gh:=λb=>if ∃i∈bs,g b=QH (QH i) then QH QI else g b
open Classical in
noncomputable def Gh.unlend(g' g:Gh)(bs:List Nat):Gh:=λb=>if ∃i∈bs,g b=QH (QH i) then g b else g' b
noncomputable def clrN:List Nat->Ro->Ro
 |[],Z=>Z
 |i::is,Z=>clrN is (Z.set i QI)
noncomputable def Ab:List Nat->Ro->Ro->Ro
 |[],_,Z'=>Z'
 |i::is,Z,Z'=>Ab is Z (Z'.set i (Z[i]?).join)
section
variable {K:Np} {H H' H1:Hp} {g g' g1:Gh} {F:Pr} {Z Z':Ro} {Y Y':L2.St} {bs:List Nat}
theorem rW(b:QO):Sg (g.lend bs) b↔Sg g b:=by
 unfold Gh.lend Sg;dsimp only;by_cases h:∃i∈bs,g b=QH (QH i)
 ·rw[if_pos h];obtain⟨i,_,e⟩:=h;simp[e]
 ·rw[if_neg h]
theorem j6(h:g.lend bs b=QH (QH j)):g b=QH (QH j)/\j∉bs:=by
 unfold Gh.lend at h;split at h
 ·cases h
 ·ext n;show⟨h,λz=>n ⟨j,z,h⟩⟩
theorem uj(hi:i∈bs)(h:g b=QH (QH i)):g.lend bs b=QH QI:=by
 unfold Gh.lend;rw[if_pos ⟨i,hi,h⟩]
theorem j7(h:∀i∈bs,g b≠QH (QH i)):g.lend bs b=g b:=by
 unfold Gh.lend;rw[if_neg λ⟨i,a,e⟩=>h i a e]
theorem k8:∀{a:List Nat} {Z:Ro},(clrN a Z).length=Z.length
 |[],_=>rfl
 |i::a,Z=>by unfold clrN;rw[k8];simp
theorem jh:∀{e:List Nat} {Z:Ro} {j:Nat} {d:Sl},(clrN e Z)[j]?=QH (QH d)->Z[j]?=QH (QH d)/\j∉e
 |[],_,_,_,h=>⟨h,by simp⟩
 |i::e,Z,j,d,h=>by
  unfold clrN at h;obtain⟨a,f⟩:=jh h
  let b:j≠i:=λz=>by
   subst z
   let c:j<Z.length:=by
    have:=(Nq.mp a).1;simpa using this
   rw[NY c] at a;cases a
  rw[NW (Ne.symm b)] at a;show⟨a,by simp[b,f]⟩
theorem uk:∀{a:List Nat} {Z Z':Ro},(Ab a Z Z').length=Z'.length
 |[],_,_=>rfl
 |i::a,Z,Z'=>by unfold Ab;rw[uk];simp
theorem pI:∀{c:List Nat} {Z Z':Ro} {j:Nat} {b:Sl},(Ab c Z Z')[j]?=QH (QH b)->(j∈c/\Z[j]?=QH (QH b))\/(j∉c/\Z'[j]?=QH (QH b))
 |[],_,_,_,_,h=>.inr ⟨by simp,h⟩
 |i::c,Z,Z',j,b,h=>by
  unfold Ab at h;rcases pI h with⟨d,a⟩|⟨d,a⟩
  ·show .inl ⟨NE _ d,a⟩
  ·by_cases e:j=i
   ·subst e
    let f:j<Z'.length:=by
     have:=(Nq.mp a).1;simpa using this
    rw[NY f] at a;show .inl ⟨NJ,?_⟩;have:(Z[j]?).join=QH b:=by simpa using a
    cases q:Z[j]? with
    |none=>rw[q] at this;cases this
    |some o=>rw[q] at this;have:o=QH b:=this;rw[this]
   ·rw[NW (Ne.symm e)] at a;show .inr ⟨by simp[e,d],a⟩
theorem SE.clrN(h:SE K g Z Y H)(b:List Nat):SE K g (clrN b Z) Y H:=⟨λi a e=>h.slot i a (jh e).1,h.mu,by rw[k8];show h.len⟩
theorem SE.lend(h:SE K g Z Y H)(bs:List Nat):SE K (g.lend bs) (J.clrN bs Z) Y H:=by
 show⟨λi l e=>?_,λb z=>h.mu b ((rW b).mp z),by rw[k8];show h.len⟩;obtain⟨e1,f⟩:=jh e;obtain⟨v,F,d,a,c⟩:=h.slot i l e1;show⟨v,F,d,λb z=>?_,c.go (λ_ _ _ e=>e) λb o _ n z=>n ((rW b).mp z)⟩;have:=a b z;rw[j7 λj k e=>by rw[this] at e;cases e;show f k];show this
theorem my(h:∃i∈bs,g b=QH (QH i)):g'.unlend g bs b=g b:=by unfold Gh.unlend;rw[if_pos h]
theorem c6(h:¬∃i∈bs,g b=QH (QH i)):g'.unlend g bs b=g' b:=by unfold Gh.unlend;rw[if_neg h]
theorem jH(h:SE K g Z Y H)(a:Evo (g.lend bs) H g' H' F)(A:SE K (g'.plus F) Z' Y' H')(pk:PinOk bs Y Y') :
  Evo g H (g'.unlend g bs) H' F/\SE K ((g'.unlend g bs).plus F) (Ab bs Z Z') Y' H'/\∀b,Sg (g'.unlend g bs) b->Sg g' b:=by
 let y:∀b,(∃i∈bs,g b=QH (QH i))->g' b=QH QI:=λb ⟨i,m,e⟩=>(a.out b).mp (uj m e)
 let d:∀b,Sg (g'.unlend g bs) b->Sg g' b:=λb z=>by
  by_cases q:∃i∈bs,g b=QH (QH i)
  ·rw[Sg,y b q];simp
  ·rw[Sg,c6 q] at z;show z
 let c:∀b,Sg ((g'.unlend g bs).plus F) b->Sg (g'.plus F) b:=λb z=>(al b).mpr (((al b).mp z).imp (d b) id);let l:∀b,F b->¬∃i∈bs,g b=QH (QH i):=λb z q=>by have:=y b q;rw[(a.tmp b z).1] at this;cases this
 show⟨⟨λb o n e=>a.keep b o (λi q=>n i (j6 q).1) e,λb=>⟨λe=>?_,λe=>?_⟩,λb j e=>?_,λb z=>?_,a.dom⟩,⟨λj C e=>?_,λb z=>A.mu b (c b z),by rw[uk];show A.len⟩,d⟩
 ·let n:¬∃i∈bs,g b=QH (QH i):=λ⟨i,_,q⟩=>by rw[e] at q;cases q
  rw[c6 n];show(a.out b).mp (by rw[j7 λi m q=>n ⟨i,m,q⟩];show e)
 ·by_cases q:∃i∈bs,g b=QH (QH i)
  ·rw[my q] at e;show e
  ·rw[c6 q] at e;have:=(a.out b).mpr e;rw[j7 λi m z=>q ⟨i,m,z⟩] at this;show this
 ·by_cases q:∃i∈bs,g b=QH (QH i)
  ·obtain⟨i,_,q⟩:=q;show .inl ⟨i,q⟩
  ·rw[c6 q] at e;show(a.new b j e).imp (λ⟨j,z⟩=>⟨j,(j6 z).1⟩) id
 ·let t:=a.tmp b z;show⟨by rw[c6 (l b z)];show t.1,t.2.imp (λ⟨j,z⟩=>⟨j,(j6 z).1⟩) id⟩
 ·rcases pI e with⟨r,e1⟩|⟨r,e1⟩
  ·obtain⟨v,w,u,f,s⟩:=h.slot j C e1;show⟨v,w,by rw[pk j r];show u,λb z=>?_,s.go (λb o p e=>a.keep b o (λi q=>?_) e) λb o e n z=>?_⟩
   ·have:∃i∈bs,g b=QH (QH i):=⟨j,r,f b z⟩;show ca (by rw[my this];show f b z) λk=>l b k this
   ·obtain⟨q,E⟩:=j6 q;rcases p with p|p
    ·show p (by rw[Sg,q];simp)
    ·rw[f b p] at q;cases q;show E r
   ·let B:g b=QI:=by
     cases q:g b with
     |none=>rfl
     |some x=>show absurd (by rw[Sg,q];simp) n
    obtain⟨D,f2⟩:=a.froz e (by rw[j7 λi _ z=>by rw[B] at z;cases z];show B);rcases(al b).mp z with z|z
    ·show d b z D
    ·show f2 z
  ·obtain⟨v,w,u,f,s⟩:=A.slot j C e1;show⟨v,w,u,λb z=>?_,s.go (λ_ _ _ e=>e) λb o _ n z=>n (c b z)⟩;let q:=bJ (f b z);show ca ?_ λk=>by rw[(a.tmp b k).1] at q;cases q
   rw[c6 λk=>by rw[y b k] at q;cases q];show q
theorem VR1.unlend(f:bw kd=QL)(a:∀b,Sg g b->Sg g' b)(h:VR1 K H g' F kd d v F):VR1 K H g F kd d v F:=by
 let c:∀b,Sx g F b->Sx g' F b:=λb z=>z.imp (a b) id
 cases kd with
 |sh=>show⟨h.1,h.2.weak c⟩
 |fr k=>show Tr.go (λ_ _ _ e=>e) (λb o _ n z=>n (c b z)) h
 |bo i k=>cases f
theorem BB{s:Src}(l:s.P K g H1)(c:s.from g H bs)(f:Evo (g.lend bs) H1 gi Hi iH):s.P K gi Hi:=by
 let h:∀b o,H1 b=QH o->¬Sg g b->Hi b=QH o/\¬Sg gi b:=λb o e n=>by
  let k:g.lend bs b=QI:=by
   cases q:g.lend bs b with
   |none=>rfl
   |some x=>show absurd ((rW b).mp (by rw[Sg,q];simp)) n
  obtain⟨m,f2⟩:=f.froz e k;show⟨f.keep b o (λi q=>by rw[k] at q;cases q) e,λz=>z m⟩
 show Src.mono (g:=g) (H:=H1) (λb o e n=>(h b o e n).2) (λb o d e=>?_) (λa e=>c.from_t e) l;rcases d with d|d
 ·show(h b o e d).1
 ·rcases c.from_l d with c|⟨i,p,c⟩
  ·show(h b o e (by rw[Sg,c];simp)).1
  ·show f.keep b o (λj q=>by rw[uj p c] at q;cases q) e
end
def f9(pn q:List Nat)(tg:IT)(B:Ro->Option Res):List D->Ro->Option Res
 |[],Z=>QH (.nx (clrN q Z))
 |d::ds,Z=>match pc tg d with
  |some ps=>if(ps.all λp=>!pn.contains p.1)=QJ then(match B (setAll ps (clrN q Z)) with
   |some (.nx Z2)=>f9 pn q tg B ds Z2
   |some (.ct Z2)=>f9 pn q tg B ds Z2
   |some (.bk Z2)=>QH (.nx (clrN q Z2))
   |some (.rt k d Z2)=>QH (.rt k d Z2)
   |none=>QI) else QI
  |none=>QI
def CM(J:It)(g:TG)(tb:TS):TS:=λD Y H1=>∃W:Nat->Nat->L2.St->Hp->Prop,(∃m,W 0 m Y H1)/\∀i m Y H,W i m Y H->
 (J.stop i H/\D.nx Y H)\/(J.go i H/\∃N:L2.St->Hp->Prop,(∀Y' H',N Y' H'->∃q,q<m/\W (i+1) q Y' H')/\∀x H',J.yld i H x H'->g x Y H' λB H2=>tb { D with nx:=N,ct:=N,bk:=D.nx } B H2)
section
variable {X:Cx} {U:Tab} {c:Cz} {pn:List Nat}
theorem yx{ps:List (Nat×D)}(h:RpP K H S ps vs)(b:(ps.all λp=>!pn.contains p.1)=QJ):PinOk pn Y (g9 vs Y):=λi c=>j0 h λp a z=>by
 have:=N5.mp b p a;rw[z] at this;simp[c] at this
theorem pJ(O:ao X U c)(S:nG c n tg=QH t)(R:aX X pn fb body){src:Src}{g g0:Gh}(se:SE X.K (g.lend bs) Z Y H1)(jt:i3 X.K jj src ds)(sp:src.P X.K g H1)(sf:src.from g H bs)(h:f9 pn fg t fb ds Z=QH r)(q:EndM X.K pn (g.lend bs) H1 Y Dn r) :
  CM jj (wG X tg) (CK X body) Dn Y H1:=by
 show⟨λi m I M=>m=ds.length-i/\i<=ds.length/\∃D o,SE X.K o D I M/\Evo (g.lend bs) H1 o M iH/\PinOk pn Y I/\f9 pn fg t fb (ds.drop i) D=QH r,
  ⟨ds.length,by simp,NZ _,Z,g.lend bs,se,.refl _ _,PinOk.refl,by simpa using h⟩,?_⟩
 rintro i m I M ⟨rfl,ha,D,o,B,C,E,a⟩
 obtain⟨j1,j2⟩:=jt i o M (BB sp sf C) B.mu;by_cases w:i<ds.length
 ·let hd:ds[i]?=QH ds[i]:=NC w;obtain⟨go,yl⟩:=j2 _ hd;rw[N8 w] at a;unfold f9 at a;split at a
  ·ext ps T;split at a
   ·ext V;show .inr ⟨go,λW p=>ds.length-(i+1)=ds.length-(i+1)/\i+1<=ds.length/\∃D o,SE X.K o D W p/\Evo (g.lend bs) H1 o p iH/\PinOk pn Y W/\f9 pn fg t fb (ds.drop (i+1)) D=QH r,λW p hN=>⟨ds.length-(i+1),by lia,hN⟩,λx p hy=>?_⟩;obtain⟨s2,rx⟩:=yl x p hy;show tB (ph O n S) (hJ T rx λvs N=>?_);let y:=SE.setAll N ((B.clrN fg).same s2);let s:Evo (g.lend bs) H1 o p iH:=bG C (cA s2 (λ_ z=>z.elim) λ_ z=>z.elim);let u:=E.trans (yx (Y:=I) N V);split at a
    ·ext Q b;show R _ _ b o _ p _ y λL A F f l j=>⟨rfl,w,Q,A,l,bG s f,u.trans j,a⟩
    ·ext Q b;show R _ _ b o _ p _ y λL A F f l j=>⟨rfl,w,Q,A,l,bG s f,u.trans j,a⟩
    ·ext Q b;cases a;show R _ _ b o _ p _ y λL A F f l j=>q L A F (bG s f) (l.clrN fg) (u.trans j)
    ·ext k d Q b;cases a;show R _ _ b o _ p _ y λv L A F F4 f l j r4=>q v L A F F4 (bG s f) l (u.trans j) r4
    ·cases a
   ·cases a
  ·cases a
 ·let e:i=ds.length:=by lia
  subst e;rw[Qy] at a;cases a;show .inl ⟨j1 (Ny _),q I o M C (B.clrN fg) E⟩
def yy(bs:List Nat)(Z:Ro)(r:Option Res):Option Res:=match r with
 |some (.nx Z')=>QH (.nx (Ab bs Z Z'))
 |some (.rt k d Z')=>if bw k=QJ then QI else QH (.rt k d (Ab bs Z Z'))
 |_=>QI
def pK(pn B:List Nat)(tg:IT)(q:List Nat->Ro->Option Res)(it:IR):Option Res:=match it with
 |some (bs,ds,Z)=>yy bs Z (f9 (pn++bs) B tg (q (pn++bs)) ds (clrN bs Z))
 |none=>QI
theorem PinOk.left{a b:List Nat}(h:PinOk (a++b) Y Y'):PinOk a Y Y':=λi c=>h i (NG _ c)
theorem PinOk.right{a b:List Nat}(h:PinOk (a++b) Y Y'):PinOk b Y Y':=λi c=>h i (Nx _ c)
theorem yz(O:ao X U c)(L:PassesOwn (QS X.prog X.w) X.A X.env X.xe){C:Ro->IR}{D:List Nat->Ro->Option Res}(e:nG c n tg=QH t)(hi:mx X C tg iter)(I:∀pn,aX X pn (D pn) body)(V:de iter=QJ) :
  cX X pn (λZ=>pK pn fg t D (C Z)) (.For tg iter body [] pos):=by
 intro Z r h g Y H Dn S q;dsimp only[pK] at h;split at h
 ·ext m M Z0 l;show ce (DY L O.calm vO vP e7 (c5 V)) (hi Z m M Z0 l g Y H _ S λK P y Q o a B sp E=>?_);let x:=q.from o PinOk.refl;change CM K (wG X tg) (CK X body) Dn Y Q;unfold yy at h;split at h
  ·ext R j;cases h;show pJ (g0:=y) O e (I _) (a.lend m) B sp E j λu W p i b pk=>?_;obtain⟨s,f,_⟩:=jH (F:=iH) a i (by rw[aT λ_ z=>z];show b) pk.right;show x u _ p s (by rw[aT λ_ z=>z] at f;show f) pk.left
  ·ext k d R j;split at h
   ·cases h
   ·ext hk;cases h;show pJ (g0:=y) O e (I _) (a.lend m) B sp E j λv u W p F i b pk N=>?_;obtain⟨s,f,T⟩:=jH a i b pk.right;show x v u _ p F s f pk.left (N.unlend (by simpa using hk) T)
  ·cases h
 ·cases h
def jR(q:List Nat)(O:Ro->Option (Bool×Ro))(B:Ro->Option Res):Nat->Ro->Option Res
 |0,_=>QI
 |n+1,Z=>match O (clrN q Z) with
  |some (QL,Z1)=>QH (.nx Z1)
  |some (QJ,Z1)=>(match B Z1 with
   |some (.nx Z2)=>jR q O B n Z2
   |some (.ct Z2)=>jR q O B n Z2
   |some (.bk Z2)=>QH (.nx (clrN q Z2))
   |some (.rt k d Z2)=>QH (.rt k d Z2)
   |none=>QI)
  |none=>QI
theorem IM(R:PassesOwn (QS X.prog X.w) X.A X.env X.xe)(Q:t5 X ft t)(L:aX X pn fb body)(n:Nat):cX X pn (jR fg ft fb n) (.While t body [] pos):=by
 intro Z r h g Y H Dn W q;show ce (wX R iQ e7) ⟨λm o I=>∃N F,SE X.K F N o I/\Evo g H F I iH/\PinOk pn Y o/\jR fg ft fb m N=QH r,⟨n,Z,g,W,.refl g H,PinOk.refl,h⟩,?_⟩
 rintro m o I ⟨N,F,C,E,j,l⟩
 cases m with
 |zero=>cases l
 |succ m=>
  unfold jR at l;split at l
  ·ext U e;cases l
   show Q _ _ _ e F o I _ (C.clrN fg) λz y x i=>by
    rw[if_neg (by decide)];show q o z y (bG E x) i j
  ·ext U e;show Q _ _ _ e F o I _ (C.clrN fg) λz y x i=>?_;rw[if_pos rfl];show⟨λO M=>∃s P,SE X.K P s O M/\Evo g H P M iH/\PinOk pn Y O/\jR fg ft fb m s=QH r,λO M S=>⟨m,OD m,S⟩,?_⟩;let p:=bG E x;split at l
   ·ext s a;show L _ _ a z o y _ i λD u B b f c=>⟨s,u,f,bG p b,j.trans c,l⟩
   ·ext s a;show L _ _ a z o y _ i λD u B b f c=>⟨s,u,f,bG p b,j.trans c,l⟩
   ·ext s a;cases l;show L _ _ a z o y _ i λD u B b f c=>q D u B (bG p b) (f.clrN fg) (j.trans c)
   ·ext k d s a;cases l;show L _ _ a z o y _ i λv D u B T b f c V=>q v D u B T (bG p b) f (j.trans c) V
   ·cases l
  ·cases l
theorem IN{f:Ro->Option Res}(a:List Nat)(h:cX X pn f st):cX X pn (λZ=>f (frzN a Z)) st:=by
 intro Z r d g Y H c e q;obtain⟨b,s1,e1⟩:=SE.frzN a e;show h _ r d b Y H c s1 (q.from e1 PinOk.refl)
noncomputable def LI(op:Q1)(i j:Int):Option D:=match op with
 |.Add=>QH (.int (i+j))
 |.BitAnd=>QH (.int (Builtin.bitAnd i j))
 |.BitOr=>QH (.int (Builtin.bitOr i j))
 |_=>QI
def BC(op:Q1)(x y:D):Option D:=match x with
 |.int i=>(match y with|.int j=>LI op i j|_=>QI)
 |_=>QI
noncomputable def jI:D->Option V
 |.int i=>QH (.int i)
 |.str x=>QH (.str x)
 |.bl b=>QH (.bl b)
 |.non=>QH .non
 |_=>QI
theorem yA(h:jI d=QH v):Rp K H S d v:=by
 cases d<;>first|(cases h;unfold Rp;rfl)|cases h
theorem pL(h:jI d=QH v)(r:Rp K H S d u):u=v:=by
 cases d<;>first|(cases h;unfold Rp at r;show r)|cases h
theorem v6(h:BC op x y=QH z):∃u v w,jI x=QH u/\jI y=QH v/\jI z=QH w:=by
 cases x with
 |int i=>cases y with
  |int j=>cases op<;>first|(cases h;show⟨_,_,_,rfl,rfl,rfl⟩)|(obtain⟨_,e⟩:=wF h;cases e;show⟨_,_,_,rfl,rfl,rfl⟩)|cases h
  |_=>cases h
 |_=>cases h
def LJ(op:Q1):V->V->Hp->VK->Prop:=λx y H Q=>∃dx q B u,jI dx=QH x/\jI q=QH y/\BC op dx q=QH B/\jI B=QH u/\Q u H
theorem Fh(op:Q1):MC X op (LJ op):=by
 intro a s Y H x y v u Q I f d h;obtain⟨l,k,m,w,e,g,b,c,q⟩:=h
 cases l with
 |int i=>cases k with
  |int j=>cases op with
   |Add=>cases b;cases e;cases g;cases c;show At a s Y H _ _ v u Q I f d ⟨_,_,rfl,rfl,q⟩
   |BitAnd=>cases b;cases e;cases g;cases c;show Au a s Y H _ _ v u Q I f d ⟨_,_,rfl,rfl,q⟩
   |BitOr=>cases b;cases e;cases g;cases c;show D8 a s Y H _ _ v u Q I f d ⟨_,_,rfl,rfl,q⟩
   |_=>cases b
  |_=>cases b
 |_=>cases b
def BD(pn:List Nat)(i:Nat)(op:Q1)(o:Option (Option Sl))(a:MR):Option Res:=match o,a with
 |some (QH s),QH (ky,dy,Z1)=>if i∈pn then QI else(match BC op s.d dy with|some dz=>QH (.nx (Z1.set i (QH (GI dz))))|none=>QI)
 |_,_=>QI
theorem IP(O:ao X U c){f:Ro->MR}{i:Nat}(D:lI c x=QJ)(hi:aZ x c.N=QH i)(B:bz X f e):cX X pn (λZ=>BD pn i op Z[i]? (f Z)) (.AugAssign (.Name x p) op e pos):=by
 intro Z r h g Y H V s q;let l:=iX O D;dsimp only[BD] at h;split at h
 ·ext T Q P S L C;split at h
  ·cases h
  ·ext t;split at h
   ·ext A k;cases h;obtain⟨ux,R,I,o,m,n⟩:=v6 k;obtain⟨v,W,e1,e2,e3⟩:=s.slot i _ L;let u:=pL o e3.rd;subst u;show ce (DV (i:=i) (by rw[O.N];show O.nd) (by rw[O.N];show aU hi) l.1 aq (Fh op) l.2) ⟨_,e1,B Z _ _ _ C g Y H _ s λy K E F a j M=>?_⟩;let w:=pL m M.rd;subst w;show⟨_,_,A,I,o,m,k,n,?_⟩;let d:=j.drop (F2:=iH) (λ_ z=>z.elim) λb z=>(a.tmp b z).1;rw[aT λ_ z=>z] at d;show q _ K E (a.drop λ_ z=>z.elim) (d.set i (yA n)) (PinOk.set t)
   ·cases h
 ·cases h
end
theorem mz(b:List QV)(env:Env):∀a:List QV,execs (a++b) env=(execs a env >>= λf=>match f with|.next=>execs b env|f=>pure f)
 |[]=>by
  change execs b env=((pure .next:Sem Flow) >>= _)
  rw[pure_bind]
 |st::a=>by
  change execs (st::(a++b)) env=_;rw[execs_cons,execs_cons,bind_assoc];congr 1;funext f
  cases f with
  |next=>show mz b env a
  |_=>rw[pure_bind]
theorem BE{a b:List QV}{Y:L2.St}(h:CK X a { Dn with nx:=λY H=>CK X b Dn Y H } Y H):CK X (a++b) Dn Y H:=by
 intro c s I;rw[mz];show QM (aV (h c s I) λf s1 q=>?_)
 cases f with
 |next=>
  obtain⟨g,e,d,q⟩:=q;show q c s1 d
 |_=>show QQ q
theorem nR{κ:Type}[DecidableEq κ]:∀(d:List (κ×V)) (k:κ) (j:Nat),(d.map (·.1)).Nodup->d.findIdx? (λc=>decide (c.1=k))=QH j->(d.map (λc=>if c.1=k then(c.1,v) else c)).map (·.2)=(d.map (·.2)).set j v
 |[],k,j,_,h=>by simp at h
 |(a,b)::r,k,j,hn,h=>by
  rw[N4] at h;rw[NS,NU] at hn;by_cases e:a=k
  ·subst e;simp at h;subst h
   have:r.map (λc=>if c.1=a then(c.1,v) else c)=r:=by
    conv=>rhs;rw[<- List.map_id r]
    show Oc λc hk=>?_;rw[if_neg λz=>hn.1 (NR.mpr ⟨c,hk,z⟩)];rfl
   simp[this]
  ·simp only[e,decide_false] at h;obtain⟨g,f,rfl⟩:=bx (by simpa using h);have:=nR (v:=v) r k g hn.2 f;simp only[NS,e,if_false,Pz,this]
theorem ul{κ:Type}[DecidableEq κ](a:List (κ×V))(k:κ):(a.map (λb=>if b.1=k then(b.1,v) else b)).map (·.1)=a.map (·.1):=by
 rw[NN];show Oc λb _=>?_;simp only[Function.comp]
 split<;>rfl
theorem cG{κ:Type}[DecidableEq κ]{a:List (κ×V)}{k:κ}:(a.any λb=>decide (b.1=k))=(a.findIdx? λb=>decide (b.1=k)).isSome:=by
 rw[List.findIdx?_isSome]
theorem ji{α β:Type}{f:α->β}:∀{l:List α},(l.map f).Nodup->l.Nodup
 |[],_=>.nil
 |a::l,h=>by
  rw[NS,NU] at h;show NU.mpr ⟨λz=>h.1 (List.mem_map_of_mem z),ji h.2⟩
theorem um{H:Hp}{ks:List DK}{xs:List V}{k:DK}{y v:V}(g:H a=QH o)(q:cP K o (.dic t ks) xs)(h:iT d=QH k)(r:Rp K H S d y)(hk:gY t k=QJ)(hz:xs.length<sizeLine) :
  (∀j,aR ks k=QH j->ks.Nodup->∃s:Nat->HO,DPut H a y v (λe=>upd H a (s e))/\∀e,(∀xs,s e≠.tup xs)/\cP K (s e) (.dic t ks) (xs.set j v))/\(aR ks k=QI->∃s:Nat->HO,DPut H a y v (λe=>upd H a (s e))/\∀e,(∀xs,s e≠.tup xs)/\cP K (s e) (.dic t (ks++[k])) (xs++[v])):=by
 rcases q with⟨rfl,c,rfl,e1,e2⟩|⟨m,rfl,c,B,rfl,e1,e2⟩
 ·rcases nq h r with⟨x,rfl,rfl⟩|⟨i,b,rfl,rfl,A⟩
  ·let e3:aR ks (.inl x)=c.findIdx? λw=>decide (w.1=x):=by
    unfold aR;rw[e1,OX];congr 1;funext p;simp[Sum.inl.injEq]
   let z:c.length<sizeLine:=by rw[e2] at hz;simpa using hz
   let u:=DPut.k (k:=x) (v:=v) g z;show⟨λj f l=>⟨λ_=>.dK (cw c x v),u,λ_=>⟨(λxs h=>by cases h),.inl ⟨rfl,_,rfl,?_,?_⟩⟩⟩,λf=>⟨λ_=>.dK (cw c x v),u,λ_=>⟨(λxs h=>by cases h),.inl ⟨rfl,_,rfl,?_,?_⟩⟩⟩⟩
   ·rw[e3] at f;unfold cw;rw[cG,f,if_pos (by rfl),e1];have:=congrArg (Ph (Sum.inl:aN->DK)) (ul (v:=v) c x);simp only[NN] at this⊢;show this.symm
   ·rw[e3] at f;unfold cw;rw[cG,f,if_pos (by rfl),e2]
    let n:(c.map (·.1)).Nodup:=by
     rw[e1] at l;have:c.map (λp=>(Sum.inl p.1:DK))=(c.map (·.1)).map Sum.inl:=by rw[NN];rfl
     rw[this] at l;show ji l
    show(nR c x j n f).symm
   ·rw[e3] at f;unfold cw;rw[cG,f,if_neg (by simp),e1];simp
   ·rw[e3] at f;unfold cw;rw[cG,f,if_neg (by simp),e2];simp
  ·cases hk
 ·rcases nq h r with⟨x,rfl,rfl⟩|⟨i,b,rfl,rfl,A⟩
  ·cases hk
  ·let e3:aR ks (.inr i)=c.findIdx? λw=>decide (w.1=i):=by
    unfold aR;rw[e1,OX];congr 1;funext p;simp[Sum.inr.injEq]
   let z:c.length<sizeLine:=by rw[e2] at hz;simpa using hz
   let u:=DPut.t (k:=i) (v:=v) g (A m hk) z;show⟨λj f l=>⟨λe=>.dT m e (cw c i v),u,λe=>⟨(λxs h=>by cases h),.inr ⟨m,rfl,_,e,rfl,?_,?_⟩⟩⟩,λf=>⟨λe=>.dT m e (cw c i v),u,λe=>⟨(λxs h=>by cases h),.inr ⟨m,rfl,_,e,rfl,?_,?_⟩⟩⟩⟩
   ·rw[e3] at f;unfold cw;rw[cG,f,if_pos (by rfl),e1];have:=congrArg (Ph (Sum.inr:List (aN ⊕ List aN)->DK)) (ul (v:=v) c i);simp only[NN] at this⊢;show this.symm
   ·rw[e3] at f;unfold cw;rw[cG,f,if_pos (by rfl),e2]
    let n:(c.map (·.1)).Nodup:=by
     rw[e1] at l;have:c.map (λp=>(Sum.inr p.1:DK))=(c.map (·.1)).map Sum.inr:=by rw[NN];rfl
     rw[this] at l;show ji l
    show(nR c i j n f).symm
   ·rw[e3] at f;unfold cw;rw[cG,f,if_neg (by simp),e1];simp
   ·rw[e3] at f;unfold cw;rw[cG,f,if_neg (by simp),e2];simp
section
variable {K:Np} {H:Hp} {S:Pr}
theorem TrL.setAt:∀{ds:List D} {es:List Ow} {r:Ow} {xs:List V} {F F2:Pr} {j:Nat} {d:D} {v:V},TrL K H S ds es r xs F->j<ds.length->Tr K H S d (es.getD j r) v F2->(∀b,F b->¬F2 b)->∃F3:Pr,(∀b,F3 b->F b\/F2 b)/\TrL K H S (ds.set j d) es r (xs.set j v) F3
 |[],_,_,_,_,_,_,_,_,_,hj,_,_=>by simp at hj
 |d0::ds,es,r,xs,F,F2,0,d,v,h,hj,t,dj=>by
  unfold TrL at h;obtain⟨y,e,k,F3,rfl,a,c,n,g⟩:=h;show⟨λb=>F2 b\/F3 b,λb z=>z.elim .inr λz=>.inl ((a b).mpr (.inr z)),?_⟩;change TrL K H S (d::ds) es r (v::e) _;unfold TrL
  show⟨v,e,F2,F3,rfl,λb=>Iff.rfl,λb f i=>dj b ((a b).mpr (.inr i)) f,by cases es<;>simpa using t,g⟩
 |d0::ds,es,r,xs,F,F2,j+1,d,v,h,hj,t,dj=>by
  unfold TrL at h;obtain⟨y,e,k,F3,rfl,a,c,n,g⟩:=h
  let o:es.tail.getD j r=es.getD (j+1) r:=by cases es<;>simp
  obtain⟨m,l,p⟩:=TrL.setAt (j:=j) (d:=d) (v:=v) (F2:=F2) g (by simpa using hj) (by rw[o];show t) λb z=>dj b ((a b).mpr (.inr z));show⟨λb=>k b\/m b,λb z=>z.elim (λz=>.inl ((a b).mpr (.inl z))) λz=>(l b z).imp (λz=>(a b).mpr (.inr z)) id,?_⟩;change TrL K H S (d0::ds.set j d) es r (y::e.set j v) _;unfold TrL;show⟨y,_,k,m,rfl,λb=>Iff.rfl,λb f i=>?_,n,p⟩;rcases l b i with z|z
  ·show c b f z
  ·show dj b ((a b).mpr (.inl f)) z
end
def nS(es:List Ow)(r:Ow)(hd:Hd)(ds:List D)(dx:D)(x:KD):Option (Hd×List D):=match hd with
 |.lst=>(match dx with|.int z=>(match jN ds.length z with|some j=>if bK (es.getD j r) x=QJ then QH (.lst,ds.set j x.2) else QI|none=>QI)|_=>QI)
 |.dic t ks=>(match iT dx with
  |some k=>if gY t k=QJ/\ds.length<100000 then(match aR ks k with
   |some j=>if bK (es.getD j r) x=QJ/\ks.Nodup/\j<ds.length then QH (.dic t ks,ds.set j x.2) else QI
   |none=>if es.length<=ds.length/\bK r x=QJ then QH (.dic t (ks++[k]),ds++[x.2]) else QI) else QI
  |none=>QI)
 |_=>QI
def yB(i:Nat)(q:Ro->Option (Ow×D×(D->D)))(B:Ro->Option KD)(a:MR):Option Res:=match a with
 |some (kd,d,Z1)=>(match q Z1,B Z1,Z1[i]? with
  |some (.own es r,.nd hd ds,up),QH (_,dx),QH (QH ⟨QL,k,_⟩)=>(match nS es r hd ds dx (dF kd d,d) with
   |some (hd',ds')=>QH (.nx (Z1.set i (QH ⟨QL,k,up (.nd hd' ds')⟩)))
   |none=>QI)
  |_,_,_=>QI)
 |none=>QI
theorem v7:swapsWithSole [.Subscript o b sp] e n env=pure QL:=by
 cases e<;>rfl
theorem BF:swappedStores [.Subscript o b sp] e env=pure QI:=by
 cases e<;>rfl
section
variable {X:Cx} {U:Tab} {c:Cz} {pn:List Nat}
theorem yC{H H0:Hp}{g g0:Gh}{Z:Ro}{up:D->D}{xs:List V}{x:KD}{N:iJ}(c:nS es r hd ds dx x=QH (hd',ds'))(f:nO K H g F Z Y i k es r hd ds up a o xs F')(U:Evo g0 H0 g H F)(se:SE K (g.plus F) Z Y H)(vr:VR1 K H g F x.1 x.2 v F)(ry:Rp K H S dx y)(q:EndM K pn g0 H0 Y N (.nx (Z.set i (QH ⟨QL,k,up (.nd hd' ds')⟩)))) :
  (∃z j,hd=.lst/\y=.int z/\o=.lst xs/\H a=QH o/\jN xs.length z=QH j/\N.nx Y (upd H a (.lst (xs.set j v))))\/((∃t E,hd=.dic t E)/\∃W,DPut H a y v W/\∀e,N.nx Y (W e)):=by
 let hF:∀b,F b->g b=QI:=λb z=>(U.tmp b z).1;let mm:MuOk H (Sx g F):=λb z=>se.mu b ((al b).mpr z);let u:∀(d:Pr),(∀b,d b->F b)->∀b,Sg (g.give d i) b->Sg (g.plus F) b:=λd s2 b z=>(al b).mpr ((give_S.mp z).imp id (s2 b))
 let B:∀{P:Ow},bK P x=QJ->∃d:Pr,(∀b,d b->F b)/\Tr K H (Sg (g.give d i)) x.2 P v d/\(∀b,F' b->¬d b):=λ{P} m=>by
  obtain⟨d,X,a2⟩:=VR1.fit (p:=x) m mm hF (λb z=>z) vr;show⟨d,X,a2 _ λb z=>?_,λb z1 z2=>by have:=f.lab b z1;rw[hF b (X b z2)] at this;cases this⟩;show(give_S.mp z).elim (λz=>.inr (.inl z)) λz=>.inr (.inr (.inl z))
 let w:∀{A:HO} {d:Pr},(∀b,d b->F b)->SE K (g.give d i) (Z.set i (QH ⟨QL,k,up (.nd hd' ds')⟩)) Y (upd H a A)->N.nx Y (upd H a A):=λ{A d} s2 s=>q Y _ _ (U.give s2 f.own) s PinOk.refl;unfold nS at c;split at c
 ·split at c
  ·ext z;split at c
   ·ext j C;split at c
    ·ext m;cases c;obtain⟨d,b1,b2,b3⟩:=B m;let ho:o=.lst xs:=f.ok;let l:=f.kids.len;let T:j<ds.length:=(m5 C).2.1;obtain⟨Q,O,L⟩:=(f.kids.go (S':=Sg (g.give d i)) (λ_ _ _ e=>e) λb o _ n z=>n (u d b1 b z)).setAt T b2 b3;show .inl ⟨z,j,rfl,ry.int,ho,f.at_,by rw[l];show C,w b1 (f.put (.lst (xs.set j v)) .lst _ _ d Q rfl rfl (λxs h=>by cases h) b1 O L)⟩
    ·cases c
   ·cases c
  ·cases c
 ·ext t E;split at c
  ·ext kk hk;split at c
   ·ext M;let l:=f.kids.len;obtain⟨p1,p2⟩:=um (v:=v) f.at_ f.ok hk ry M.1 (by rw[l];show ND M.2 (aP (Ny _)));split at c
    ·ext j C;split at c
     ·ext m;cases c;obtain⟨A,R,I⟩:=p1 j C m.2.1;obtain⟨d,b1,b2,b3⟩:=B m.1;obtain⟨Q,O,L⟩:=(f.kids.go (S':=Sg (g.give d i)) (λ_ _ _ e=>e) λb o _ n z=>n (u d b1 b z)).setAt m.2.2 b2 b3;show .inr ⟨⟨t,E,rfl⟩,_,R,λe=>w b1 (f.put (A e) (.dic t E) _ _ d Q rfl (I e).2 (I e).1 b1 O L)⟩
     ·cases c
    ·ext C;split at c
     ·ext m;cases c;obtain⟨A,R,I⟩:=p2 C;obtain⟨d,b1,b2,b3⟩:=B m.2;let L:=TrL.snoc2 m.1 (f.kids.go (S':=Sg (g.give d i)) (λ_ _ _ e=>e) λb o _ n z=>n (u d b1 b z)) b2 b3;show .inr ⟨⟨t,E,rfl⟩,_,R,λe=>w b1 (f.put (A e) (.dic t (E++[kk])) _ _ d _ rfl (I e).2 (I e).1 b1 (λb z=>z) L)⟩
     ·cases c
   ·cases c
  ·cases c
 ·cases c
theorem IQ(O:ao X U c){f:Ro->MR}(hf:bz X f e)(hp:lM X i fp b)(hk:SndE X fk k)(hb:cR k=QJ)(hn:e9 e=QJ):cX X pn (λZ=>yB i fp fk (f Z)) (.Assign [.Subscript b k sp] e pos):=by
 intro Z r h g Y H Dn se q;dsimp only[yB] at h;split at h
 ·ext kd d R he;split at h
  ·ext es r0 P ds up kx dx kk d0 ep ek ei;split at h
   ·ext hg hc N;cases h
    let mu:P.mu=QJ:=by
     cases P with
     |tup=>simp[nS] at N
     |_=>rfl
    let I:∀v m C F,Evo g H m C F->SE X.K (m.plus F) R Y C->VR1 X.K C m F kd d v F->∀Q A w M L S,Same C A->R[i]?=QH (QH ⟨QL,L,S⟩)->Y[i]?=QH (QH w)->(∀b,M b->(m.plus F) b=QH (QH i))->FP X.K A (Sg (m.plus F)) L w M (.own es r0) (.nd P ds) Q up->∀y u,Same A u->VR X.K (m.plus F) A u kx dx y->
      ∃a o E V,Q=.ref a/\nO X.K u m F R Y i kk es r0 P ds up a o E V/\((∃z j,P=.lst/\y=.int z/\o=.lst E/\u a=QH o/\jN E.length z=QH j/\Dn.nx Y (upd u a (.lst (E.set j v))))\/((∃t ks,P=.dic t ks)/\∃F4,DPut u a y v F4/\∀e,Dn.nx Y (F4 e))):=by
     intro v m C F D l vr Q A w M L S s2 s ew W B y u s3 ry;rw[ei] at s;cases s;let rF:=s2.trans s3;let T:=l.same rF;let ha:Evo g H m u F:=⟨λb o n e=>rF _ _ (D.keep b o n e),D.out,D.new,D.tmp,λb o e=>let ⟨o',q1⟩:=D.dom b o e;⟨o',rF _ _ q1⟩⟩;obtain⟨a,o,E,V,rfl,nd⟩:=FP.node T (λb z=>(D.tmp b z).1) ei ew W (B.same s3) mu;show⟨a,o,E,V,rfl,nd,yC (x:=(dF kd d,d)) N nd ha T ((vr.im l.mu).go rF λ_ _ _ z=>z) ry.rd q⟩
    cases P with
    |lst=>
     show ce (qC aq (DU aq aq xg (by intro v;cases k<;>first|rfl|cases hb)) v7 BF) ?_
     show hf Z _ _ _ he g Y H _ se λv m C F D l vr=>hp R _ _ _ ep (m.plus F) Y C _ l λQ A w M L S s2 s ew W B=>hk R _ _ ek (m.plus F) Y A _ (l.same s2) λy u s3 ry=>?_;obtain⟨a,o,E,V,rfl,nd,p⟩:=I v m C F D l vr Q A w M L S s2 s ew W B y u s3 ry;rcases p with⟨z,j,_,rfl,rfl,g3,hj,p⟩|⟨⟨t,ks,z⟩,_⟩
     ·show⟨a,E,z,j,rfl,rfl,g3,hj,p⟩
     ·cases z
    |dic t ks=>
     show ce (AL (by have:=O.tab.units;lia) aq aq aq (j5 hn)) ?_;show hf Z _ _ _ he g Y H _ se λv m C F D l vr=>hp R _ _ _ ep (m.plus F) Y C _ l λQ A w M L S s2 s ew W B=>hk R _ _ ek (m.plus F) Y A _ (l.same s2) λy u s3 ry=>?_;obtain⟨a,o,E,V,rfl,nd,p⟩:=I v m C F D l vr Q A w M L S s2 s ew W B y u s3 ry;rcases p with⟨z,j,zz,_⟩|⟨_,H4,d1,p⟩
     ·cases zz
     ·show⟨a,H4,rfl,d1,p⟩
    |tup=>cases mu
    |obj c ns=>simp[nS] at N
   ·cases h
  ·cases h
 ·cases h
theorem TrL.snocG:∀{ds:List D} {es:List Ow} {r:Ow} {us:List V} {F F2:Pr} {d:D} {v:V},TrL K H S ds es r us F->Tr K H S d (es.getD ds.length r) v F2->(∀b,F b->¬F2 b)->TrL K H S (ds++[d]) es r (us++[v]) (λb=>F b\/F2 b)
 |[],es,r,us,F,F2,d,v,h,t,dj=>by
  unfold TrL at h;obtain⟨rfl,m⟩:=h;change TrL K H S [d] es r [v] _;unfold TrL
  show⟨v,[],F2,λ_=>False,rfl,λb=>⟨λz=>z.elim (λz=>absurd z (m b)) .inl,λz=>z.elim .inr λz=>z.elim⟩,λ_ _ z=>z,by cases es<;>simpa using t,?_⟩
  unfold TrL;show⟨rfl,λ_ z=>z⟩
 |d0::ds,es,r,us,F,F2,d,v,h,t,dj=>by
  unfold TrL at h;obtain⟨y,g,l,k,rfl,c,f,n,i⟩:=h
  let j:es.getD (d0::ds).length r=es.tail.getD ds.length r:=by cases es<;>simp
  rw[j] at t;have:=TrL.snocG i t λb e a=>dj b ((c b).mpr (.inr e)) a;change TrL K H S (d0::(ds++[d])) es r (y::(g++[v])) _;unfold TrL;show⟨y,g++[v],l,λb=>k b\/F2 b,rfl,λb=>⟨λz=>z.elim (λz=>((c b).mp z).imp id .inl) λz=>.inr (.inr z),λz=>z.elim (λz=>.inl ((c b).mpr (.inl z))) λz=>z.imp (λz=>(c b).mpr (.inr z)) id⟩,λb e a=>a.elim (f b e) λa=>dj b ((c b).mpr (.inl e)) a,n,this⟩
theorem uo:∀{ns:List Str} {xs:List V} {j:Nat},aZ f ns=QH j->ns.length=xs.length->putF f v (ns.zip xs)=ns.zip (xs.set j v)
 |[],_,_,h,_=>by cases h
 |_::_,[],_,_,l=>by cases l
 |n::ns,x::xs,j,h,l=>by
  unfold aZ at h;rw[OU];unfold putF;split at h
  ·ext a;cases h;rw[if_pos a.symm];rfl
  ·ext a;obtain⟨c,b,rfl⟩:=bx h;rw[if_neg (Ne.symm a),Pz,OU,uo b (by simpa using l)]
theorem pM{f:Str}{v:V}:∀{ns:List Str} {xs:List V},aZ f ns=QI->ns.length=xs.length->putF f v (ns.zip xs)=(ns++[f]).zip (xs++[v])
 |[],[],_,_=>rfl
 |[],_::_,_,l=>by cases l
 |_::_,[],_,l=>by cases l
 |n::ns,x::xs,h,l=>by
  unfold aZ at h;rw[OU];unfold putF;split at h
  ·cases h
  ·ext a
   rw[if_neg (Ne.symm a),OE,OE,OU,pM (by cases q:aZ f ns with|none=>rfl|some z=>rw[q] at h;cases h) (by simpa using l)]
def IU(es:List Ow)(r:Ow)(ns:List Str)(ds:List D)(f:Str)(x:KD):Option (List Str×List D):=match aZ f ns with
 |some j=>if bK (es.getD j r) x=QJ/\j<ds.length/\ds.length<900 then QH (ns,ds.set j x.2) else QI
 |none=>if bK (es.getD ds.length r) x=QJ/\ds.length<900 then QH (ns++[f],ds++[x.2]) else QI
def yD(i:Nat)(c f:Str)(q:Ro->Option (Ow×D×(D->D)))(a:MR):Option Res:=match a with
 |some (kd,d,Z1)=>(match q Z1,Z1[i]? with
  |some (.own es r,.nd (.obj c' ns) ds,up),QH (QH ⟨QL,k,_⟩)=>if c'=c then(match IU es r ns ds f (dF kd d,d) with
   |some (ns',ds')=>QH (.nx (Z1.set i (QH ⟨QL,k,up (.nd (.obj c ns') ds')⟩)))
   |none=>QI) else QI
  |_,_=>QI)
 |none=>QI
theorem Fk{f:Ro->MR}{i:Nat}{fp:Ro->Option (Ow×D×(D->D))}{b e:QN}{c z:Str}{sp pos:Pos}(hd:∀C,Oa X.K QZ c=QH (QH (.ref C))->Cls X.K C/\NoAttr X.K C z)(hf:bz X f e)(hp:lM X i fp b)
  (hs:swapsWith e (QH (.Attribute b z sp)) pos.line X.env=pure QL):cX X pn (λZ=>yD i c z fp (f Z)) (.Assign [.Attribute b z sp] e pos):=by
 intro Z r h g Y H Dn se q;dsimp only[yD] at h;split at h
 ·ext kd d Z1 he;split at h
  ·ext es r0 c' ns ds up kk d0 ep ei;split at h
   ·ext hc;subst hc;split at h
    ·ext hb ha l;cases h;show ce (D9 aq aq hs) ?_;show hf Z _ _ _ he g Y H _ se λv m H1 F x u vr=>hp Z1 _ _ _ ep (m.plus F) Y H1 _ u λv1 I w Fi k' d' s2 P ew lb W=>?_;rw[ei] at P;cases P;let M:=u.same s2;let R:Evo g H m I F:=⟨λb o n e=>s2 _ _ (x.keep b o n e),x.out,x.new,x.tmp,λb o e=>let ⟨Q,q1⟩:=x.dom b o e;⟨Q,s2 _ _ q1⟩⟩;obtain⟨a,o,N,F',rfl,t⟩:=FP.node M (λb z=>(x.tmp b z).1) ei ew lb W rfl;obtain⟨C,U,hC,⟨T,na⟩,ho,L⟩:=t.ok;subst ho;let hF:∀b,F b->m b=QI:=λb z=>(R.tmp b z).1;let mm:MuOk I (Sx m F):=λb z=>M.mu b ((al b).mpr z);let B:∀(k:Pr),(∀b,k b->F b)->∀b,Sg (m.give k i) b->Sg (m.plus F) b:=λk s2 b z=>(al b).mpr ((give_S.mp z).imp id (s2 b));let hg:=(vr.im u.mu).go s2 λ_ _ _ z=>z
     let S:∀{kc:Ow},bK kc (dF kd d,d)=QJ->∃k:Pr,(∀b,k b->F b)/\Tr X.K I (Sg (m.give k i)) d kc v k/\(∀b,F' b->¬k b):=λ{kc} hf=>by
      obtain⟨k,a1,a2⟩:=VR1.fit (p:=(dF kd d,d)) hf mm hF (λb z=>z) hg;show⟨k,a1,a2 _ λb z=>?_,λb z1 z2=>by have:=t.lab b z1;rw[hF b (a1 b z2)] at this;cases this⟩;show(give_S.mp z).elim (λz=>.inr (.inl z)) λz=>.inr (.inr (.inl z))
     let E:∀{Q:HO} {k:Pr},(∀b,k b->F b)->SE X.K (m.give k i) (Z1.set i (QH ⟨QL,kk,up (.nd (.obj c' hb) ha)⟩)) Y (upd I a Q)->Dn.nx Y (upd I a Q):=λ{Q k} s2 s=>q Y _ _ (R.give s2 t.own) s PinOk.refl;let O:=t.kids.len;let hz:(ns.zip N).length=ds.length:=by rw[List.length_zip,L,O,Nat.min_self]
     obtain⟨hi,nz⟩:=hd C hC;unfold IU at l;split at l
     ·ext j V;split at l
      ·ext A;cases l;obtain⟨k,b1,b2,b3⟩:=S A.1;obtain⟨F3,c1,c2⟩:=(t.kids.go (S':=Sg (m.give k i)) (λ_ _ _ e=>e) λb o _ n z=>n (B k b1 b z)).setAt A.2.1 b2 b3;show⟨a,C,U,ns.zip N,rfl,t.at_,T,nz,by rw[hz];have:=A.2.2;lia,?_⟩;rw[uo V L];show E b1 (t.put _ (.obj c' ns) _ _ k F3 rfl ⟨C,U,hC,⟨T,na⟩,rfl,by rw[O5];show L⟩ (λN h=>by cases h) b1 c1 c2)
      ·cases l
     ·ext V;split at l
      ·ext A;cases l;obtain⟨k,b1,b2,b3⟩:=S A.1;let c2:=TrL.snocG (t.kids.go (S':=Sg (m.give k i)) (λ_ _ _ e=>e) λb o _ n z=>n (B k b1 b z)) b2 b3;show⟨a,C,U,ns.zip N,rfl,t.at_,T,nz,by rw[hz];have:=A.2;lia,?_⟩;rw[pM V L];show E b1 (t.put _ (.obj c' (ns++[z])) _ _ k _ rfl ⟨C,U,hC,⟨T,λy hy=>(NH.mp hy).elim (na y) λhy=>by rw[NF.mp hy];show nz⟩,rfl,by rw[NK,NK,L];rfl⟩ (λN h=>by cases h) b1 (λb z=>z) c2)
      ·cases l
    ·cases h
   ·cases h
  ·cases h
 ·cases h
end
mutual
inductive IS where
 |asg (i:Nat) (a:ME)
 |unp (is:List Nat) (a:ME)
 |aug (i:Nat) (op:Q1) (a:ME)
 |put (b:BP) (k:IE) (a:ME)
 |putF (c:Str) (b:BP) (f:Str) (a:ME)
 |ret (a:ME)
 |ifs (t:MT) (a b:bB)
 |fo (fg:List Nat) (tg:IT) (it:MI) (b:bB)
 |wh (fg:List Nat) (t:MT) (b:bB)
 |pas
 |exp (a:ME)
 |pre (is:List Nat) (s:IS)
 |stk
inductive bB where
 |nil
 |cons (s:IS) (r:bB)
end
mutual
def lP(U:GG)(N:Nat):IS->List Nat->Ro->Option Res
 |.asg i a,pn,Z=>ff pn i (bf U a Z)
 |.unp is a,pn,Z=>Bz pn is (bf U a Z)
 |.aug i op a,pn,Z=>BD pn i op Z[i]? (bf U a Z)
 |.put b k a,_,Z=>yB b.slot (rP U.fn b) (aa U.fn k) (bf U a Z)
 |.putF c b f a,_,Z=>yD b.slot c f (rP U.fn b) (bf U a Z)
 |.ret a,_,Z=>rV (bf U a Z)
 |.ifs t a b,pn,Z=>BA (lN U t Z) (aD U N a pn) (aD U N b pn)
 |.fo fg tg it b,pn,Z=>pK pn fg tg (aD U N b) (nP U it Z)
 |.wh fg t b,pn,Z=>jR fg (lN U t) (aD U N b pn) N Z
 |.pas,_,Z=>QH (.nx Z)
 |.exp a,_,Z=>yu (bf U a Z)
 |.pre is s,pn,Z=>lP U N s pn (frzN is Z)
 |.stk,_,_=>QI
def aD(U:GG)(N:Nat):bB->List Nat->Ro->Option Res
 |.nil,_,Z=>QH (.nx Z)
 |.cons s r,pn,Z=>cg (lP U N s pn Z) (aD U N r pn)
end
section
theorem BG:lP U N (.asg i a) pn Z=ff pn i (bf U a Z):=rfl
theorem BH:lP U N (.unp is a) pn Z=Bz pn is (bf U a Z):=rfl
theorem BI:lP U N (.aug i op a) pn Z=BD pn i op Z[i]? (bf U a Z):=rfl
theorem BJ{U:GG}:lP U N (.put b k a) z0 Z=yB b.slot (rP U.fn b) (aa U.fn k) (bf U a Z):=rfl
theorem BK:lP U N (.ret a) z0 Z=rV (bf U a Z):=rfl
theorem uq:lP U N (.ifs t a b) pn Z=BA (lN U t Z) (aD U N a pn) (aD U N b pn):=rfl
theorem Fl:lP U N (.fo fg tg it b) pn Z=pK pn fg tg (aD U N b) (nP U it Z):=rfl
theorem Fo:lP U N (.wh fg t b) pn Z=jR fg (lN U t) (aD U N b pn) N Z:=rfl
theorem BL:lP U N (.pre is s) pn Z=lP U N s pn (frzN is Z):=rfl
theorem BM:lP U N (.exp a) z0 Z=yu (bf U a Z):=rfl
end
theorem LK{f:Ro->Option Res}(h:∀Z,f Z=QI):cX X pn f e:=λZ r a=>by rw[h] at a;cases a
structure An where
 fg:Nat->List Nat:=λ_=>[]
 pz:Nat->List Nat:=λ_=>[]
 sk:Nat->Bool:=λ_=>QL
noncomputable def rX(f:QV->Option IS):List QV->Option bB
 |[]=>QH .nil
 |s::r=>match f s,rX f r with|some a,QH b=>QH (.cons a b)|_,_=>QI
noncomputable def CN(l:List Nat)(s:Option IS):Option IS:=match l,s with
 |[],s=>s
 |l,QH s=>QH (.pre l s)
 |_,QI=>QI
noncomputable def rY:QV->Nat
 |.Assign _ _ p=>p.line
 |.AugAssign _ _ _ p=>p.line
 |.Return _ p=>p.line
 |.Expr _ p=>p.line
 |.If _ _ _ p=>p.line
 |.For _ _ _ _ p=>p.line
 |.While _ _ _ p=>p.line
 |.Raise _ _ p=>p.line
 |.Try _ _ _ _ p=>p.line
 |.Delete _ p=>p.line
 |_=>0
noncomputable def ur:QN->Bool
 |.ListComp _ gs _ _=>(match gs with|[]=>QL|g::gs=>(match gs with|[]=>g.is_async==0|_::_=>QL))
 |_=>QL
noncomputable def CP:QN->Bool
 |.Constant (.str _) _ _=>QJ
 |_=>QL
noncomputable def CQ(f:Str):List (Str×List Str)->Option Str
 |[]=>QI
 |(c,fs)::r=>if f∈fs then QH c else CQ f r
def CS(fns:Nms)(f:Str):Option Str:=match CQ f fns.cls with
 |some c=>(match fns.cls.lookup c with|some fs=>if f∈fs then QH c else QI|none=>QI)
 |none=>QI
def GM(fns:Nms)(m:Nat)(c:Cz)(q:List QN)(e:QN):Option IS:=match q with
 |[]=>QI
 |t::q=>match q with
  |_::_=>QI
  |[]=>match t with
   |.Name x _=>if lI c x&&(e9 e||ur e) then(match aZ x c.N,cM fns (m+1) c e with|some i,QH a=>QH (.asg i a)|_,_=>QI) else QI
   |.Tuple es _ _=>if yr e then(match yt c es,cM fns (m+1) c e with|some is,QH a=>QH (.unp is a)|_,_=>QI) else QI
   |.Subscript b k _=>if cR k&&e9 e then(match CI c (cE fns (m+1) c) 6 b,cE fns (m+1) c k,cM fns (m+1) c e with|some b,QH k,QH a=>QH (.put b k a)|_,_,_=>QI) else QI
   |.Attribute b z _=>if e9 e then(match CS fns z,CI c (cE fns (m+1) c) 6 b,cM fns (m+1) c e with|some cl,QH b,QH a=>QH (.putF cl b z a)|_,_,_=>QI) else QI
   |_=>QI
def LL(fns:Nms)(m:Nat)(c:Cz)(t:QN)(op:Q1)(e:QN):Option IS:=match t with
 |.Name x _=>if lI c x then(match aZ x c.N,cM fns (m+1) c e with|some i,QH a=>QH (.aug i op a)|_,_=>QI) else QI
 |_=>QI
def MH(fns:Nms)(an:An)(m:Nat)(c:Cz)(q:List QV->Option bB)(tg iter:QN)(body B:List QV)(p:Pos):Option IS:=match B with
 |_::_=>QI
 |[]=>if de iter then(match nG c 4 tg,yo (EO c (cE fns (m+1) c) tg iter),q body with|some t,QH it,QH b=>QH (.fo (an.fg p.line) t it b)|_,_,_=>QI) else QI
def GN(fns:Nms)(an:An)(m:Nat)(c:Cz)(q:List QV->Option bB):QV->Option IS
 |.Assign ts e _=>GM fns m c ts e
 |.AugAssign t op e _=>LL fns m c t op e
 |.Return e _=>(match e with|some e=>(cM fns (m+1) c e).map .ret|none=>QI)
 |.Expr e _=>if CP e then QH .pas else if e9 e then(cM fns (m+1) c e).map .exp else QI
 |.If t a b _=>(match LC fns (m+1) c t,q a,q b with|some t,QH a,QH b=>QH (.ifs t a b)|_,_,_=>QI)
 |.For tg iter body els p=>MH fns an m c q tg iter body els p
 |.While t body els p=>(match els with|_::_=>QI|[]=>(match LC fns (m+1) c t,q body with|some t,QH b=>QH (.wh (an.fg p.line) t b)|_,_=>QI))
 |.Pass _=>QH .pas
 |_=>QI
def cS(fns:Nms)(an:An)(m:Nat)(c:Cz):Nat->QV->Option IS
 |0,_=>QI
 |n+1,s=>if an.sk (rY s)=QJ then QH .stk else CN (an.pz (rY s)) (GN fns an m c (rX (cS fns an m c n)) s)
abbrev cB(fns:Nms)(an:An)(m:Nat)(c:Cz)(n:Nat):List QV->Option bB:=rX (cS fns an m c n)
section
variable {X:Cx} {c:Cz} (fns:Nms) (U:GG)
theorem v8:∃b:Bool,swapsWith (.ListComp elt [⟨tg,iter,ifs,0⟩] scope cp) (QH (.Name x p)) n env=pure b:=⟨_,rfl⟩
theorem Fp(O:ao X (a5 fns U) c){m i:Nat}(hl:lI c x=QJ)(hi:aZ x c.N=QH i)(hc:ur e=QJ)(V:cM fns (m+1) c e=QH a):cX X pn (λZ=>ff pn i (bf U a Z)) (.Assign [.Name x p] e pos):=by
 let hs:∃elt tg iter ifs scope cp,e=.ListComp elt [⟨tg,iter,ifs,0⟩] scope cp:=by
  cases e with
  |ListComp elt gs scope cp=>cases gs with
   |nil=>cases hc
   |cons g gs=>cases gs with
    |cons _ _=>cases hc
    |nil=>
     cases g with
     |mk tg iter ifs as=>
      let h0:as=0:=eq_of_beq (show(as==0)=QJ from hc);subst h0;show⟨_,_,_,_,_,_,rfl⟩
  |_=>cases hc
 obtain⟨elt,tg,iter,ifs,scope,cp,rfl⟩:=hs;let l:=iX O hl;let hf:=(k5 fns U (m+1)).1 X c O _ _ V;intro Z r h g Y H Dn se q
 cases f:bf U a Z with
 |none=>dsimp only at h;rw[f] at h;cases h
 |some w=>
  obtain⟨kd,d,Z1⟩:=w;dsimp only at h;rw[f] at h;obtain⟨b,hb⟩:=v8 (elt:=elt) (tg:=tg) (iter:=iter) (ifs:=ifs) (scope:=scope) (cp:=cp) (p:=p) (x:=x) (n:=pos.line) (env:=X.env)
  cases b with
  |false=>show ce (qD (i:=i) (by rw[O.N];show O.nd) (by rw[O.N];show aU hi) l.1 aq hb l.2) (hf Z kd d Z1 f g Y H _ se λv g1 H1 F ev L vr=>ik h q ev L vr)
  |true=>
   let hd:∀{hck:a7 c scope=QJ} {hns:de iter=QJ},iP (wI X tg iter) (λv Y H Q=>∀C s A j,wG (ai X (ac scope) scope C s A j) tg v Y H Q) (λY H Q=>∀C s A j,EL (ai X (ac scope) scope C s A j) ifs Y H Q) (λY H Q=>∀C s A j,wE (ai X (ac scope) scope C s A j) elt Y H Q) (au c scope) Y H (λv H1=>gN i v Y H1 Dn.nx)->J5 X (.Assign [.Name x p] (.ListComp elt [⟨tg,iter,ifs,0⟩] scope cp) pos) Dn Y H:=λ{hck hns} ht=>
    ce (xx (N':=ac scope) (cap:=au c scope) O.calm (dc O hck) vO
     (λC s A j o s' Y' B v u Q' I r hh=>vP o s' Y' B v u Q' I r (hh C s A j)) (λC s A j o s' Y' B Q' I hh=>hh C s A j o s' I) (λC s A j o s' Y' B Q' I hh=>hh C s A j o s' I) (c5 hns)
     (by rw[O.N];show O.nd) (by rw[O.N];show aU hi) l.1 l.2 hb) ht
   let E:∀v g' B F,Evo g H g' B F->SE X.K (g'.plus F) Z1 Y B->VR1 X.K B g' F kd d v F->gN i v Y B Dn.nx:=λv g1 H1 F ev L vr=>ik h q ev L vr
   cases D:cE fns m c (.ListComp elt [⟨tg,iter,ifs,0⟩] scope cp) with
   |some W=>
    let P:QH (ME.p W)=QH a:=by rw[<- V];change _=(match cE fns m c _ with|some W=>QH (ME.p W)|none=>_);rw[D]
    cases P
    cases m with
    |zero=>cases(show(QI:Option IE)=QH _ from D)
    |succ m=>
     let k:Iv fns c (cE fns m) (cT fns m) elt [⟨tg,iter,ifs,0⟩] scope cp=QH W:=D;unfold Iv at k;dsimp only at k;rw[if_pos rfl] at k;split at k
     ·ext hn;rw[Nr] at hn;split at k
      ·ext t it ts el ht T S R;cases k;let y:=cz (fm:=lO fns U) fns U.fn m;let CO:=cW O hn.2
       let hv:aa U.fn (.comp ((fns.an cp.line cp.col).getD Ow.fz) (au c scope) t it ts el) Z=QH (kd,d)/\Z1=Z:=by
        rw[ym] at f;unfold J2 at f;split at f
        ·ext e';cases f;show⟨e',rfl⟩
        ·cases f
       obtain⟨hv,rfl⟩:=hv;rw[pi] at hv
       show hd (hck:=hn.2) (hns:=hn.1) (xR O hn.2 (tX fns U.fn O (y.1 X c O) T) ht (λC s H j=>tZ U.fn (y.2 _ _ (CO C s H j)) S) (λC s H j=>y.1 _ _ (CO C s H j) _ _ R) hv se λv B s ⟨F,h1,h2⟩=>
        E v g B F (cA s h1 λb z=>eK se.mu (h1 b z)) (se.plus s h1 h2.dom) h2)
      ·cases k
     ·cases k
   |none=>
    let P:v4 fns c (cM fns m) (cE fns m) elt [⟨tg,iter,ifs,0⟩] scope cp=QH a:=by
     replace V:(match cE fns m c (.ListComp elt [⟨tg,iter,ifs,0⟩] scope cp) with|some W=>QH (ME.p W)|none=>v4 fns c (cM fns m) (cE fns m) elt [⟨tg,iter,ifs,0⟩] scope cp)=QH a:=V
     rw[D] at V;show V
    obtain⟨hm,he,hj,t,it,ts,el,hq,hg,M,ht,T,S,R,rfl⟩:=ug fns P;cases hq;let y:=cz (fm:=lO fns U) fns U.fn m;let CO:=cW O M;rw[pF] at f
    first|(cases f;done)|show hd (hck:=M) (hns:=hg) (ua O M (rR fns U O (y.1 X c O) T) ht (λC s H j=>pG U S) (λC s H j=>(k5 fns U m).1 _ _ (CO C s H j) _ _ R) f se E)
theorem eM{f:QV->Option IS}(c:∀s a,f s=QH a->∀pn,cX X pn (lP U N a pn) s):∀{st:List QV} {b:bB},rX f st=QH b->∀pn,aX X pn (aD U N b pn) st
 |[],b,h,pn=>by
  cases h;show IL
 |s::st,b,h,pn=>by
  unfold rX at h;split at h
  ·ext a r d e;cases h;show Ff (c s a d pn) (eM c e pn)
  ·cases h
theorem LM(O:ao X (a5 fns U) c){m N:Nat}{j:List QN}{e:QN}{pos:Pos}{a:IS}(h:GM fns m c j e=QH a)(pn:List Nat):cX X pn (lP U N a pn) (.Assign j e pos):=by
 let o:=(k5 fns U (m+1)).1 X c O;let s:=(cz (fm:=lO fns U) fns U.fn (m+1)).1 X c O
 cases j with
 |nil=>cases h
 |cons t j=>cases j with
  |cons _ _=>cases h
  |nil=>cases t with
   |Name x p=>
    dsimp only[GM] at h;split at h
    ·ext n;rw[Nr,Op] at n;split at h
     ·ext i l y f;cases h;rw[show lP U N (.asg i l) pn=λZ=>ff pn i (bf U l Z) from funext λ_=>rfl];rcases n.2 with u|u
      ·show uh O n.1 y u (o _ _ f)
      ·show Fp fns U O n.1 y u f
     ·cases h
    ·cases h
   |Tuple P k p=>
    dsimp only[GM] at h;split at h
    ·ext g;split at h
     ·ext M l v f;cases h;show IH O (o _ _ f) v g
     ·cases h
    ·cases h
   |Subscript b k p=>
    dsimp only[GM] at h;split at h
    ·ext g;rw[Nr] at g;split at h
     ·ext D L l w hk f;cases h;show IQ O (o _ _ f) (v5 U O s _ w) (s _ _ hk) g.1 g.2
     ·cases h
    ·cases h
   |Attribute b z p=>
    dsimp only[GM] at h;split at h
    ·ext g;split at h
     ·ext A D l d w f;cases h
      let r:∀C,Oa X.K QZ A=QH (QH (.ref C))->Cls X.K C/\NoAttr X.K C z:=λC H=>by
       unfold CS at d;split at d
       ·split at d
        ·ext I q;split at d
         ·ext B;cases d;obtain⟨E,F⟩:=O.tab.cf A I C q H;show⟨E,F z B⟩
         ·cases d
        ·cases d
       ·cases d
      show Fk r (o _ _ f) (v5 U O s _ w) (j5 g)
     ·cases h
    ·cases h
   |_=>cases h
theorem LN(O:ao X (a5 fns U) c)(h:LL fns m c t op e=QH a)(pn:List Nat):cX X pn (lP U N a pn) (.AugAssign t op e pos):=by
 let g:=(k5 fns U (m+1)).1 X c O
 cases t with
 |Name x p=>
  dsimp only[LL] at h;split at h
  ·ext d;split at h
   ·ext i j b f;cases h;show IP O d b (g _ _ f)
   ·cases h
  ·cases h
 |_=>cases h
theorem jJ(O:ao X (a5 fns U) c)(o:PassesOwn (QS X.prog X.w) X.A X.env X.xe):∀(n:Nat) {s:QV} {a:IS},cS fns an m c n s=QH a->∀pn,cX X pn (lP U N a pn) s
 |0,s,a,h,pn=>by cases h
 |n+1,s,a,h,pn=>by
  let E:=(k5 fns U (m+1)).1 X c O;let v:=(k5 fns U (m+1)).2 X c O;let F:=(cz (fm:=lO fns U) fns U.fn (m+1)).1 X c O;let hBq:∀{C:List QV} {b:bB},rX (cS fns an m c n) C=QH b->∀pn,aX X pn (aD U N b pn) C:=λh=>eM U (λs a h=>jJ O o n h) h
  let f:∀{a:IS},GN fns an m c (rX (cS fns an m c n)) s=QH a->cX X pn (lP U N a pn) s:=λ{a} h=>by
   cases s with
   |Assign I e d=>show LM fns U O h pn
   |AugAssign t L e d=>show LN fns U O h pn
   |Return e d=>cases e with
    |some e=>
     obtain⟨u,g,rfl⟩:=bx (show(cM fns (m+1) c e).map .ret=QH a from h);show CL (E _ _ g)
    |none=>cases h
   |Expr e d=>
    dsimp only[GN] at h;split at h
    ·ext p;cases h;rw[show lP U N .pas pn=λZ=>QH (.nx Z) from funext λ_=>rfl];unfold CP at p;split at p
     ·show IJ
     ·cases p
    ·split at h
     ·ext q;obtain⟨u,g,rfl⟩:=bx h;show yw q (E _ _ g)
     ·cases h
   |If t x y d=>
    dsimp only[GN] at h;split at h
    ·ext B u z k g l;cases h;show IK (v _ _ k) (hBq g pn) (hBq l pn)
    ·cases h
   |For K D j i d=>cases i with
    |cons _ _=>cases h
    |nil=>
     dsimp only[GN,MH] at h;split at h
     ·ext q;split at h
      ·ext B H z k r l;cases h;show yz O o k (rR fns U O F r) (hBq l) q
      ·cases h
     ·cases h
   |While t j i d=>cases i with
    |cons _ _=>cases h
    |nil=>
     dsimp only[GN] at h;split at h
     ·ext B z k l;cases h;show IM o (v _ _ k) (hBq l pn) N
     ·cases h
   |Pass d=>
    cases h;show Fg
   |_=>cases h
  unfold cS at h;by_cases hk:an.sk (rY s)=QJ
  ·rw[if_pos hk] at h;cases h;show LK λZ=>rfl
  rw[if_neg hk] at h;unfold CN at h;split at h
  ·show f h
  ·rename_i u g _;cases h;show IN _ (f g)
  ·cases h
end
end J
namespace L2
open PyProof.Rows
theorem lQ{R:Result->QP->Prop}{s:QP}(I:Nat->QP->Prop)(b:∀n s,I n s->QR (QS prog w) A (pyNext it) (λr i=>match r with
   |none=>R (.ok .next) i
   |some v=>QR (QS prog w) A (letOwnedTupleGo target it v) (λ_ d=>QR (QS prog w) A (assign target env v) (λ_ o=>
     QR (QS prog w) A (forIn ifs QJ λc r=>if r=QJ then do let e <- isTrue c env (eval c env);pure (ForInStep.yield e) else pure (ForInStep.yield r)) (λe g=>
      if e=QJ then QR (QS prog w) A (eval kx env) (λq j=>QR (QS prog w) A (eval vx env) (λt k=>
       QR (QS prog w) A (dictSet D q t) (λ_ p=>∃m,m<n/\I m p) (λ_ _=>False) k) (λ_ _=>False) j) (λ_ _=>False) g
      else ∃m,m<n/\I m g) (λ_ _=>False) o) (λ_ _=>False) d) (λ_ _=>False) i) (λ_ _=>False) s)(n:Nat)(h:I n s) :
  codeAny (QS prog w) A (.compLoop (.DictComp kx vx [⟨target,iter,ifs,0⟩] scope pos) 0 it (.ref D) env) R s:=by
 show codeAny_loop rfl I (λn s B=>?_) n h;show wpAny_noted ?_;rw[compTurn_dict];show QM (wpAny_standAt (QM (wpAny_mono (b n s B) (λr i u=>?_) λ_ _ a=>a.elim)))
 cases r with
 |none=>show QQ u
 |some v=>
  show QM (wpAny_mono u (λ_ d f=>?_) λ_ _ a=>a.elim);show QM (wpAny_mono f (λ_ o C=>QM (wpAny_mono C (λe g l=>?_) λ_ _ a=>a.elim)) λ_ _ a=>a.elim)
  cases e with
  |false=>show QQ ⟨rfl,l⟩
  |true=>
   show QM (QM (wpAny_mono l (λq j x=>QM (Q7 (wpAny_mono x (λt k y=>QM (wpAny_standAt (Q7 (wpAny_mono y (λ_ p z=>QQ ⟨rfl,z⟩) λ_ _ a=>a.elim)))) λ_ _ a=>a.elim))) λ_ _ a=>a.elim))
section
variable {X:Cx} {pins:List (QO×Obj)} {Y:St} {H:Hp} {s:QP}
theorem v9{A:QX}{F:Nat->Hp}{Q:Unit->QP->Prop}(P:A.units+9<cLine)(I:Inv X pins Y H s)(g:DPut H a y v F)(K:RelV y u)(D:RelV v r)(h:∀e s',Inv X pins Y (F e) s'->Q () s') :
  QR (QS X.prog X.w) A (dictSet a u r) Q E s:=by
 rcases g with⟨d,k,e,j,l,n⟩|⟨m,C,d,k,b,e,j,M,l,n⟩
 ·subst j n;obtain⟨z,o,W,f,t⟩:=ma I.hok e;let O:W.length<=sizeLine:=by rw[<- f.length];show z
  let p:(cw d k v).length<=sizeLine:=by have:=dA d k v;lia
  show wpAny_dictSet_pairs (kA K) t λB i x=>h 0 _ ?_;let R:∃q,B.get? a=QH q:=let ⟨q,_,_,hq,_⟩:=i;⟨q,hq⟩;show jU I (by rw[e];show True.intro) x R (xn p o (f.put k D) i)
 ·subst j n;cases(K);obtain⟨z,o,Z,f,t⟩:=xm I.hok e;let O:Z.length<=sizeLine:=by rw[<- Paired.length f];show z
  let p:(cw d k v).length<=sizeLine:=by have:=dA d k v;lia
  show wpAny_dictSet_heap (Nat.lt_of_succ_lt P) (eE I.hok M) t λB i x=>?_;obtain⟨q,T,C,hq,S,U,N,_,V⟩:=i;show h C _ ?_;show jU I (by rw[e];show True.intro) x ⟨q,hq⟩ ⟨p,o,_,(f.put k M D).keeps λc ys L=>?_,q,T,hq,S,U,N,V⟩
  rw[ae (Cj L e (λz=>nomatch z))]
  show L
def nT(wi:TI)(g:TG)(R:TT)(tk te:TE)(o0:HO)(cap:List (Option Nat)):TE:=λY H Q=>wi Y H λJ H1=>∀D,H1 D=QI->∃W:Nat->Nat->St->Hp->Prop,(∃m,W 0 m (cx Y cap) (upd H1 D o0))/\∀i m Y' H',W i m Y' H'->
 (J.stop i H'/\Q (.ref D) H')\/(J.go i H'/\∀x H2,J.yld i H' x H2->g x Y' H2 λB O=>R B O λok O=>if ok=QJ then tk B O λy H4=>te B H4 λv H5=>∃F,DPut H5 D y v F/\∀e,∃q,q<m/\W (i+1) q B (F e) else ∃q,q<m/\W (i+1) q B O)
theorem mB(hc:X.calm=QJ)(O:eV X N' scope cap)(hi:PI X tg iter wi)(hg:∀C s H ex,PG (ai X N' scope C s H ex) tg g)(ht:∀C s H ex,AN (ai X N' scope C s H ex) ifs tt)(hk:∀C s H ex,PE (ai X N' scope C s H ex) kx tk)(he:∀C s H ex,PE (ai X N' scope C s H ex) elt te)(ho:o0=.dK []\/∃m,o0=.dT m 0 [])(hu:X.A.units+9<cLine){Q:VK}(I:Inv X pins Y H s)(h:nT wi g tt tk te o0 cap Y H Q)(hs:∀x,foldedSetIterable iter X.env x=pure x)(hX:X.xe=E)(hQ:∀(C D:QO) (s1:QP) (H1:Hp) (f:List QO) (Y':St) (H':Hp) (s':QP),Inv X pins Y H1 s1->(∀b∈f,iK X pins H1 b)->Inv (ai X N' scope C s1 H1 f) [] Y' H' s'->Q (.ref D) H'->
   compPost (QS X.prog X.w) X.A E use Q' (.ref D) C (.ok .next) s') :
  QR (QS X.prog X.w) X.A (comprehension (.DictComp kx elt [⟨tg,iter,ifs,0⟩] scope pos) scope X.env cpos newDict QL (eval iter X.env) use) Q' E s:=by
 let hw:closureFor scope X.env=pure (fP X.env.cells scope.names []):=fX λy hy e=>I.ok.has _ (O.free y hy e);show wpAny_comprehension_free rfl hs hw O.kind O.names ?_;subst hX;show aV (hi pins s Y H _ I h) λv s1 h1=>aV h1 λga s2 h2=>?_;obtain⟨it,f,tn,J,B,e,I2,T,hh,f2,hW⟩:=h2;subst e;show Q5 (fY ?_);dsimp only;generalize L:s2.heap.push { cls:=.type "dict",dict:=QI,data:=.dict #[] }=HH;let hj:HH.objs.size=s2.heap.objs.size+1:=by rw[<- L,OQ]
 let h7:s2.heap.objs.size<HH.objs.size:=by rw[hj];show OD _
 generalize M:pushCells (HH.push { cls:=.type "dict",data:=.dict #[] }) scope.names=h₁;let kp:∀b o,HH.get? b=QH o->h₁.get? b=QH o:=λb o e=>M▸pushCells_keeps _ _ b o (Nw _ e);let V:h₁.Ns HH.objs.size λ_=>QI:=M▸(Heap.Ns.new HH (.type "dict")).keeps (pushCells_keeps _ _)
 let h5:∀x c,(Q2 (HH.objs.size+1) scope.names []).lookup x=QH c->h₁.IsCell c QI:=λx c e=>by
  let ok:=cellsFrom_ok scope.names (HH.push { cls:=.type "dict",data:=.dict #[] }) 0 [] ⟨λ_ _ hm=>(nomatch hm),List.Pairwise.nil⟩ (NZ _)
  rw[OQ] at ok;show M▸(ok.empty x c (bU e)).1
 let P:∀b o,s2.heap.get? b=QH o->h₁.get? b=QH o:=λb o e=>kp b o (L▸Nw _ e)
 let hx:ObjOk X.prog X.w (upd B s2.heap.objs.size o0) h₁ s2.heap.objs.size o0:=by
  let h9:=I2.big;let a:(s2.heap.objs.size==sysModules)=QL:=beq_eq_false_iff_ne.mpr (Ne.symm (NL h9));let eo:h₁.get? s2.heap.objs.size=QH { cls:=.type "dict",data:=.dict #[] }:=kp _ _ (L▸NI _ rfl);rcases ho with rfl|⟨m,rfl⟩
  ·show⟨NZ _,a,[],.nil,let ⟨q,es,ep,hq,r⟩:=Heap.DictOf.new s2.heap;⟨q,es,ep,by rw[eo,<- hq];show(NI _ rfl).symm,r⟩⟩
  ·show⟨NZ _,a,[],.nil,_,#[],eo,⟨rfl,rfl,rfl⟩,rfl,rfl,P8⟩
 let hl:∀b∈f,b<s2.heap.objs.size:=λb a=>let ⟨o,e,_⟩:=T.obj 0 _ hh b a;NA e;let N:=I2.hok.fresh (Ny s2.heap.objs.size);obtain⟨W,⟨m0,w0⟩,ha⟩:=hW s2.heap.objs.size N;let J0:=oU (tk:=s2.toks) I2 O f2 hl (by rw[hj];show OP _) (Ny _) h7 h5 V P hx;let R:tn 0 h₁:=T.keep 0 _ _ hh λb _ o e=>P b o e
 let h6:∀b∈f,(upd B s2.heap.objs.size o0) b=QI:=λb a=>by
  rw[ae (NL (hl b a))];show(f2 b a).1
 let j:∀{H':Hp},(∀b∈f,H' b=QI)->∀b∈f,iK (ai X N' scope HH.objs.size s2 B f) [] H' b:=λhn b a=>
  ⟨hn b a,(J0.ok.exf b a).1,J0.ok.exfs b a,.inl a,(J0.ok.exf b a).2,λp hp=>absurd hp (by simp[ai])⟩
 let K:codeAny (QS X.prog X.w) X.A (.compLoop (.DictComp kx elt [⟨tg,iter,ifs,0⟩] scope pos) 0 (.ref it) (.ref s2.heap.objs.size) (compEnvC scope (Ek X.env.cells scope.names HH.objs.size) HH.objs.size X.env))
   (compPost (QS X.prog X.w) X.A X.xe use Q' (.ref s2.heap.objs.size) HH.objs.size) { s2 with heap:=h₁,toks:=s2.toks }:=by
  show lQ (λn s'=>∃i Y' H',Inv (ai X N' scope HH.objs.size s2 B f) [] Y' H' s'/\tn i s'.heap/\(∀b∈f,H' b=QI)/\W i n Y' H') ?_ m0 ⟨0,_,_,J0,R,h6,w0⟩
  rintro n s3 ⟨i,Y3,H3,I3,hd,hf,w3⟩
  rcases ha i n Y3 H3 w3 with⟨S,qn⟩|⟨go,U⟩
  ·show aV (T.done (ai X N' scope HH.objs.size s2 B f) rfl rfl rfl hc i [] s3 Y3 H3 _ I3 (j hf) hd S) λr s4 ⟨hr,I4⟩=>?_;subst hr;show hQ _ _ s2 B f Y3 H3 s4 I2 f2 I4 qn
  ·show aV (T.item (ai X N' scope HH.objs.size s2 B f) rfl rfl rfl hc i [] s3 Y3 H3 _ I3 (j hf) hd go) λr s4 ⟨u,hr,h4⟩=>?_;subst hr;show aV h4 λ_ s5 z=>?_;obtain⟨x,H5,I5,r5,y5,k,h3⟩:=z;let h8:=I5.pinned (j h3) (T.obj _ _ k);show aV (hg _ _ _ _ _ s5 Y3 H5 x u _ h8 r5 (U x H5 y5)) λ_ s6 z=>?_;obtain⟨Z,H6,I6,q6⟩:=z;show aV (ht _ _ _ _ _ s6 Z H6 _ I6 q6) λok hv z=>?_;obtain⟨h0,t,l⟩:=z
   cases ok with
   |false=>
    rw[if_neg NV] at l⊢;obtain⟨m',hm,w7⟩:=l;show⟨m',hm,i+1,Z,_,t.unpinned,T.keep _ _ _ k λb a o e=>(t.pin (b,o) (Nx _ (Nx _ (bc a e)))).1,λb a=>?_,w7⟩;obtain⟨o,e,d⟩:=T.obj _ _ k b a;show(t.pin (b,o) (Nx _ (Nx _ (bc a e)))).2.1
   |true=>
   rw[if_pos rfl] at l⊢;show aV (hk _ _ _ _ _ hv Z h0 _ t l) λkv s7 z=>?_;obtain⟨y,H7,I7,r7,q7⟩:=z;show aV (he _ _ _ _ _ s7 Z H7 _ I7 q7) λvv s8 z=>?_;obtain⟨v,H8,I8,r8,F,gF,qF⟩:=z;show v9 (X:=ai X N' scope HH.objs.size s2 B f) hu I8 gF r7 r8 λe s9 I9=>?_;obtain⟨m',hm,w7⟩:=qF e;show⟨m',hm,i+1,Z,_,I9.unpinned,T.keep _ _ _ k λb a o e=>(I9.pin (b,o) (Nx _ (Nx _ (bc a e)))).1,λb a=>?_,w7⟩;obtain⟨o,e,d⟩:=T.obj _ _ k b a;show(I9.pin (b,o) (Nx _ (Nx _ (bc a e)))).2.1
 show codeAny_compStart_dict K (T.self _ 0 _ _ _ R K)
theorem yE(p:X.calm=QJ)(O:eV X N' scope cap)(hi:PI X tg iter wi)(f:∀C s H ex,PG (ai X N' scope C s H ex) tg g)(e:∀C s H ex,AN (ai X N' scope C s H ex) ifs tt)(hk:∀C s H ex,PE (ai X N' scope C s H ex) kx tk)(l:∀C s H ex,PE (ai X N' scope C s H ex) elt te)(j:o0=.dK []\/∃m,o0=.dT m 0 [])(i:X.A.units+9<cLine)(d:∀x,foldedSetIterable iter X.env x=pure x:=by intro _;rfl):PE X (.DictComp kx elt [⟨tg,iter,ifs,0⟩] scope pos) (nT wi g tt tk te o0 cap):=by
 intro b s Y H Q I h;show mB p O hi f e hk l j i I h d rfl λC D s1 v u w n r o c J q=>?_;obtain⟨m,k,_⟩:=J.loc;show⟨m,k,λt a=>⟨.ref D,n,gW o c J a,rfl,q⟩⟩
theorem yF{cpos pos' pos:Pos}{i:Nat}(hc:X.calm=QJ)(O:eV X N' scope cap)(hi:PI X tg iter wi)(Q:∀C s H ex,PG (ai X N' scope C s H ex) tg g)(ht:∀C s H ex,AN (ai X N' scope C s H ex) ifs tt)(hk:∀C s H ex,PE (ai X N' scope C s H ex) kx tk)(V:∀C s H ex,PE (ai X N' scope C s H ex) elt te)(ho:o0=.dK []\/∃m,o0=.dT m 0 [])(S:X.A.units+9<cLine)(Z:∀x,foldedSetIterable iter X.env x=pure x)(R:X.N.Nodup)(z:X.N[i]?=QH x)(hx:Ck X.env.scope x)(T:X.fn x=QJ\/X.env.scope.names.lookup x=QH .local)(t:swapsWith (.DictComp kx elt [⟨tg,iter,ifs,0⟩] scope cpos) (QH (.Name x pos')) pos.line X.env=pure QJ) :
  PS X (.Assign [.Name x pos'] (.DictComp kx elt [⟨tg,iter,ifs,0⟩] scope cpos) pos) (Aq (nT wi g tt tk te o0 cap) (gN i)):=by
 intro d s Y H D I h;rw[exec_Assign_Name_used _ _ _ _ t];show QM (wpAny_standAt (QM ?_));show QM (wpAny_mono (mB hc O hi Q ht hk V ho S I h Z rfl λC D1 s1 H1 fp Y' F w l L J q=>?_) (λ_ w hq=>QQ (QQ hq)) λ_ _ e=>e);let I2:Inv X d Y F w:=gW l L J (Heap.SameBut.refl C w.heap);let E:s1.heap.objs.size<=C:=J.ok.above;let f:∀b o,s1.heap.get? b=QH o->b≠C:=λb o e=>NL (ND (NA e) E);obtain⟨m1,⟨oL,_,_,K,_⟩,_⟩:=id l.loc;let B:X.env.locals≠C:=f _ _ K
 let k:∀x c,X.env.cells.lookup x=QH c->c≠C:=λx c e=>by
  obtain⟨v,o,g,_⟩:=l.cell x c e;show f _ _ g
 let n:∀p∈X.pn++d,p.1≠C:=λp M=>f _ _ (l.pin p M).1
 let W:X.s₀.heap.objs.size<=C:=by
  show NT ?_ E;show O7 (Os l.ok.above (NA K))
 obtain⟨m,U,_⟩:=J.loc;show wpAny_assign_Name (iI I2 R z hx (v:=.ref D1) rfl (λs3 P j=>?_) T);obtain⟨a,j,r⟩:=j
 let u:C≠a:=by
  rcases r with rfl|r
  ·show Ne.symm B
  ·show Ne.symm (k _ _ r)
 show⟨m,U.sameBut j u,λh' y=>⟨_,F,P.junk y W B k n J.free,q⟩⟩
end
end L2
namespace J
def gC(tg:IT)(R:Ro->Option Bool)(B O:Ro->Option KD)(q:Ro)(d:D):Option (Option (D×D)):=match pc tg d with
 |some ps=>if bL ps q=QJ then(match R (setAll ps q) with
  |some QJ=>(match B (setAll ps q) with
   |some k=>(match O (setAll ps q) with
    |some y=>if q0 y.1 y.2=QJ then QH (QH (k.2,y.2)) else QI
    |none=>QI)
   |none=>QI)
  |some QL=>QH QI
  |none=>QI) else QI
 |none=>QI
def yG(t:Nat)(a:List DK×List D)(k y:D):Option (List DK×List D):=match iT k with
 |some k=>if gY t k=QJ then(match aR a.1 k with
  |some j=>if a.1.Nodup then QH (a.1,a.2.set j y) else QI
  |none=>QH (a.1++[k],a.2++[y])) else QI
 |none=>QI
def ef(t:Nat)(f:D->Option (Option (D×D))):List D->List DK×List D->Option (List DK×List D)
 |[],a=>QH a
 |d::ds,a=>match f d with
  |some (QH p)=>(match yG t a p.1 p.2 with
   |some q=>ef t f ds q
   |none=>QI)
  |some QI=>ef t f ds a
  |none=>QI
def eN(t:Nat)(it:Option (List Nat×List D))(f:D->Option (Option (D×D))):Option KD:=match it with
 |some (_,ds)=>if ds.length<=100000 then(match ef t f ds ([],[]) with
  |some a=>QH (.fr (.own [] .fz),.nd (.dic t a.1) a.2)
  |none=>QI) else QI
 |none=>QI
noncomputable def rZ:Nat->HO
 |0=>.dK []
 |m+1=>.dT m 0 []
theorem BN:∀t,cP K (rZ t) (.dic t []) []
 |0=>.inl ⟨rfl,[],rfl,rfl,rfl⟩
 |m+1=>.inr ⟨m,rfl,[],0,rfl,rfl,rfl⟩
theorem ut:∀t xs,rZ t≠.tup xs
 |0,_,h=>by cases h
 |_+1,_,h=>by cases h
section
variable {X:Cx} {U:Tab} {c:Cz}
abbrev LO(K:Np)(f:List J.D->List DK×List J.D->Option (List DK×List J.D))(z:Nat)(q:List DK×List J.D)(ds:List J.D)(g':Gh)(Z:Ro)(H1:Hp)(D:QO):Nat->Nat->L2.St->Hp->Prop:=λi m Y' H'=>m=ds.length-i/\i<=ds.length/\∃(a:List DK×List J.D) (us:List V) (o:HO),f (ds.drop i) a=QH q/\us.length<=i/\SE K (g'.plus λb=>b=D) Z Y' H'/\
  (∀b o,H1 b=QH o->H' b=QH o)/\H' D=QH o/\(∀xs,o≠.tup xs)/\cP K o (.dic z a.1) us/\RpL K H' (Sg (g'.plus λb=>b=D)) a.2 us
theorem uu(O:ao X U c){fi:Ro->Option (List Nat×List D)}(hck:a7 c scope=QJ)(hi:SndI X fi tg iter)(hx:nG ⟨fU scope c.sc,ac scope,gw scope⟩ n tg=QH t)(hh:∀C s H ex,jF (ai X (ac scope) scope C s H ex) ft ifs)(gl:∀C s H ex,SndE (ai X (ac scope) scope C s H ex) fk kx)(gc:∀C s H ex,SndE (ai X (ac scope) scope C s H ex) fe elt)(h:eN z (fi Z) (gC t ft fk fe (aJ Z (au c scope)))=QH (kd,d)){Y:L2.St}{Q:VK}(se:SE X.K g Z Y H)(q:∀v H',Same H H'->VR X.K g H H' kd d v->Q v H') :
  nT (wI X tg iter) (λv Y H Q=>∀C s E ex,wG (ai X (ac scope) scope C s E ex) tg v Y H Q) (λY H Q=>∀C s E ex,EL (ai X (ac scope) scope C s E ex) ifs Y H Q) (λY H Q=>∀C s E ex,wE (ai X (ac scope) scope C s E ex) kx Y H Q) (λY H Q=>∀C s E ex,wE (ai X (ac scope) scope C s E ex) elt Y H Q) (rZ z) (au c scope) Y H Q:=by
 let S:kO (au c scope)=QJ:=by
  simp only[a7,Nr] at hck;show hck.1.2
 unfold eN at h;split at h
 ·ext bs k h1;split at h
  ·ext hb;split at h
   ·ext af hm;cases h;let CO:=cW O hck;show hi Z bs k h1 g Y H _ se λjj gb H1 s1 jt sp sf D hD=>?_;let B:SE X.K (g.re (i6 (au c scope))) (aJ Z (au c scope)) (cx Y (au c scope)) H1:=(se.same s1).cap S;generalize hv:g.re (i6 (au c scope))=g' at B;let gS:∀b,Sg g' b↔Sg g b:=λb=>by rw[<- hv];show jQ b
    generalize hZ:aJ Z (au c scope)=Zc at B hm;generalize hY:cx Y (au c scope)=Yc at B;clear hZ hY
    show⟨LO X.K (ef z (gC t ft fk fe Zc)) z af k g' Zc H1 D,
     ⟨k.length,by simp,NZ _,([],[]),[],rZ z,hm,Ny _,?_,λb o e=>ag hD _ _ e,ak,ut z,BN z,.nil⟩,?_⟩
    ·show B.plus (ag hD) (λb w=>w▸hD) λb w=>⟨rZ z,w▸ak,ut z⟩
    rintro i m Y' H' ⟨rfl,gn,a,A,o,f,h7,R,kk,gD,h5,N,rl⟩
    let ha:∀b,Sg (g'.plus λb=>b=D) b↔Sx g (λb=>b=D) b:=λb=>(al b).trans (or_congr (gS b) Iff.rfl);let L:∀b o,H1 b=QH o->b≠D:=λb o e w=>by rw[w,hD] at e;cases e
    let gj:gb.P X.K (g'.plus λb=>b=D) H':=Src.mono (λb o e n w=>((ha b).mp w).elim n (L b o e)) (λb o _ e=>kk b o e) (λa e=>sf.from_t e) sp;obtain⟨j1,j2⟩:=jt i _ H' gj R.mu;by_cases y:i<k.length
    ·let hd:k[i]?=QH k[i]:=NC y;obtain⟨go,yl⟩:=j2 _ hd;rw[N8 y] at f;show .inr ⟨go,λx H2 hy C s0 E ex=>?_⟩;obtain⟨s2,rx⟩:=yl x H2 hy
     cases I:gC t ft fk fe Zc k[i] with
     |none=>unfold ef at f;rw[I] at f;cases f
     |some o1=>
      let l:=I;unfold gC at l;split at l
      ·ext ps h8;split at l
       ·ext hs;show tB (ph (CO C s0 E ex) n hx) (hJ h8 rx λvs ho C1 hl hf W=>?_);let T:=SE.setAll ho (R.same s2);obtain⟨t2,t3⟩:=SE.passAll ho hs (R.same s2);split at l
        ·ext hT;show hh C1 hl hf W _ QJ hT _ _ _ _ T λH3 s3=>vK λC2 h9 h6 ga=>?_;split at l
         ·ext ke hw;split at l
          ·ext ye hu;split at l
           ·ext h4;cases l;obtain⟨hr,dk⟩:=ke;obtain⟨ky,dy⟩:=ye
            let j:(match yG z a dk dy with|some M=>ef z (gC t ft fk fe Zc) (k.drop (i+1)) M|none=>QI)=QH af:=by
             unfold ef at f;rw[I] at f;show f
            show gl C2 h9 h6 ga _ hr dk hw _ _ H3 _ (T.same s3) λvk H4 s4 r4 C3 h3 h0 gk=>?_;show gc C3 h3 h0 gk _ ky dy hu _ _ H4 _ ((T.same s3).same s4) λvy F s5 r5=>?_;let GO:Same H' F:=((s2.trans s3).trans s4).trans s5;let ry:=r5.sh h4 ((T.same s3).same s4).mu s5;let rk:Rp X.K F (λ_=>False) dk vk:=r4.rd.go λb o n e=>⟨s5 b o e,λw=>w⟩;let gd:F D=QH o:=GO _ _ gD;let hc:RpL X.K F (Sg (g'.plus λb=>b=D)) a.2 A:=rl.go λb o n e=>⟨GO b o e,n⟩;let ht:Sg (g'.plus λb=>b=D) D:=(al D).mpr (.inr rfl)
            let hg:∀(r:HO) (M:List DK×List J.D) (u:List V),ef z (gC t ft fk fe Zc) (k.drop (i+1)) M=QH af->u.length<=i+1->(∀xs,r≠.tup xs)->cP X.K r (.dic z M.1) u->RpL X.K F (Sg (g'.plus λb=>b=D)) M.2 u->
              ∃m',m'<k.length-i/\m'=k.length-(i+1)/\i+1<=k.length/\∃(a:List DK×List J.D) (A:List V) (o:HO),ef z (gC t ft fk fe Zc) (k.drop (i+1)) a=QH af/\A.length<=i+1/\SE X.K (g'.plus λb=>b=D) Zc (g9 vs Y') (upd F D r)/\
              (∀b o,H1 b=QH o->upd F D r b=QH o)/\upd F D r D=QH o/\(∀xs,o≠.tup xs)/\cP X.K o (.dic z a.1) A/\RpL X.K (upd F D r) (Sg (g'.plus λb=>b=D)) a.2 A:=λr M u e1 e2 e3 e4 e5=>
             ⟨_,by lia,rfl,y,M,u,r,e1,e2,SE.upd (((t2.same s3).same s4).same s5) (aS rfl) e3,λb o e=>by rw[ae (L b o e)];show GO _ _ (kk b o e),ak,e3,e4,e5.go λb o n e=>⟨by rw[ae (λw=>n (by rw[w];show ht))];show e,n⟩⟩
            let hz:A.length<sizeLine:=Os h7 (ND y (aP hb))
            cases p:yG z a dk dy with
            |none=>rw[p] at j;cases j
            |some M=>
             rw[p] at j;unfold yG at p;split at p
             ·ext k' h2;split at p
              ·ext hn;obtain⟨p1,p2⟩:=um gd N h2 rk hn hz;split at p
               ·ext jn hj;split at p
                ·ext gi;cases p;obtain⟨r,dp,po⟩:=p1 jn hj gi;show⟨_,dp,λe=>hg (r e) _ (A.set jn vy) j (by rw[O5];lia) (po e).1 (po e).2 (RpL.set jn hc ry)⟩
                ·cases p
               ·ext hj;cases p;obtain⟨r,dp,po⟩:=p2 hj;show⟨_,dp,λe=>hg (r e) _ (A++[vy]) j (by rw[NK,Pj];lia) (po e).1 (po e).2 (hc.append (.cons ry .nil))⟩
              ·cases p
             ·cases p
           ·cases l
          ·cases l
         ·cases l
        ·ext hT;cases l;let j:ef z (gC t ft fk fe Zc) (k.drop (i+1)) a=QH af:=by unfold ef at f;rw[I] at f;show f
         show hh C1 hl hf W _ QL hT _ _ _ _ T λH3 s3=>vJ ?_;let rF:=s2.trans s3;show⟨k.length-(i+1),by lia,rfl,y,a,A,o,j,by lia,t2.same s3,λb o e=>rF _ _ (kk b o e),rF _ _ gD,h5,N,rl.go λb o n e=>⟨rF b o e,n⟩⟩
        ·cases l
       ·cases l
      ·cases l
    ·let e:i=k.length:=by lia
     subst e;rw[Qy] at f;cases f;show .inl ⟨j1 (Ny _),q _ H' (λb o e=>kk b o (s1 _ _ e)) ⟨λb=>b=D,λb w=>s1.free (w▸hD),?_⟩⟩;change Tr _ _ _ _ _ _ _;unfold Tr
     show⟨D,o,A,λ_=>False,rfl,gD,N,λ_ w=>w,(λh=>nomatch h),λb=>⟨λw=>.inl ⟨rfl,w⟩,λw=>w.elim (λw=>w.2) λw=>w.elim⟩,.ofFz (rl.weak λb w=>(ha b).mpr w)⟩
   ·cases h
  ·cases h
 ·cases h
theorem uw:∀z,rZ z=.dK []\/∃m,rZ z=.dT m 0 []
 |0=>.inl rfl
 |m+1=>.inr ⟨m,rfl⟩
theorem BO(O:ao X U c){w:Ro->Option (List Nat×List D)}(hck:a7 c scope=QJ)(hns:de iter=QJ)(hi:SndI X w tg iter)(l:nG ⟨fU scope c.sc,ac scope,gw scope⟩ n tg=QH t)(p:∀C s H ex,jF (ai X (ac scope) scope C s H ex) ft ifs)(o:∀C s H ex,SndE (ai X (ac scope) scope C s H ex) fk kx)(m:∀C s H ex,SndE (ai X (ac scope) scope C s H ex) fe elt) :
  SndE X (λZ=>eN z (w Z) (gC t ft fk fe (aJ Z (au c scope)))) (.DictComp kx elt [⟨tg,iter,ifs,0⟩] scope pos):=by
 intro Z y d h g Y H Q x q
 show am (yE O.calm (dc O hck) vO
  (λC s f ex a b k i v u j I r e=>vP a b k i v u j I r (e C s f ex)) (λC s f ex a b k i j I e=>e C s f ex a b I) (λC s f ex a b k i j I e=>e C s f ex a b I) (λC s f ex a b k i j I e=>e C s f ex a b I) (uw z) (Os (Pt (by decide:9<=100) _) O.tab.units) (c5 hns)) (uu O hck hi l p o m h x q)
theorem r6:∃b:Bool,swapsWith (.DictComp kx elt [⟨tg,iter,ifs,0⟩] scope cp) (QH (.Name x p)) n env=pure b:=⟨_,rfl⟩
theorem Fs(O:ao X U c){S:Ro->Option (List Nat×List D)}(hl:lI c x=QJ)(T:aZ x c.N=QH i)(hck:a7 c scope=QJ)(hns:de iter=QJ)(hi:SndI X S tg iter)(o:nG ⟨fU scope c.sc,ac scope,gw scope⟩ n tg=QH t)(B:∀C s H ex,jF (ai X (ac scope) scope C s H ex) ft ifs)(E:∀C s H ex,SndE (ai X (ac scope) scope C s H ex) fk kx)(A:∀C s H ex,SndE (ai X (ac scope) scope C s H ex) fe elt) :
  cX X pn (λZ=>ff pn i ((eN z (S Z) (gC t ft fk fe (aJ Z (au c scope)))).map λy=>(y.1,y.2,Z))) (.Assign [.Name x p] (.DictComp kx elt [⟨tg,iter,ifs,0⟩] scope cp) pos):=by
 let l:=iX O hl;let W:=(BO O (pos:=cp) (z:=z) hck hns hi o B E A);intro Z r h g Y H Dn P q
 cases M:eN z (S Z) (gC t ft fk fe (aJ Z (au c scope))) with
 |none=>dsimp only at h;rw[M] at h;cases h
 |some w=>
  obtain⟨y,d⟩:=w;dsimp only at h;rw[M] at h
  let f:∀v e,Same H e->VR X.K g H e y d v->gN i v Y e Dn.nx:=λv e s r=>by
   obtain⟨F,R,f2⟩:=r;show ik h q (cA s R λb w=>eK P.mu (R b w)) (P.plus s R λb w=>f2.dom b w) f2
  obtain⟨b,V⟩:=r6
  cases b with
  |false=>show ce (qD (by rw[O.N];show O.nd) (by rw[O.N];show aU T) l.1 aq V l.2) (W Z y d M g Y H _ P f)
  |true=>
   show ce (yF O.calm (dc O hck) vO
    (λC s m ex a j Q e v u L I r k=>vP a j Q e v u L I r (k C s m ex)) (λC s m ex a j Q e L I k=>k C s m ex a j I) (λC s m ex a j Q e L I k=>k C s m ex a j I) (λC s m ex a j Q e L I k=>k C s m ex a j I) (uw z) (Os (Pt (by decide:9<=100) _) O.tab.units) (c5 hns)
    (by rw[O.N];show O.nd) (by rw[O.N];show aU T) l.1 l.2 V) (uu O hck hi o B E A M P f)
end
end J
namespace L2
open PyProof.Rows
section
variable {X:Cx} {pins:List (QO×Obj)} {Y:St} {H:Hp} {s:QP}
theorem Inv.frz(I:Inv X pins Y H s)(e:H a=QH u)(j:s.heap.get? a=QH ob)(h1:∀xs,u≠.tup xs)(h2:∀o v,u≠.frz o v)(i:∀ps,u≠.tbl ps)(h:∀x,u≠.own x):Inv X pins Y (upd H a (.frz ob u)) s:=by
 let d:∀{b:QO} {o:HO},H b=QH o->o≠u->upd H a (.frz ob u) b=QH o:=λ{b o} q n=>by
  rw[ae (λz=>by rw[z,e] at q;cases q;show n rfl)];show q
 let f:HOk X.prog X.w (upd H a (.frz ob u)) s.heap:=λb o q=>by
  by_cases g:b=a
  ·subst g;rw[ak] at q;cases q;show⟨j,(I.hok b _ e).stay (λ_ _ _ y=>y) (λc y=>d y λz=>h _ z.symm) λc xs y=>d y λz=>h1 _ z.symm⟩
  ·rw[ae g] at q;show(I.hok b o q).stay (λ_ _ _ y=>y) (λc y=>d y λz=>h _ z.symm) λc xs y=>d y λz=>h1 _ z.symm
 let k:Un X.fs [] H (upd H a (.frz ob u)) s.heap s.heap:=⟨λ_ _ q _ _ _=>q,λb o q _ _ _=>⟨o.slots,q⟩,λb o q n _=>by rw[ae (λz=>by rw[z,e] at n;cases n)];show n,λb o q _=>⟨o,q⟩,λb xs q=>d q λz=>h1 _ z.symm,λb o v q=>d q λz=>h2 _ _ z.symm,λb ps q=>⟨#[],by rw[d q λz=>i _ z.symm];simp⟩⟩;show I.un k f
end
def Fu(v a:QO):QY->Prop:=λh=>h.IsValuesView v a
def CT:V->List V->Hp->VK->Prop:=λx xs H Q=>∃a q,x=.ref a/\xs=[]/\H a=QH (.dK q)/\∀v,H v=QI->Q (.ref v) (upd H v (.ext (Fu v a)))
theorem wa:GD X "dict.values" CT:=by
 intro b s Y H x t v m Q I r i h;obtain⟨a,d,rfl,rfl,e,q⟩:=h;cases i;cases(r);obtain⟨z,j,l,f,c⟩:=ma I.hok e;let g:s.TypeIs (.ref a) "dict":=c.typeIs;show call_meetsIn F.slot_dict_values g F.entry_dict_values (F.args_dict_values_1 _) (meets_dict_values (aH X.prog X.w) a j) ⟨⟨l,c⟩,?_⟩;show⟨.ref s.heap.objs.size,_,I.laid (λ_ _ q=>Nw _ q) (Ny _) ?_,rfl,q _ (I.hok.fresh (Ny _))⟩;show⟨⟨_,NI _ rfl,rfl,rfl⟩,⟨_,NI _ rfl⟩,λp n ⟨o,e1,e2⟩ k=>⟨o,k o e1,e2⟩⟩
end L2
namespace J
def Le{α:Type}(a b:Option α):Prop:=∀r,a=QH r->b=QH r
theorem Le.refl{α:Type}(a:Option α):Le a a:=λ_ h=>h
def r9(P:QT)(w:QW)(K:Np)(mg:Str->Option QK)(base:QY)(k:Nat)(x:Str)(B:Fn):Prop:=if qz x=QJ then ∃C f fd ps,Oa K QZ (mC x)=QH (QH (.ref C))/\Cls K C/\oH K C (mM x) f/\FnOk P w K mg base iO k f fd ps (nB K B)/\Binds K fd ps []/\∀ds r,B ds=QH r->GF (mC x) (mM x) ds=QJ else
  (∃f fd ps,FnOk P w K mg base iO k f fd ps (nB K B)/\mg x=QH (.ref f)/\Om K (.ref f)=QJ/\Binds K fd ps []/\(x==("__debug__":Str))=QL)\/
  (∃j C f fd ps q,j+1<=k/\Mk K C f/\FnOk P w K mg base iO j f fd ps q/\mg x=QH (.ref C)/\Binds K fd ps []/\(x==("__debug__":Str))=QL/\q8 C (nB K B) q)
structure TabF(P:Program)(w:World)(K:Np)(mg:Str->Option Value)(base:Heap)(U:Tab)(k:Nat):Prop where
 fn:∀x B,U.fn x=QH B->r9 P w K mg base k x B
 cf:∀c fs C,U.cf c=QH fs->Oa K QZ c=QH (QH (.ref C))->Cls K C/\∀a∈fs,NoAttr K C a
 fm:∀x sp,U.fm x=QH sp->∃f fd ps,FnOk P w K mg base iO k f fd ps (sp K)/\mg x=QH (.ref f)/\Om K (.ref f)=QJ/\Binds K fd ps []/\(x==("__debug__":Str))=QL
 bl:∀x∈aE,mg x=QI
 cst:∀x d,U.cst x=QH d->∃u v,mg x=QH u/\RelV v u/\(∀H S,Rp K H S d v)/\(x==("__debug__":Str))=QL
theorem TabF.ok{X:Cx}(T:TabF X.prog X.w X.K X.mg X.base U k)(i:Room k X.A):Cw X U:=
 ⟨λy B p=>by
  let h:=T.fn y B p;unfold r9 at h;unfold gZ;split at h
  ·ext q;rw[if_pos q];obtain⟨C,f,t,s,e,a,b,c,d,n⟩:=h;show⟨C,k,f,t,s,e,a,b,c,i,d,n⟩
  ·ext q;rw[if_neg q];rcases h with⟨g,l,m,e,a,b,c,d⟩|⟨j,C,g,l,m,o,r,e,a,b,c,d,n⟩
   ·show .inl ⟨k,g,l,m,e,i,a,b,c,d⟩
   ·show .inr ⟨C,j,g,l,m,o,e,a,i.mono r,b,c,d,n⟩,T.cf,λy B p=>by
  obtain⟨g,l,m,e,a,b,c,d⟩:=T.fm y B p;show⟨k,g,l,m,e,i,a,b,c,d⟩,T.bl,(by let h:=i.un;show Os (NT (Pt (by decide:100<=200) _) (Nat.add_le_add_right (OZ _ _) 200)) h),i.gd,T.cst⟩
def k9(k:Nat)(ks:List kX):Ro:=ks.map E2++N1 (k-ks.length) QI
noncomputable def uA(d:D):kX:=(.fz,d)
def fj(r:Option Res):Option KD:=match r with
 |some (.rt kd d _)=>if bw kd=QJ then QI else QH (kd,d)
 |some (.nx _)=>QH (.sh,.non)
 |_=>QI
def bQ(U:GG)(N m k:Nat)(body:bB)(ds:List D):Option KD:=if ds.length=m then fj (aD U N body [] (k9 k (ds.map uA))) else QI
noncomputable def outs(m:Nat)(pn:List Nat)(Z:Ro):List (Option kX):=(NP m).map λj=>if j∈pn then(match Z[j]? with|some (QH ⟨QL,k,d⟩)=>QH (k,d)|_=>QI) else QI
def il(m:Nat)(pn:List Nat)(r:Option Res):Option (Kd×D×List (Option kX)):=match r with
 |some (.rt kd d Z)=>if bw kd=QJ then QI else QH (kd,d,outs m pn Z)
 |some (.nx Z)=>QH (.sh,.non,outs m pn Z)
 |_=>QI
def la(U:GG)(N m k:Nat)(pn:List Nat)(body:bB)(ks:List kX):Option (Kd×D×List (Option kX)):=if ks.length=m then il m pn (aD U N body pn (k9 k ks)) else QI
def pN(fns:Nms)(an:An)(n:Nat)(N:List Str)(st:QV):Option bB:=cB fns an n ⟨ab st,N,λ_=>QJ⟩ n (aB st)
theorem jk{vs:List V}{i:Nat}(h:i<vs.length):(bO N vs)[i]?=(vs.map QH)[i]?:=by
 unfold L2.bO;rw[N7 (by simpa using h)]
theorem nU{N:List Str}{ks:List kX}{vs:List V}(b:SE K g (ks.map E2) (vs.map QH) H)(k:ks.length<=N.length):SE K g (k9 N.length ks) (bO N vs) H:=by
 let h:ks.length=vs.length:=by simpa using b.len
 show⟨λi j e=>?_,b.mu,?_⟩
 ·unfold k9 at e;by_cases a:i<ks.length
  ·rw[N7 (by simpa using a)] at e;obtain⟨v,F,f,c,d⟩:=b.slot i j e;show⟨v,F,by rw[jk (by rw[<- h];show a)];show f,c,d⟩
  ·rw[Oi (by simpa using a),PZ] at e
   split at e<;>cases e
 ·unfold k9 L2.bO;simp only[NK,Nt,P7]
  lia
theorem CU{ds:List D}{vs:List V}(r:RpL K H (Sg g) ds vs)(m:MuOk H (Sg g)):SE K g ((ds.map uA).map E2) (vs.map QH) H:=by
 show⟨λi a e=>?_,m,by simp[r.len]⟩;rw[Nu,Nu] at e
 cases q:ds[i]? with
 |none=>rw[q] at e;cases e
 |some d=>
  rw[q] at e;cases e;obtain⟨v,e1,e2⟩:=r.getD q;show⟨v,iH,by rw[Nu,e1];rfl,λ_ z=>z.elim,.fz e2⟩
theorem j8{g:Gh}:g.re (λ_=>QI) b≠QH (QH i):=λe=>by
 unfold Gh.re at e
 cases q:g b with
 |none=>rw[q] at e;cases e
 |some x=>cases x<;>(rw[q] at e;cases e)
theorem uB{g:Gh}(h:g b≠QI):g.re (λ_=>QI) b=QH QI:=by
 unfold Gh.re
 cases q:g b with
 |none=>show absurd q h
 |some x=>cases x<;>rfl
theorem fL{K:Np}{g g':Gh}{H H':Hp}{F:Pr}(a:Evo (g.re λ_=>QI) H g' H' F):Same H H'/\(∀b,F b->H b=QI)/\∀b,Sg g b->Sg g' b:=
 ⟨λb o e=>a.keep b o (λi q=>j8 q) e,λb z=>(a.tmp b z).2.elim (λ⟨j,q⟩=>absurd q j8) id,λb z=>by rw[Sg,(a.out b).mp (uB z)];simp⟩
section
variable {P:QT} {w:QW} {K:Np} {mg:Str->Option QK} {base:QY} {fns:Nms} {U:GG} {x qual:Str} {st:QV} {f:QO} {fd:Q3} {N ps:List Str} {k n M:Nat} {an:An} {body:bB}
theorem uC(F:Fun K x qual st f fd)(S:aY N ps (ab st))(T:TabF P w K mg base (a5 fns U) k)(hc:pN fns an n N st=QH body) :
  FnOk P w K mg base iO (k+1) f fd ps (nB K (bQ U M ps.length N.length body)):=by
 let R:ps.length<=N.length:=by
  have:=congrArg O3 S.pre;rw[N0] at this
  lia
 show F.ok S (λi H Q E h=>?_) (λt A c s H i Q E W h=>?_)
 ·obtain⟨u,g,L,d,r,y,a,q⟩:=h;unfold bQ at a;split at a
  ·ext l;rw[r.len,l]
  ·cases a
 ·obtain⟨u,g,L,d,r,y,a,q⟩:=h;unfold bQ at a;split at a
  ·ext l
   let O:ao (lE iO P w K mg base N qual (ab st) f t A c s H E).nox (a5 fns U) ⟨ab st,N,λ_=>QJ⟩:=
    ⟨rfl,rfl,λ_ _=>rfl,rfl,S.nd,T.ok W⟩
   let Z:MuOk H (Sg (g.re λ_=>QI)):=λb z=>y b ((jQ b).mp z);let X:RpL K H (Sg (g.re λ_=>QI)) u i:=r.weak λb z=>(jQ b).mp z;let C:=nU (N:=N) (CU X Z) (by simpa[l] using R);let I:aX _ [] (aD U M body []) (aB st):=eM U (λs is h=>jJ fns U O PassesOwn.never n h) hc [];show⟨_,e7,?_⟩;unfold fj at a;split at a
   ·ext k2 d2 Z2 e;split at a
    ·cases a
    ·ext hb;cases a;show I _ _ e _ (bO N i) H _ C λv Y' Y p F j o pk V=>?_;obtain⟨m,D,B⟩:=fL (K:=K) j;show q v p m ⟨F,D,V.unlend (by simpa using hb) B⟩
   ·ext Z' e;cases a;show I _ _ e _ (bO N i) H _ C λY' Y p j o pk=>?_;obtain⟨m,D,B⟩:=fL (K:=K) j;show q .non p m Eo
   ·cases a
  ·cases a
theorem mE{m:Nat}{pn:List Nat}{Z:Ro}{j:Nat}(h:((outs m pn Z).map CD)[j]?=QH (QH sl)):j<m/\j∈pn/\Z[j]?=QH (QH sl):=by
 unfold outs at h;rw[Nu,Nu] at h;by_cases a:j<m
 ·rw[Oo a] at h;simp only[P3,Option.some.injEq] at h;split at h
  ·ext b;split at h
   ·ext k d e;cases h;show⟨a,b,e⟩
   ·cases h
  ·cases h
 ·rw[N6 (by simpa using a)] at h;cases h
theorem pO:(outs m pn Z).length=m:=by simp[outs]
theorem uD(F:Fun K x qual st f fd)(S:aY N ps (ab st))(T:TabF P w K mg base (a5 fns U) k)(hc:pN fns an n N st=QH body) :
  FnOk P w K mg base iO (k+1) f fd ps (v3 K (la U M ps.length N.length pn body)):=by
 let X:ps.length<=N.length:=by
  have:=congrArg O3 S.pre;rw[N0] at this
  lia
 show F.ok S (λo H Q E h=>?_) (λD A b s H o Q E hr h=>?_)
 ·obtain⟨R,g,W,d,os,B,a,q⟩:=h;unfold la at a;split at a
  ·ext p;have:=B.len;simp only[Nt] at this;rw[<- this,p]
  ·cases a
 ·obtain⟨R,g,W,d,os,B,a,q⟩:=h;unfold la at a;split at a
  ·ext p;let I:R.length=o.length:=by simpa using B.len
   let O:ao (lE iO P w K mg base N qual (ab st) f D A b s H E).nox (a5 fns U) ⟨ab st,N,λ_=>QJ⟩:=
    ⟨rfl,rfl,λ_ _=>rfl,rfl,S.nd,T.ok hr⟩
   let t:=nU (N:=N) B (by rw[p];show X);let L:aX _ pn (aD U M body pn) (aB st):=eM U (λs is h=>jJ fns U O PassesOwn.never n h) hc pn
   let r:∀{l:Gh} {m:Hp} {F:Pr} {u:L2.St} {y:Ro},SE K (l.plus F) y u m->PinOk pn (bO N o) u->SE K (l.plus F) ((outs ps.length pn y).map CD) (o.map QH) m:=λ{l m F u y} s1 pk=>by
    show⟨λj sl e=>?_,s1.mu,by simp[pO,<- I,p]⟩;obtain⟨Z,h2,h3⟩:=mE e;obtain⟨v,Fj,q1,V,q3⟩:=s1.slot j sl h3;show⟨v,Fj,by rw[<- q1,pk j h2,jk (by rw[<- I,p];show Z)],V,q3⟩
   show⟨_,e7,?_⟩;unfold il at a;split at a
   ·ext k2 d2 Z2 c;split at a
    ·cases a
    ·ext hb;cases a;show L _ _ c _ (bO N o) H _ t λv u l m F C i pk Y=>q v l m F C (r i pk) Y
   ·ext y c;cases a;show L _ _ c _ (bO N o) H _ t λu l m C i pk=>q .non l m iH C (r (by rw[aT λ_ z=>z];show i) pk) ⟨λ_ z=>z,by unfold Rp;rfl⟩
   ·cases a
  ·cases a
end
noncomputable def pP{α:Type}(U:Nat->Option α)(i:Nat)(B:α):Nat->Option α:=λj=>if j=i then QH B else U j
abbrev GG.addI(U:GG)(i:Nat)(B:Fn):GG:=⟨pP U.fn i B,U.fm⟩
abbrev GG.addM(U:GG)(i:Nat)(B:Fm):GG:=⟨U.fn,pP U.fm i B⟩
theorem nV{B ψ:Fn}(h:∀ds,Le (ψ ds) (B ds))(s:nB K ψ vs H Q E):nB K B vs H Q E:=by
 obtain⟨ds,S,k,d,b,a,c,e⟩:=s;show⟨ds,S,k,d,b,a,h ds _ c,e⟩
theorem Fw{B ψ:Fm}(h:∀ds,Le (ψ ds) (B ds))(s:v3 K ψ vs H Q E):v3 K B vs H Q E:=by
 obtain⟨a,g,c,d,f,e,b,i⟩:=s;show⟨a,g,c,d,f,e,h a _ b,i⟩
section
variable {P:QT} {w:QW} {K:Np} {mg:Str->Option QK} {base:QY} {fns:Nms} {U:GG} {x qual:Str} {st:QV} {f:QO} {fd:Q3} {N ps:List Str} {k n M i:Nat} {an:An} {body:bB}
theorem TabF.up(T:TabF P w K mg base (a5 fns U) k):TabF P w K mg base (a5 fns U) (k+1):=
  ⟨λy B n=>by
    let h:=T.fn y B n;unfold r9 at h⊢;split at h
    · ext o;rw[if_pos o];obtain⟨C,f,r,q,a,b,d,e,i⟩:=h;show⟨C,f,r,q,a,b,d,e.mono (OP k),i⟩
    · ext o;rw[if_neg o];rcases h with⟨g,c,l,a,b,d,e,i⟩|⟨j,C,g,c,l,m,p,a⟩
      · show .inl ⟨g,c,l,a.mono (OP k),b,d,e,i⟩
      · show .inr ⟨j,C,g,c,l,m,PP p,a⟩,T.cf,
   λy B n=>by obtain⟨g,c,l,a,b,d,e,i⟩:=T.fm y B n;show⟨g,c,l,a.mono (OP k),b,d,e,i⟩,T.bl,T.cst⟩
theorem TabF.put(T:TabF P w K mg base (a5 fns U) k)(hi:fns.fns[i]?=QH x)(h:r9 P w K mg base k x ψ):TabF P w K mg base (a5 fns (U.addI i ψ)) k:=by
 show⟨λy B b=>?_,T.cf,T.fm,T.bl,T.cst⟩;let b:(aZ y fns.fns).bind (pP U.fn i ψ)=QH B:=b
 cases c:aZ y fns.fns with
 |none=>rw[c] at b;cases b
 |some j=>
  rw[c] at b;let a:pP U.fn i ψ j=QH B:=b;unfold pP at a;split at a
  ·ext e;subst e;cases a;have:=aU c;rw[hi] at this;cases this;show h
  ·show T.fn y B (by change(aZ y fns.fns).bind U.fn=_;rw[c];show a)
theorem TabF.addX{ψ B:Fn}(T:TabF P w K mg base (a5 fns U) k)(F:Fun K x qual st f fd)(c:FnOk P w K mg base iO (k+1) f fd ps (nB K B))(b:mg x=QH (.ref f))(d:Binds K fd ps [])(hd:(x==("__debug__":Str)||qz x)=QL)
  (hi:fns.fns[i]?=QH x) (hψ:∀a,Le (ψ a) (B a)):TabF P w K mg base (a5 fns (U.addI i ψ)) (k+1):=by
 rw[O0] at hd;show T.up.put hi ?_;unfold r9;rw[if_neg (by rw[hd.2];show NV)];show .inl ⟨f,fd,ps,c.imp λe H Q E s=>nV hψ s,b,F.kp,d,hd.1⟩
theorem TabF.addI{ψ:Fn}(T:TabF P w K mg base (a5 fns U) k)(F:Fun K x qual st f fd)(S:aY N ps (ab st))(c:mg x=QH (.ref f))(b:Binds K fd ps [])(hd:(x==("__debug__":Str)||qz x)=QL)
  (hi:fns.fns[i]?=QH x) (hc:pN fns an n N st=QH body) (hψ:∀a,Le (ψ a) (bQ U M ps.length N.length body a)):TabF P w K mg base (a5 fns (U.addI i ψ)) (k+1):=
 T.addX F (uC (n:=n) (an:=an) (M:=M) F S T hc) c b hd hi hψ
theorem TabF.addM{ψ:Fm}(T:TabF P w K mg base (a5 fns U) k)(F:Fun K x qual st f fd)(S:aY N ps (ab st))(h:mg x=QH (.ref f))(g:Binds K fd ps [])(hd:(x==("__debug__":Str)||qz x)=QL)(hi:fns.fns[i]?=QH x)(m:pN fns an n N st=QH body)(l:∀ds,Le (ψ ds) (la U M ps.length N.length pn body ds)):TabF P w K mg base (a5 fns (U.addM i ψ)) (k+1):=by
 show⟨T.up.fn,T.cf,λy sp b=>?_,T.bl,T.cst⟩;let b:(aZ y fns.fns).bind (λj=>(pP U.fm i ψ j).map λB=>λK=>v3 K B)=QH sp:=b
 cases c:aZ y fns.fns with
 |none=>rw[c] at b;cases b
 |some j=>
  rw[c] at b;obtain⟨B,a,rfl⟩:=bx (show(pP U.fm i ψ j).map _=QH sp from b);unfold pP at a;split at a
  ·ext e;subst e;cases a
   let d:y=x:=by
    have:=aU c;rw[hi] at this;show(Option.some.inj this).symm
   subst d;show⟨f,fd,ps,(uD (n:=n) (an:=an) (M:=M) (pn:=pn) F S T m).imp λo H Q E s=>Fw l s,h,F.kp,g,(O0.mp hd).1⟩
  ·show T.up.fm y _ (by change lO fns U y=_;unfold lO;rw[c,Ob,a];rfl)
end
theorem Fx{ns:List Int}(c:SqL K H a (ns.map V.int))(h:B [.scr ns]=QH (.sh,.bl QJ)):nB K B [.ref a] H (λv _=>v=.bl QJ) λ_ _ _=>False:=by
 show⟨[.scr ns],λ_=>QI,.sh,.bl QJ,.cons ?_ .nil,λb z=>absurd rfl z,h,λv d _ r=>r.rd.bl⟩;unfold Rp;show⟨a,rfl,?_⟩;rcases c with h|h
 ·show .inl ⟨λz=>z rfl,h⟩
 ·show .inr h
theorem Ng{P:List QK->Prop}(h:P [])(us:List QK)(e:us.length=0):P us:=by
 cases us with
 |nil=>show h
 |cons=>cases e
theorem LP{P:List QK->Prop}(h:∀a,P [a])(us:List QK)(e:us.length=1):P us:=by
 cases us with
 |nil=>cases e
 |cons a us=>show Ng (P:=λus=>P (a::us)) (h a) us (Nat.succ.inj e)
theorem us2{P:List QK->Prop}(h:∀a b,P [a,b])(us:List QK)(e:us.length=2):P us:=by
 cases us with
 |nil=>cases e
 |cons a us=>show LP (P:=λus=>P (a::us)) (h a) us (Nat.succ.inj e)
theorem IV{P:List QK->Prop}(h:∀a b c,P [a,b,c])(us:List QK)(e:us.length=3):P us:=by
 cases us with
 |nil=>cases e
 |cons a us=>show us2 (P:=λus=>P (a::us)) (h a) us (Nat.succ.inj e)
theorem J6{P:List QK->Prop}(h:∀a b c d,P [a,b,c,d])(us:List QK)(e:us.length=4):P us:=by
 cases us with
 |nil=>cases e
 |cons a us=>show IV (P:=λus=>P (a::us)) (h a) us (Nat.succ.inj e)
theorem MJ{P:List QK->Prop}(h:∀a b c d e,P [a,b,c,d,e])(us:List QK)(e:us.length=5):P us:=by
 cases us with
 |nil=>cases e
 |cons a us=>show J6 (P:=λus=>P (a::us)) (h a) us (Nat.succ.inj e)
theorem fq{X:Cx}{pn:List Nat}{j l:Ro->Option Res}{a b:List QV}(c:aX X pn j a)(m:aX X pn l b):aX X pn (λZ=>cg (j Z) l) (a++b):=by
 intro Z r h g Y H s i q;dsimp only at h;show BE ?_
 cases e:j Z with
 |none=>rw[e] at h;cases h
 |some o=>
  rw[e] at h
  cases o with
  |nx f=>show c Z _ e g Y H _ i λt p u n k pk=>m f r h p t u s k (q.from n pk)
  |rt v d f=>cases h;show c Z _ e g Y H _ i q
  |ct f=>cases h;show c Z _ e g Y H _ i q
  |bk f=>cases h;show c Z _ e g Y H _ i q
def jS(f:Ro->Option Res)(m k:Nat)(ds:List D):Option KD:=if ds.length=m then fj (f (k9 k (ds.map uA))) else QI
section
variable {P:QT} {w:QW} {K:Np} {mg:Str->Option QK} {base:QY} {fns:Nms} {U:GG} {x qual:Str} {st:QV} {f:QO} {fd:Q3} {N ps:List Str} {k n M:Nat} {an:An} {body:bB}
theorem nW{t:Ro->Option Res}(F:Fun K x qual st f fd)(S:aY N ps (ab st))(T:TabF P w K mg base (a5 fns U) k)(hBq:∀X:Cx,ao X (a5 fns U) ⟨ab st,N,λ_=>QJ⟩->PassesOwn (QS X.prog X.w) X.A X.env X.xe->aX X [] t (aB st)) :
  FnOk P w K mg base iO (k+1) f fd ps (nB K (jS t ps.length N.length)):=by
 let M:ps.length<=N.length:=by
  have:=congrArg O3 S.pre;rw[N0] at this
  lia
 show F.ok S (λi H Q E h=>?_) (λp A c s H i Q E V h=>?_)
 ·obtain⟨u,g,L,d,r,y,a,q⟩:=h;unfold jS at a;split at a
  ·ext l;rw[r.len,l]
  ·cases a
 ·obtain⟨u,g,L,d,r,y,a,q⟩:=h;unfold jS at a;split at a
  ·ext l
   let O:ao (lE iO P w K mg base N qual (ab st) f p A c s H E).nox (a5 fns U) ⟨ab st,N,λ_=>QJ⟩:=
    ⟨rfl,rfl,λ_ _=>rfl,rfl,S.nd,T.ok V⟩
   let Z:MuOk H (Sg (g.re λ_=>QI)):=λb z=>y b ((jQ b).mp z);let W:RpL K H (Sg (g.re λ_=>QI)) u i:=r.weak λb z=>(jQ b).mp z;let C:=nU (N:=N) (CU W Z) (by simpa[l] using M);let I:aX _ [] t (aB st):=hBq _ O PassesOwn.never;show⟨_,e7,?_⟩;unfold fj at a;split at a
   ·ext k2 d2 Z2 e;split at a
    ·cases a
    ·ext hb;cases a;show I _ _ e _ (bO N i) H _ C λv Y' Y o F j n pk R=>?_;obtain⟨m,D,B⟩:=fL (K:=K) j;show q v o m ⟨F,D,R.unlend (by simpa using hb) B⟩
   ·ext Z' e;cases a;show I _ _ e _ (bO N i) H _ C λY' Y o j n pk=>?_;obtain⟨m,D,B⟩:=fL (K:=K) j;show q .non o m Eo
   ·cases a
  ·cases a
theorem TabF.addB{i:Nat}{ψ:Fn}(T:TabF P w K mg base (a5 fns U) k)(F:Fun K x qual st f fd)(S:aY N ps (ab st))(b:mg x=QH (.ref f))(c:Binds K fd ps [])(hd:(x==("__debug__":Str)||qz x)=QL)(hi:fns.fns[i]?=QH x)(hBq:∀X:Cx,ao X (a5 fns U) ⟨ab st,N,λ_=>QJ⟩->PassesOwn (QS X.prog X.w) X.A X.env X.xe->aX X [] fb (aB st))(a:∀ds,Le (ψ ds) (jS fb ps.length N.length ds)):TabF P w K mg base (a5 fns (U.addI i ψ)) (k+1):=
 T.addX F (nW F S T hBq) b c hd hi a
end
def yH(k:Ow)(c:Str)(B:Fm):Fn:=λds=>match B ((k,.nd (.obj c []) [])::ds.map uA) with
 |some (.sh,.non,QH (k',d')::_)=>QH (.fr k',d')
 |_=>QI
theorem BQ(hC:Oa K QZ c=QH (QH (.ref C)))(cl:Cls K C):q8 C (nB K (yH (.own es r0) c B)) (v3 K B):=by
 intro vs H Q s a A u O hc;obtain⟨T,g,kd,d,r,m,I,q⟩:=s;unfold yH at I;split at I
 ·ext U d' os N;cases I
  let D:Same H (upd (upd H A (.own a)) a (.ins C A [])):=λb o e=>by
   rw[ae (λz=>by rw[z,u] at e;cases e),ae (λz=>by rw[z,O] at e;cases e)];show e
  let ga:g a=QI:=by
   cases q:g a with
   |none=>rfl
   |some x=>obtain⟨o,e,_⟩:=m a (by rw[Sg,q];simp);rw[u] at e;cases e
  show let l:Gh:=λb=>if b=a then QH (QH 0) else(g.re λ_=>QI) b;?_
  let k:∀b,b≠a->l b=(g.re λ_=>QI) b:=λb h=>if_neg h;let S:l a=QH (QH 0):=if_pos rfl;let w:∀b,b≠a->(Sg l b↔Sg g b):=λb h=>by rw[Sg,k b h];show jQ b
  show⟨_,l,.sh,.non,_,⟨λi Z e=>?_,λb z=>?_,by simp[r.len]⟩,N,λv P E F L se X=>?_⟩
  ·cases i with
   |zero=>
    cases e;show⟨.ref a,λb=>b=a,rfl,λb z=>by rw[z];show S,?_⟩;change Tr K _ (Sg l) (.nd (.obj c []) []) (.own es r0) (.ref a) _;unfold Tr;show⟨a,.ins C A [],[],λ_=>False,rfl,ak,⟨C,A,hC,⟨cl,λf Y=>by cases Y⟩,rfl,rfl⟩,λ_ z=>z,(λh=>by cases h),(λb=>⟨λz=>.inl ⟨rfl,z⟩,λz=>z.elim (λz=>z.2) λz=>z.elim⟩),?_⟩;unfold TrL;show⟨rfl,λ_ z=>z⟩
   |succ i=>
    let e:((T.map uA).map E2)[i]?=QH (QH Z):=by simpa using e
    rw[Nu,Nu] at e
    cases M:T[i]? with
    |none=>rw[M] at e;cases e
    |some d0=>
     rw[M] at e;cases e;obtain⟨v,e1,e2⟩:=r.getD M;show⟨v,iH,by rw[NS,P0,Nu,e1];rfl,λ_ z=>z.elim,.fz (e2.go λb o n e=>⟨D b o e,λz=>n ((w b λh=>?_).mp z)⟩)⟩;rw[h,u] at e;cases e
  ·by_cases j:b=a
   ·rw[j];show⟨_,ak,λxs h=>by cases h⟩
   ·obtain⟨o,e,n⟩:=m b ((w b j).mp z);show⟨o,D b o e,n⟩
  ·obtain⟨hF,y⟩:=(show(∀b,¬F b)/\Rp K E (Sx P F) .non v from X);let y:v=.non:=by unfold Rp at y;show y
   obtain⟨W,R,e1,e2,e3⟩:=se.slot 0 ⟨QL,U,d⟩ rfl;cases(show QH (QH (V.ref a))=QH (QH W) from e1);let pl:P.plus F=P:=aT hF;rw[pl] at e2 e3
   let t:Same H E:=λb o e=>L.keep b o (λi z=>by
    let j:b≠a:=λh=>by rw[h,u] at e;cases e
    rw[k b j] at z;show j8 z) (D b o e)
   show⟨y,q (.ref a) E t ⟨R,λb z=>?_,?_⟩⟩
   ·rcases L.new b 0 (e2 b z) with⟨i,p⟩|p
    ·by_cases j:b=a
     ·rw[j];show u
     ·rw[k b j] at p;show absurd p j8
    ·cases qh:H b with
     |none=>rfl
     |some o=>rw[D b o qh] at p;cases p
   ·change Tr K E (Sx g R) d U (.ref a) R;show e3.go (λ_ _ _ e=>e) λb o _ n z=>n ?_;rcases z with z|z
    ·let j:b≠a:=λh=>by rw[h] at z;show z ga
     have:l b=QH QI:=by rw[k b j];show uB z
     rw[Sg,(L.out b).mp this];simp
    ·rw[Sg,e2 b z];simp
 ·cases I
section
variable {P:QT} {w:QW} {K:Np} {mg:Str->Option QK} {base:QY} {fns:Nms} {U:GG} {x y qual:Str} {st:QV} {f C:QO} {fd:Q3} {N ps:List Str} {k n M i:Nat} {an:An} {body:bB}
def wb(y:Str)(B:Fn):Fn:=λds=>if GF (mC y) (mM y) ds=QJ then B ds else QI
end
def Wp{α:Type}(a:Option α)(Q:α->Prop):Prop:=∃r,a=QH r/\Q r
theorem Wp.mono{α:Type}{a:Option α}{Q R:α->Prop}(h:Wp a Q)(k:∀r,Q r->R r):Wp a R:=let ⟨r,e,q⟩:=h;⟨r,e,k r q⟩
theorem nX{α:Type}{r:α}{Q:α->Prop}(q:Q r):Wp (QH r) Q:=⟨r,rfl,q⟩
section
variable {U:Nat->Option Fn} {Z:Ro} {Q:KD->Prop}
theorem aQ{i:Nat}(h:Z[i]?=QH (QH s))(q:Q (oW i s)):Wp (aa U (.var i) Z) Q:=⟨_,by rw[Be,h];rfl,q⟩
theorem a9(q:Q (.sh,d)):Wp (aa U (.lit d) Z) Q:=⟨_,by rw[tQ],q⟩
theorem a6(h:Wp (aa U a Z) λx=>Wp (aa U b Z) λy=>Wp (dZ op x y) Q):Wp (aa U (.bin op a b) Z) Q:=by
 obtain⟨x,d,y,c,z,e,q⟩:=h;show⟨z,by rw[Bf,d,c];show e,q⟩
theorem yI(h:Wp (aa U a Z) λx=>Wp (vT x.2) λb=>Q (.sh,.bl (!b))):Wp (aa U (.not a) Z) Q:=by
 obtain⟨x,c,b,d,q⟩:=h;show⟨_,by rw[Bh,c];change bV ((vT x.2).map _)=_;rw[d];rfl,q⟩
theorem yJ(h:Wp (aK U t Z) λr=>(r=QJ->Wp (aa U a Z) Q)/\(r=QL->Wp (aa U b Z) Q)):Wp (aa U (.ifx t a b) Z) Q:=by
 obtain⟨r,d,f,e⟩:=h
 cases r with
 |true=>obtain⟨x,c,q⟩:=f rfl;show⟨x,by rw[tR,d];show c,q⟩
 |false=>obtain⟨x,c,q⟩:=e rfl;show⟨x,by rw[tR,d];show c,q⟩
theorem sd(h:Wp (aW U es Z) λkds=>Wp (rc k (QH kds)) Q):Wp (aa U (.lst k es) Z) Q:=by
 obtain⟨x,b,z,a,q⟩:=h;show⟨z,by rw[Bi,b];show a,q⟩
theorem yK(h:Wp (aW U es Z) λkds=>Wp (iZ k (QH kds)) Q):Wp (aa U (.tup k es) Z) Q:=by
 obtain⟨x,b,z,a,q⟩:=h;show⟨z,by rw[Bj,b];show a,q⟩
theorem uE(h:Wp (aa U a Z) λx=>Wp (eS U lo Z) λl=>Wp (eS U hi Z) λu=>Wp (GH (QH x) (QH l) (QH u)) Q):Wp (aa U (.sl a lo hi) Z) Q:=by
 obtain⟨x,d,l,b,u,c,z,e,q⟩:=h;show⟨z,by rw[EN,d,b,c];show e,q⟩
theorem yL(h:Wp (aa U a Z) λx=>Wp (eS U lo Z) λl=>Wp (aa U st Z) λy=>Wp (xH (QH x) (QH l) (QH y)) Q):Wp (aa U (.stp a lo st) Z) Q:=by
 obtain⟨x,d,l,b,y,c,z,e,q⟩:=h;show⟨z,by rw[Bk,d,b,c];show e,q⟩
theorem yM(a:U i=QH B)(h:Wp (aW U es Z) λkds=>Wp (Bc B kds) Q):Wp (aa U (.fn i es) Z) Q:=by
 obtain⟨x,b,z,c,q⟩:=h;show⟨z,by rw[xT,b,a];show c,q⟩
theorem eO(h:Wp (aW U es Z) λkds=>Wp (eJ x kds) Q):Wp (aa U (.blt x es) Z) Q:=by
 obtain⟨y,a,z,b,q⟩:=h;show⟨z,by rw[tU,a];show b,q⟩
theorem sg(h:Wp (aa U a Z) λx=>Wp (nE T x.2) λb=>Q (.sh,.bl b)):Wp (aa U (.isi T a) Z) Q:=by
 obtain⟨y,c,z,d,q⟩:=h;show⟨_,by rw[tT,c];change bV (nE T y.2)=_;rw[d];rfl,q⟩
theorem pQ(h:Wp (aa U a Z) Q):Wp (aa U (.bool op (.cons a .nil)) Z) Q:=by
 obtain⟨y,b,q⟩:=h;show⟨y,by rw[hR,lK];show b,q⟩
theorem lf(h:Wp (aa U a Z) λx=>∃z,x.2=.bl z/\((op==.And)=z->Wp (aa U (.bool op (.cons b r)) Z) Q)/\((op==.And)≠z->Q (.sh,.bl z))):Wp (aa U (.bool op (.cons a (.cons b r))) Z) Q:=by
 obtain⟨⟨k,d⟩,f,z,e,i,g⟩:=h;let e:d=.bl z:=e;subst e;by_cases c:(op==.And)=z
 ·obtain⟨y,e2,q⟩:=i c;rw[hR] at e2;show⟨y,by rw[hR,lK,f];show(if_pos c).trans e2,q⟩
 ·show⟨_,by rw[hR,lK,f];show if_neg c,g c⟩
theorem dH(h:Wp (fW U it Z) λp=>p.2.length<=100000/\Wp (aO r (dv tg (cK U ts) (aa U elt) (aJ Z cap)) p.2) λys=>Q (.fr (.own [] r),.lst ys)):Wp (aa U (.comp r cap tg it ts elt) Z) Q:=by
 obtain⟨p,d,c,ys,b,q⟩:=h;obtain⟨e,a⟩:=p
 show⟨_,by rw[pi,d];change(if a.length<=100000 then _ else _)=_;rw[if_pos c,b],q⟩
variable {T:Bool->Prop}
theorem si(h:Wp (aa U a Z) λx=>Wp (aa U b Z) λy=>Wp (cH op x.2 y.2) T):Wp (aK U (.cmp op a b) Z) T:=by
 obtain⟨x,d,y,c,z,e,q⟩:=h;show⟨_,by rw[pj,d,c];show e,q⟩
theorem pR(h:Wp (aK U a Z) T):Wp (aK U (.bool op (.cons a .nil)) Z) T:=by
 obtain⟨y,b,q⟩:=h;show⟨y,by rw[fI,f6];show b,q⟩
theorem lg(h:Wp (aK U a Z) λz=>((op==.And)=z->Wp (aK U (.bool op (.cons b r)) Z) T)/\((op==.And)≠z->T z)):Wp (aK U (.bool op (.cons a (.cons b r))) Z) T:=by
 obtain⟨z,d,f,e⟩:=h;by_cases c:(op==.And)=z
 ·obtain⟨y,e2,q⟩:=f c;rw[fI] at e2;show⟨y,by rw[fI,f6,d];show(if_pos c).trans e2,q⟩
 ·show⟨_,by rw[fI,f6,d];show if_neg c,e c⟩
variable {L:List KD->Prop}
theorem ba(q:L []):Wp (aW U .nil Z) L:=⟨_,by rw[aW],q⟩
theorem aC(h:Wp (aa U a Z) λx=>Wp (aW U r Z) λxs=>L (x::xs)):Wp (aW U (.cons a r) Z) L:=by
 obtain⟨x,c,xs,b,q⟩:=h;show⟨_,by rw[aW,c,b];rfl,q⟩
theorem li{P:Option Int->Prop}(q:P QI):Wp (eS U .non Z) P:=⟨_,by rw[eS],q⟩
theorem nY{P:Option Int->Prop}(h:Wp (aa U a Z) λx=>∃i,x.2=.int i/\P (QH i)):Wp (eS U (.som a) Z) P:=by
 obtain⟨⟨k,d⟩,c,i,b,q⟩:=h;let b:d=.int i:=b;subst b;show⟨_,by rw[eS,c];rfl,q⟩
variable {P:List Nat×List D->Prop}
theorem jl(h:Wp (aa U a Z) λx=>Wp (rq (QH x)) P):Wp (fW U (.e a) Z) P:=by
 obtain⟨x,c,z,b,q⟩:=h;show⟨z,by rw[fW,c];show b,q⟩
theorem sj(h:Wp (aa U a Z) λx=>Wp (vW (QH x)) P):Wp (fW U (.enm a) Z) P:=by
 obtain⟨x,c,z,b,q⟩:=h;show⟨z,by rw[fW,c];show b,q⟩
theorem yN(h:Wp (aa U a Z) λx=>Wp (aa U b Z) λy=>Wp (pb (QH x) (QH y)) P):Wp (fW U (.zp a b) Z) P:=by
 obtain⟨x,e,y,c,h⟩:=h;change Wp (pb (aa U a Z) (aa U b Z)) P;rw[e,c];show h
theorem jm(h:Wp (aa U a Z) λx=>Wp (aa U b Z) λy=>Wp (rz (QH x) (QH y)) P):Wp (fW U (.rng a b) Z) P:=by
 obtain⟨x,d,y,c,z,e,q⟩:=h;show⟨z,by rw[fW,d,c];show e,q⟩
end
section
variable {Q:KD->Prop} {k k':Kd} {i j:Int}
theorem yO(q:Q (.sh,.int (i+j))):Wp (dZ .Add (k,.int i) (k',.int j)) Q:=nX q
theorem sn(q:Q (.sh,.int (i-j))):Wp (dZ .Sub (k,.int i) (k',.int j)) Q:=nX q
theorem yP(h:i.natAbs<lim/\j.natAbs<lim)(q:Q (.sh,.int (i*j))):Wp (dZ .Mult (k,.int i) (k',.int j)) Q:=⟨_,fF (if_pos h),q⟩
theorem uF(h:0<j/\j.natAbs<lim)(q:Q (.sh,.int (i / j))):Wp (dZ .FloorDiv (k,.int i) (k',.int j)) Q:=⟨_,fF (if_pos h),q⟩
theorem Fz(h:0<j)(q:Q (.sh,.int (i%j))):Wp (dZ .Mod (k,.int i) (k',.int j)) Q:=⟨_,fF (if_pos h),q⟩
theorem yQ(h:0<=j/\j<=1000000/\i.natAbs<2^64)(q:Q (.sh,.int (i^j.toNat))):Wp (dZ .Pow (k,.int i) (k',.int j)) Q:=⟨_,fF (if_pos h),q⟩
theorem sr(h:0<=j/\j<=1000000/\i.natAbs<lim)(q:Q (.sh,.int (i*2^j.toNat))):Wp (dZ .LShift (k,.int i) (k',.int j)) Q:=⟨_,fF (if_pos h),q⟩
theorem FA(h:0<=j)(q:Q (.sh,.int (i / 2^j.toNat))):Wp (dZ .RShift (k,.int i) (k',.int j)) Q:=⟨_,fF (if_pos h),q⟩
theorem FB{xs ys:List D}(h:dY k xs=QJ/\dY k' ys=QJ/\xs.length+ys.length<=100000)(q:Q (.fr bS,.lst (xs++ys))):Wp (dZ .Add (k,.lst xs) (k',.lst ys)) Q:=⟨_,if_pos h,q⟩
variable {T:Bool->Prop}
theorem CV(q:T (decide (j<=i))):Wp (cH .GtE (.int i) (.int j)) T:=nX q
theorem FC(h:dB 90 x=QJ/\dB 90 y=QJ)(q:T (vQ x y)):Wp (cH .Eq x y) T:=⟨_,if_pos h,q⟩
theorem FD(h:dB 90 x=QJ/\dB 90 y=QJ)(q:T (!vQ x y)):Wp (cH .NotEq x y) T:=⟨_,if_pos h,q⟩
theorem nZ:vQ (.int i) (.int j)=decide (i=j):=by
 unfold vQ py;simp[PyData.eqv]
 try rfl
theorem CW(q:T (decide (i=j))):Wp (cH .Eq (.int i) (.int j)) T:=FC ⟨rfl,rfl⟩ (by rw[nZ];show q)
theorem CY(q:T (!decide (i=j))):Wp (cH .NotEq (.int i) (.int j)) T:=FD ⟨rfl,rfl⟩ (by rw[nZ];show q)
variable {xs:List D} {d:D} {n:Nat}
theorem FE(a:jN xs.length z=QH n)(hd:xs[n]?=QH d)(q:Q (mn k n,d)):Wp (xE (QH (k,.nd .lst xs)) (QH (k',.int z))) Q:=⟨_,by change(match jN xs.length z with|some j=>(xs[j]?).map (λd=>(mn k j,d))|none=>QI)=_;rw[a];change(xs[n]?).map _=_;rw[hd];rfl,q⟩
theorem FF(a:jN xs.length z=QH n)(hd:xs[n]?=QH d)(q:Q (mn k n,d)):Wp (xE (QH (k,.nd .tup xs)) (QH (k',.int z))) Q:=⟨_,by change(match jN xs.length z with|some j=>(xs[j]?).map (λd=>(mn k j,d))|none=>QI)=_;rw[a];change(xs[n]?).map _=_;rw[hd];rfl,q⟩
theorem uG{m:Nat}{z:Int}(a:0<=z)(h1:z<m):jN m z=QH z.toNat:=by unfold jN;rw[if_pos a,if_pos h1]
end
theorem FG{Q:KD->Prop}(h:A5 d=QH n)(q:Q (.sh,.int n)):Wp (eJ "len" [(k,d)]) Q:=by
 show⟨(.sh,.int n),?_,q⟩;let e:eJ "len" = xI:=by unfold eJ;rw[if_pos rfl]
 rw[e];unfold xI;dsimp only;rw[h];rfl
theorem uH{Q:KD->Prop}(h:dY k ds=QJ)(q:Q (.fr bS,.lst ds)):Wp (eJ "list" [(k,.nd .lst ds)]) Q:=⟨_,if_pos h,q⟩
theorem pS{Q:KD->Prop}(h:dY k ds=QJ)(q:Q (EB k,.tup ds)):Wp (eJ "tuple" [(k,.nd .lst ds)]) Q:=⟨_,if_pos h,q⟩
theorem FH{Q:KD->Prop}{bs:List Bool}(q:Q (.sh,.bl (bs.all id))):Wp (eJ "all" [(k,.nd .lst (bs.map D.bl))]) Q:=by
 show⟨(.sh,.bl (bs.all id)),?_,q⟩;let e:eJ "all" [(k,.nd .lst (bs.map D.bl))]=(cU (bs.map D.bl)).map λbs=>(Kd.sh,D.bl (bs.all id)):=rfl;rw[e,jE];rfl
theorem uI{B:Fn}{kds:List KD}{Q:KD->Prop}(h:Wp (B (kds.map (·.2))) λr=>bw r.1=QL/\((kds.all λp=>q0 p.1 p.2)=QJ\/kM r.1 r.2=QJ)/\Q r):Wp (Bc B kds) Q:=by
 obtain⟨⟨b,d⟩,e,c,f,q⟩:=h;show⟨(b,d),?_,q⟩;unfold Bc;rw[e];dsimp only;by_cases a:(kds.all λp=>q0 p.1 p.2)=QJ
 ·rw[if_pos a,if_neg (by simpa using c)]
 ·rw[if_neg a,if_pos (f.resolve_left a)]
section
variable {U:GG} {Z:Ro} {Q:Kd×D×Ro->Prop}
theorem cJ(h:Wp (aa U.fn e Z) λx=>Q (x.1,x.2,Z)):Wp (bf U (.p e) Z) Q:=by
 obtain⟨x,a,q⟩:=h;show⟨_,by rw[ym,a];rfl,q⟩
theorem ge{i:Nat}(h:Z[i]?=QH (QH ⟨QL,.own es r,d⟩))(q:Q (.fr (.own es r),d,Z.set i QI)):Wp (bf U (.mv i) Z) Q:=⟨_,by rw[Fb];unfold yg;rw[h];rfl,q⟩
theorem uJ{B:Fm}(i:U.fm f=QH B)(h:Wp (e6 U as Z) λp=>(cC p.1).Nodup/\∃ks,eL p.2 p.1=QH ks/\Wp (B ks) λo=>bw o.1=QL/\o.2.2.length=p.1.length/\Q (o.1,o.2.1,cN p.1 (o.2.2.map CD) p.2)):Wp (bf U (.io f as) Z) Q:=by
 obtain⟨⟨j,m⟩,b,e,ks,hk,⟨l,d,k⟩,c,a,g,q⟩:=h;show⟨_,?_,q⟩;rw[rQ,i,b];unfold Bq;dsimp only;rw[if_pos e,hk];dsimp only;rw[c];dsimp only;show if_neg (by rw[a];simpa using g)
theorem uK{f:List KD->Option KD}(h:Wp a λp=>Wp (f p.1) λr=>Q (r.1,r.2,p.2)):Wp (oS f a) Q:=by
 obtain⟨⟨b,e⟩,c,r,g,q⟩:=h
 show⟨_,by rw[c];change(match f b with|some (kd,d)=>QH (kd,d,e)|none=>QI)=_;rw[g],q⟩
theorem yR(h:Wp (cj U as Z) λp=>Wp (eJ x p.1) λr=>Q (r.1,r.2,p.2)):Wp (bf U (.blt x as) Z) Q:=by rw[Bw];show uK h
theorem gE(h:Wp (cj U as Z) λp=>Wp (iZ k (QH p.1)) λr=>Q (r.1,r.2,p.2)):Wp (bf U (.tup k as) Z) Q:=by rw[Bx];show uK h
theorem ss(h:Wp (cj U as Z) λp=>∃x y,p.1=[x,y]/\Wp (dZ op x y) λr=>Q (r.1,r.2,p.2)):Wp (bf U (.bin op as) Z) Q:=by
 rw[By];show uK (h.mono λp ⟨x,y,e,w⟩=>by rw[e];show w)
theorem CZ(h:Wp (cj U as Z) λp=>∃x y,p.1=[x,y]/\Wp (xE (QH x) (QH y)) λr=>Q (r.1,r.2,p.2)):Wp (bf U (.ix as) Z) Q:=by
 rw[Fc];show uK (h.mono λp ⟨x,y,e,w⟩=>by rw[e];show w)
theorem n4{cap:List (Option Nat)}(h:Wp (nP U it Z) λp=>p.1=[]/\p.2.1.length<=100000/\Wp (aG r (ib cap tg (Bv U ts) (bf U elt)) p.2.1 (aJ p.2.2 cap)) λz=>z.2.length=cap.length/\Q (.fr (.own [] r),.lst z.1,cN (jc cap) z.2 p.2.2)):Wp (bf U (.comp r cap tg it ts elt) Z) Q:=by
 obtain⟨⟨i,g,k⟩,e,d,c,⟨f,j⟩,a,b,q⟩:=h;show⟨_,?_,q⟩;rw[pF,e];unfold jd;dsimp only at d c a b⊢;rw[if_pos ⟨d,c⟩,a];dsimp only;rw[if_pos b]
theorem FI{i:Nat}(j:Z[i]?=QH (QH ⟨QL,.own es0 r0,.nd .lst ds0⟩))(h:Wp (bf U a Z) λp=>∃es r ds,p.2.2[i]?=QH (QH ⟨QL,.own es r,.nd .lst ds⟩)/\(es.length<=ds.length/\bK r (dF p.1 p.2.1,p.2.1)=QJ/\ds.length<100000)/\Q (.sh,.non,p.2.2.set i (QH ⟨QL,.own es r,.lst (ds++[p.2.1])⟩))):Wp (bf U (.mutM "append" i a) Z) Q:=by
 obtain⟨⟨c,d,b⟩,g,es,r,ds,e,f,q⟩:=h;show⟨_,?_,q⟩;rw[yn,g,j];change ij "append" i (f8 b[i]?) (QH [(dF c d,d)]) b=_;dsimp only at e f;rw[e]
 change(match jf "append" es r ds [(dF c d,d)],b[i]? with|some (d',ds'),QH (QH ⟨QL,k,_⟩)=>QH (Kd.sh,d',b.set i (QH ⟨QL,k,id (.lst ds')⟩))|_,_=>QI)=_
 have:jf "append" es r ds [(dF c d,d)]=QH (.non,ds++[d]):=if_pos f;rw[this,e];rfl
theorem uM{i:Nat}(h:Wp (aa U.fn e Z) λx=>∃es r ds,Z[i]?=QH (QH ⟨QL,.own es r,.nd .lst ds⟩)/\(es.length<=ds.length/\bK r x=QJ/\ds.length<100000)/\Q (.sh,.non,Z.set i (QH ⟨QL,.own es r,.lst (ds++[x.2])⟩))):Wp (bf U (.mut "append" (.nm i) (.cons e .nil)) Z) Q:=by
 obtain⟨x,c,es,r,ds,a,b,q⟩:=h;show⟨_,?_,q⟩;rw[j3,aW,aW,c];change ij "append" i (rP U.fn (.nm i) Z) (QH [x]) Z=_;rw[rP,a]
 change(match jf "append" es r ds [x],Z[i]? with|some (d',ds'),QH (QH ⟨QL,k,_⟩)=>QH (Kd.sh,d',Z.set i (QH ⟨QL,k,id (.lst ds')⟩))|_,_=>QI)=_
 have:jf "append" es r ds [x]=QH (.non,ds++[x.2]):=if_pos b;rw[this,a];rfl
variable {A:List RA×Ro->Prop}
theorem lj(q:A ([],Z)):Wp (e6 U .nil Z) A:=⟨_,by rw[e6],q⟩
theorem lm{i:Nat}(c:Z[i]?=QH (QH s))(h:Wp (e6 U r Z) λp=>A (.ref i::p.1,p.2)):Wp (e6 U (.ref i r) Z) A:=by
 obtain⟨⟨a,d⟩,b,q⟩:=h;show⟨_,by rw[e6,c,b];rfl,q⟩
theorem eP(h:Wp (bf U a Z) λx=>bw (dF x.1 x.2.1)=QL/\Wp (e6 U r x.2.2) λp=>A (.val (dF x.1 x.2.1) x.2.1::p.1,p.2)):Wp (e6 U (.val a r) Z) A:=by
 obtain⟨⟨e,d,j⟩,f,b,⟨g,i⟩,c,q⟩:=h;show⟨_,?_,q⟩;rw[e6,f]
 change(if bw (dF e d)=QJ then QI else _)=_
 dsimp only at b c;rw[if_neg (by rw[b];decide),c]
variable {S:List KD×Ro->Prop}
theorem di(h:Wp (bf U a Z) λx=>Wp (aW U.fn r x.2.2) λxs=>S ((x.1,x.2.1)::xs,x.2.2)):Wp (cj U (.fin a r) Z) S:=by
 obtain⟨⟨e,d,b⟩,f,xs,c,q⟩:=h;show⟨_,?_,q⟩;rw[cj,f]
 change(match aW U.fn r b with|some kds=>QH ((e,d)::kds,b)|none=>QI)=_
 dsimp only at c;rw[c]
theorem ci(h:Wp (bf U a Z) λx=>bw (dF x.1 x.2.1)=QL/\Wp (cj U r x.2.2) λp=>S ((dF x.1 x.2.1,x.2.1)::p.1,p.2)):Wp (cj U (.cons a r) Z) S:=by
 obtain⟨⟨e,d,j⟩,f,b,⟨g,i⟩,c,q⟩:=h;show⟨_,?_,q⟩;rw[cj,f]
 change(if bw (dF e d)=QJ then QI else _)=_
 dsimp only at b c;rw[if_neg (by rw[b];decide),c]
variable {T:Bool×Ro->Prop}
theorem jK(h:Wp (aK U.fn e Z) λb=>T (b,Z)):Wp (lN U (.p e) Z) T:=by
 obtain⟨x,a,q⟩:=h;show⟨_,by rw[lN,a];rfl,q⟩
variable {I:List Nat×List D×Ro->Prop}
theorem dI(h:Wp (fW U.fn it Z) λp=>I (p.1,p.2,Z)):Wp (nP U (.p it) Z) I:=by
 obtain⟨x,a,q⟩:=h;show⟨_,by rw[nP,a];rfl,q⟩
end
theorem ln{P:List Nat×List D->Prop}(h:fH i j=QJ)(q:P ([],dP i j)):Wp (rz (QH (k,.int i)) (QH (k',.int j))) P:=⟨_,if_pos h,q⟩
theorem dq{i j:Int}(h1:-100000<=i)(h2:i<=100000)(c:-100000<=j)(a:j<=100000)(b:j-i<=100000):fH i j=QJ:=by
 simp only[fH,Nr,decide_eq_true_eq]
 lia
theorem ip{i j:Int}{n:Nat}(h:(dP i j)[n]?=QH d):d=.int (i+n)/\i+n<j:=by
 unfold dP at h;rw[Nu] at h;obtain⟨m,a,rfl⟩:=bx h;let b:=(Nq.mp a).1;rw[Ox] at b;rw[Oo b] at a;cases a;show⟨rfl,by lia⟩
theorem fu{P:List Nat×List D->Prop}(h:dY k ds=QJ)(q:P (rn k,ds)):Wp (rq (QH (k,.nd .lst ds))) P:=⟨_,if_pos h,q⟩
theorem lp{P:List Nat×List D->Prop}(h:dY k ds=QJ)(q:P ([],ds)):Wp (rq (QH (k,.nd .tup ds))) P:=⟨_,if_pos h,q⟩
theorem yS{ns:List Int}{P:List Nat×List D->Prop}(q:P ([],ns.map D.int)):Wp (rq (QH (k,.scr ns))) P:=⟨_,rfl,q⟩
def Kt(U:GG)(N:Nat)(rest:bB)(pn:List Nat)(Q:Res->Prop):Res->Prop
 |.nx Z=>Wp (aD U N rest pn Z) Q
 |r=>Q r
section
variable {U:GG} {N:Nat} {pn:List Nat} {Z:Ro} {Q:Res->Prop} {rest:bB}
theorem eh(h:Wp (aD U N rest pn Z) Q):Kt U N rest pn Q (.nx Z):=h
theorem uN(h:Q (.rt k d Z)):Kt U N rest pn Q (.rt k d Z):=h
theorem a8(q:Q (.nx Z)):Wp (aD U N .nil pn Z) Q:=⟨_,by rw[aD],q⟩
theorem dQ(h:Wp (lP U N s pn Z) (Kt U N rest pn Q)):Wp (aD U N (.cons s rest) pn Z) Q:=by
 obtain⟨r,a,q⟩:=h
 cases r with
 |nx b=>obtain⟨z,c,q⟩:=q;show⟨z,by rw[aD,a];show c,q⟩
 |rt k d b=>show⟨_,by rw[aD,a];rfl,q⟩
 |ct b=>show⟨_,by rw[aD,a];rfl,q⟩
 |bk b=>show⟨_,by rw[aD,a];rfl,q⟩
theorem dJ(h:Wp (bf U a Z) λx=>(bw (dF x.1 x.2.1)=QL/\i∉pn)/\Wp (aD U N rest pn (x.2.2.set i (QH ⟨QL,GL (dF x.1 x.2.1),x.2.1⟩))) Q):Wp (aD U N (.cons (.asg i a) rest) pn Z) Q:=by
 obtain⟨⟨e,d,f⟩,c,b,w⟩:=h;show dQ ⟨.nx _,?_,eh w⟩;rw[BG,c];show if_neg (by dsimp only at b;rw[b.1];simpa using b.2)
theorem FJ{b:List Nat}(h:Wp (bf U a Z) λx=>∃ds es r,x.2.1=.nd .tup ds/\jg x.1 ds=QH (es,r)/\(b.length=ds.length/\(b.all λi=>!pn.contains i)=QJ)/\Wp (aD U N rest pn (rU b ds es r x.2.2)) Q):Wp (aD U N (.cons (.unp b a) rest) pn Z) Q:=by
 obtain⟨⟨e,d,j⟩,f,ds,es,r,c,hk,g,w⟩:=h;dsimp only at c hk;subst c;show dQ ⟨.nx _,?_,eh w⟩;rw[BH,f]
 change(match jg e ds with|some (es,r)=>if b.length=ds.length/\(b.all λi=>!pn.contains i)=QJ then QH (Res.nx (rU b ds es r j)) else QI|none=>QI)=_
 rw[hk];show if_pos g
theorem IW{i:Nat}{s:Sl}(e:Z[i]?=QH (QH s))(h:Wp (bf U a Z) λx=>i∉pn/\Wp (BC op s.d x.2.1) λz=>Wp (aD U N rest pn (x.2.2.set i (QH (GI z)))) Q):Wp (aD U N (.cons (.aug i op a) rest) pn Z) Q:=by
 obtain⟨⟨g,d,j⟩,c,f,z,b,w⟩:=h;show dQ ⟨.nx _,?_,eh w⟩;rw[BI,c,e]
 change(if i∈pn then QI else _)=_
 dsimp only at b;rw[if_neg f,b]
theorem pT{b:BP}(h:Wp (bf U a Z) λx=>Wp (rP U.fn b x.2.2) λp=>Wp (aa U.fn k x.2.2) λy=>∃es r hd ds c f,p.1=.own es r/\p.2.1=.nd hd ds/\x.2.2[b.slot]?=QH (QH ⟨QL,c,f⟩)/\Wp (nS es r hd ds y.2 (dF x.1 x.2.1,x.2.1)) λz=>Wp (aD U N rest pn (x.2.2.set b.slot (QH ⟨QL,c,p.2.2 (.nd z.1 z.2)⟩))) Q):Wp (aD U N (.cons (.put b k a) rest) pn Z) Q:=by
 obtain⟨⟨q,d,s⟩,j,⟨pk,u,t⟩,g,⟨o,n⟩,e,es,r,hd,ds,c,f,e1,e2,e3,⟨m,l⟩,i,w⟩:=h;dsimp only at e1 e2 e3 g e i;subst e1 e2;show dQ ⟨.nx _,?_,eh w⟩;rw[BJ,j];unfold yB;dsimp only;rw[g,e,e3];dsimp only;rw[i]
theorem eA(h:Wp (bf U a Z) λx=>bw (dF x.1 x.2.1)=QL/\Q (.rt (dF x.1 x.2.1) x.2.1 x.2.2)):Wp (aD U N (.cons (.ret a) rest) pn Z) Q:=by
 obtain⟨⟨e,d,f⟩,c,b,q⟩:=h;show dQ ⟨.rt _ _ _,?_,uN q⟩;rw[BK,c];show if_neg (by dsimp only at b;rw[b];decide)
theorem mF(h:Wp (bf U a Z) λx=>Wp (aD U N rest pn x.2.2) Q):Wp (aD U N (.cons (.exp a) rest) pn Z) Q:=by
 obtain⟨⟨c,d,e⟩,b,w⟩:=h;show dQ ⟨.nx _,?_,eh w⟩;rw[BM,b];rfl
theorem IX(h:Wp (lN U t Z) λp=>(p.1=QJ->Wp (aD U N a pn p.2) (Kt U N rest pn Q))/\(p.1=QL->Wp (aD U N b pn p.2) (Kt U N rest pn Q))):Wp (aD U N (.cons (.ifs t a b) rest) pn Z) Q:=by
 obtain⟨⟨r,g⟩,d,f,e⟩:=h
 cases r with
 |true=>obtain⟨x,c,q⟩:=f rfl;show dQ ⟨x,by rw[uq,d];show c,q⟩
 |false=>obtain⟨x,c,q⟩:=e rfl;show dQ ⟨x,by rw[uq,d];show c,q⟩
theorem pU{a:Ro->Option Res}(I:Nat->Ro->Prop):∀(ds:List D) (j:Nat) (Z:Ro),I j Z->(∀(i:Nat) d Z,ds[i]?=QH d->I (j+i) Z->∃ps,pc tg d=QH ps/\(ps.all λp=>!pn.contains p.1)=QJ/\Wp (a (setAll ps (clrN fg Z))) λr=>∃Z',(r=.nx Z'\/r=.ct Z')/\I (j+i+1) Z')->
  ∃Z',f9 pn fg tg a ds Z=QH (.nx (clrN fg Z'))/\I (j+ds.length) Z'
 |[],j,Z,h0,_=>⟨Z,rfl,h0⟩
 |d::ds,j,Z,h0,hs=>by
  obtain⟨ps,e1,e2,r,m,c,k,g⟩:=hs 0 d Z rfl h0
  obtain⟨h,e3,b⟩:=pU I ds (j+1) c g λi l Z' e f=>by
   have:=hs (i+1) l Z' (by simpa using e) (by rw[show j+(i+1)=j+1+i by lia];show f);rw[show j+(i+1)+1=j+1+i+1 by lia] at this;show this
  show⟨h,?_,by rw[N3,show j+(ds.length+1)=j+1+ds.length by lia];show b⟩;unfold f9;rw[e1];dsimp only;rw[if_pos e2,m];rcases k with rfl|rfl
  ·show e3
  ·show e3
theorem gf(h:Wp (nP U it Z) λp=>∃I:Nat->Ro->Prop,I 0 (clrN p.1 p.2.2)/\(∀(i:Nat) d Z,p.2.1[i]?=QH d->I i Z->∃ps,pc tg d=QH ps/\(ps.all λq=>!(pn++p.1).contains q.1)=QJ/\Wp (aD U N b (pn++p.1) (setAll ps (clrN fg Z))) λr=>∃Z',(r=.nx Z'\/r=.ct Z')/\I (i+1) Z')/\
  ∀Z',I p.2.1.length Z'->Wp (aD U N rest pn (Ab p.1 p.2.2 (clrN fg Z'))) Q):Wp (aD U N (.cons (.fo fg tg it b) rest) pn Z) Q:=by
 obtain⟨⟨a,f,c⟩,m,I,l,g,hq⟩:=h
 obtain⟨Z',e1,k⟩:=pU (pn:=pn++a) I f 0 (clrN a c) l λi d Z e j=>by
  have:=g i d Z e (by simpa using j);simpa using this
 show dQ ⟨.nx _,?_,eh (hq Z' (by simpa using k))⟩;rw[Fl,m];change yy a c (f9 (pn++a) fg tg (aD U N b (pn++a)) f (clrN a c))=_;rw[e1];rfl
end
theorem yT{f:D->Ro->Option (Option KD×Ro)}{Q:List D×Ro->Prop}{ds:List D}{Z:Ro}(I:Nat->List D->Ro->Prop)(w:I 0 [] Z)(l:∀(i:Nat) d ys Z,ds[i]?=QH d->I i ys Z->Wp (f d Z) λo=>∃a,o.1=QH a/\bK r a=QJ/\I (i+1) (ys++[a.2]) o.2)(hq:∀ys Z,I ds.length ys Z->Q (ys,Z)):Wp (aG r f ds Z) Q:=by
 let c:∀n,n<=ds.length->∃ys b,aG r f (ds.take n) Z=QH (ys,b)/\I n ys b:=by
  intro n
  induction n with
  |zero=>intro _;show⟨[],Z,by simp[aG],w⟩
  |succ n t=>
   intro x;obtain⟨ys,m,e1,u⟩:=t (by lia);let j:ds[n]?=QH ds[n]:=NC (by lia);obtain⟨⟨o,v⟩,p,a,g,s,k⟩:=l n _ ys m j u;dsimp only at g k;subst g;let q:ds.take (n+1)=ds.take n++[ds[n]]:=by rw[Pd,j];rfl
   show⟨ys++[a.2],v,?_,k⟩;rw[q];show cF e1 (by simp[aG,p,s])
 obtain⟨ys,b,e,h⟩:=c ds.length (Ny _);rw[Oh] at e;show⟨_,e,hq ys b h⟩
theorem LQ{f:D->Option (Option KD)}{Q:List D->Prop}{ds:List D}(P:Nat->D->Prop)(g:∀(i:Nat) d,ds[i]?=QH d->Wp (f d) λo=>∃a,o=QH a/\bK r a=QJ/\P i a.2)(hq:∀ys,ys.length=ds.length->(∀(i:Nat) y,ys[i]?=QH y->P i y)->Q ys):Wp (aO r f ds) Q:=by
 let b:∀(ds:List D) (j:Nat),(∀(i:Nat) d,ds[i]?=QH d->Wp (f d) λo=>∃a,o=QH a/\bK r a=QJ/\P (j+i) a.2)->∃ys,aO r f ds=QH ys/\ys.length=ds.length/\∀(i:Nat) y,ys[i]?=QH y->P (j+i) y:=by
  intro ds
  induction ds with
  |nil=>intro j _;show⟨[],rfl,rfl,λi y e=>by simp at e⟩
  |cons d ds m=>
   intro j h;obtain⟨o,k,a,rfl,l,c⟩:=h 0 d rfl
   obtain⟨ys,e1,e2,e3⟩:=m (j+1) λi n e=>by
    have:=h (i+1) n (by simpa using e);rw[show j+(i+1)=j+1+i by lia] at this;show this
   show⟨a.2::ys,by simp[aO,k,e1,l],by simp[e2],λi y e=>?_⟩
   cases i with
   |zero=>simp at e;subst e;show c
   |succ i=>
    rw[show j+(i+1)=j+1+i by lia];show e3 i y (by simpa using e)
 obtain⟨ys,e1,e2,e3⟩:=b ds 0 λi d e=>by simpa using g i d e
 show⟨ys,e1,hq ys e2 λi y e=>by simpa using e3 i y e⟩
theorem pW{b:Ro->Option Bool}{a:Ro->Option KD}{Q:Option KD->Prop}(h1:pc tg d=QH ps)(h2:bL ps Z0=QJ)(c:b (setAll ps Z0)=QH QJ)(h:Wp (a (setAll ps Z0)) λx=>Q (QH x)):Wp (dv tg b a Z0 d) Q:=by
 obtain⟨x,e,q⟩:=h;show⟨_,?_,q⟩;unfold dv;rw[h1];dsimp only;rw[if_pos h2,c];dsimp only;rw[e];rfl
theorem FK{f:Ro->Option (Bool×Ro)}{c:Ro->MR}{Q:Option KD×Ro->Prop}(h1:pc tg d=QH ps)(h2:bL ps Z0=QJ/\yf cap ps=QJ)(h:Wp (f (setAll ps Z0)) λb=>(b.1=QJ->Wp (c b.2) λx=>Q (QH (dF x.1 x.2.1,x.2.1),clr ps x.2.2))/\(b.1=QL->Q (QI,clr ps b.2))):Wp (ib cap tg f c d Z0) Q:=by
 obtain⟨⟨b,l⟩,a,i,g⟩:=h
 cases b with
 |true=>
  obtain⟨⟨k,j,m⟩,e,q⟩:=i rfl;show⟨_,?_,q⟩;unfold ib;rw[h1];dsimp only;rw[if_pos h2,a];dsimp only at e⊢;rw[e]
 |false=>
  show⟨_,?_,g rfl⟩;unfold ib;rw[h1];dsimp only;rw[if_pos h2,a]
theorem sw{b:Ro->Option (Bool×Ro)}{a:Ro->MR}{Q:Option KD×Ro->Prop}(h1:pc tg d=QH ps)(h2:bL ps Z0=QJ/\yf cap ps=QJ)(c:b (setAll ps Z0)=QH (QJ,setAll ps Z0))(h:Wp (a (setAll ps Z0)) λx=>Q (QH (dF x.1 x.2.1,x.2.1),clr ps x.2.2)):Wp (ib cap tg b a d Z0) Q:=
 FK h1 h2 ⟨_,c,λ_=>h,λe=>by cases e⟩
theorem n5{ds:List D}(a:ds.length=m)(h:Wp (aD U N body [] (k9 k (ds.map uA))) λr=>Wp (fj (QH r)) Q):Wp (bQ U N m k body ds) Q:=by
 obtain⟨r,c,z,b,q⟩:=h;show⟨z,by unfold bQ;rw[if_pos a,c];show b,q⟩
theorem BR{ks:List kX}(a:ks.length=m)(h:Wp (aD U N body pn (k9 k ks)) λr=>Wp (il m pn (QH r)) Q):Wp (la U N m k pn body ks) Q:=by
 obtain⟨r,c,z,b,q⟩:=h;show⟨z,by unfold la;rw[if_pos a,c];show b,q⟩
theorem gg{Q:KD->Prop}(a:bw kd=QL)(q:Q (kd,d)):Wp (fj (QH (.rt kd d Z))) Q:=⟨_,if_neg (by rw[a];decide),q⟩
theorem pX{Q:Kd×D×List (Option kX)->Prop}(a:bw kd=QL)(q:Q (kd,d,outs m pn Z)):Wp (il m pn (QH (.rt kd d Z))) Q:=⟨_,if_neg (by rw[a];decide),q⟩
theorem C0{Q:Kd×D×List (Option kX)->Prop}(q:Q (.sh,.non,outs m pn Z)):Wp (il m pn (QH (.nx Z))) Q:=⟨_,rfl,q⟩
theorem lq{c:Ow}{p2:D}{o:Option (Option Sl)}{es:List Ow}{r:Ow}{hd:Hd}{ds:List D}{a:Ow}{b:D}{P:List Ow->Ow->Hd->List D->Ow->D->Prop}(e1:c=.own es r)(e2:p2=.nd hd ds)(e3:o=QH (QH ⟨QL,a,b⟩))(h:P es r hd ds a b):∃es r hd ds a b,c=.own es r/\p2=.nd hd ds/\o=QH (QH ⟨QL,a,b⟩)/\P es r hd ds a b:=⟨es,r,hd,ds,a,b,e1,e2,e3,h⟩
theorem yU{Q:Ow×D×(D->D)->Prop}(h:rP U b Z=QH r)(q:Q r):Wp (rP U b Z) Q:=⟨r,h,q⟩
theorem lr{Q:Hd×List D->Prop}(h:nS es k hd ds d x=QH r)(q:Q r):Wp (nS es k hd ds d x) Q:=⟨r,h,q⟩
theorem sA{Q:KD->Prop}(h:rc k a=QH r)(q:Q r):Wp (rc k a) Q:=⟨r,h,q⟩
theorem fv{Q:KD->Prop}(h:iZ k a=QH r)(q:Q r):Wp (iZ k a) Q:=⟨r,h,q⟩
mutual
theorem uO:∀{d:D} {n:Nat},dB n d=QJ->(py d).canLay0=QJ
 |.non,_,_=>by simp[py,PyData.canLay0]
 |.bl _,_,_=>by simp[py,PyData.canLay0]
 |.int _,_,_=>by simp[py,PyData.canLay0]
 |.str x,_,h=>by simpa[py,PyData.canLay0,dB] using h
 |.scr ns,_,_=>by simpa[py,PyData.canLay0] using(jW ns).1
 |.nd .lst ds,n,h=>by
  simp only[dB,Nr] at h;simpa[py,PyData.canLay0] using ls h.2
 |.nd .tup ds,n,h=>by
  simp only[dB,Nr] at h;simpa[py,PyData.canLay0] using ls h.2
 |.nd (.dic _ _) _,n,h=>by simp[dB] at h
 |.nd (.obj _ _) _,n,h=>by simp[dB] at h
theorem ls:∀{ds:List D} {n:Nat},gX n ds=QJ->PyData.canLayAll0 (tD ds)=QJ
 |[],_,_=>by simp[tD,PyData.canLayAll0]
 |d::ds,n,h=>by
  simp only[gX,Nr] at h;simp[tD,PyData.canLayAll0,uO h.1,ls h.2]
end
theorem iq(h:dB n d=QJ):vQ d d=QJ:=by unfold vQ;show PySem.SeqAt.eqv_refl _ (uO h)
theorem ir:∀{ds:List D},(∀d∈ds,dB n d=QJ)->gX n ds=QJ
 |[],_=>rfl
 |d::ds,h=>by simp only[gX,Nr];show⟨h d NJ,ir λd a=>h d (NE _ a)⟩
noncomputable def IY:DK->Option (Int×Int)
 |.inr [.inl (.inl a),.inl (.inl b)]=>QH (a,b)
 |_=>QI
def yV:List DK->Option (List (Int×Int))
 |[]=>QH []
 |k::ks=>(IY k).bind λp=>(yV ks).map λps=>p::ps
noncomputable def hs2(p:Int×Int):Int:=reduceHash (Builtin.Tuple.tupleHashOf [hashInt p.1,hashInt p.2])
def pY(ks:List DK):Bool:=match yV ks with
 |some ps=>decide (ps.map hs2).Nodup
 |none=>QL
def pZ(a:Option KD):Option KD:=match a with
 |some (k,.nd (.dic (m+1) ks) ds)=>if dY k ds=QJ/\pY ks=QJ/\ds.length<=100000 then QH (.fr (.own [] .fz),.nd (.dic (m+1) ks) ds) else QI
 |_=>QI
noncomputable def J7(p q:Int×Int):Bool:=decide (p.1<q.1)||(decide (p.1=q.1)&&decide (p.2<q.2))
def pD(p:Int×Int):D:=.tup [.int p.1,.int p.2]
noncomputable def mG(p:Int×Int):Int:=p.1*2^40+p.2
noncomputable def gG(p:Int×Int):Bool:=decide (0<=p.2)&&decide (p.2<2^40)
def eT(p q:Int×Int):Bool:=decide (mG p<=mG q)
def p4(ps:List (Int×Int)):Option (List (Int×Int)):=if ps.length<64/\ps.Nodup/\ps.all gG=QJ then QH (ps.mergeSort eT) else QI
def wc(a:Option KD):Option KD:=match a with
 |some (_,.nd (.dic (m+1) ks) _)=>(yV ks).bind λps=>(p4 ps).map λr=>(.fr (.own [] .fz),.lst (r.map pD))
 |_=>QI
def LR(a:Option KD):Option KD:=match a with
 |some (k,.nd (.dic 0 _) ds)=>if dY k ds=QJ/\ds.length<=100000 then QH (.fr (.own [] .fz),.lst ds) else QI
 |_=>QI
noncomputable def FL(i:Nat)(Z:Ro):IR:=match Z[i]? with
 |some (QH ⟨QL,.own [] .fz,.nd (.dic 0 []) []⟩)=>QH ([],[],Z.set i QI)
 |_=>QI
noncomputable def wJ(a:Option KD)(Z:Ro):MR:=a.map λp=>(p.1,p.2,Z)
def lu(f:Ro->Option Res)(m k:Nat)(pn:List Nat)(ks:List kX):Option (Kd×D×List (Option kX)):=if ks.length=m then il m pn (f (k9 k ks)) else QI
noncomputable def bh:bB->Nat->bB
 |.cons s r,n+1=>.cons s (bh r n)
 |_,_=>.nil
noncomputable def bj:bB->Nat->bB
 |b,0=>b
 |.cons _ r,n+1=>bj r n
 |.nil,_+1=>.nil
end J
namespace L2
open PyProof.Rows
section
variable {prog:QT} {w:QW} {A:QX} {E:QK->QP->Prop} {s:QP}
theorem p5{y:Int}:∀{l:List DictEntry},(l.map (·.hash)).Nodup->(l.filter λx=>x.hash==y).length<=1
 |[],_=>by simp
 |a::l,hn=>by
  rw[NS,NU] at hn;rw[List.filter_cons];split
  ·ext c;let c:=eq_of_beq c
   have:l.filter (λx=>x.hash==y)=[]:=by
    rw[Pf];intro b d z;show hn.1 (NR.mpr ⟨b,d,(eq_of_beq z).trans c.symm⟩)
   rw[this];simp
  ·show p5 hn.2
theorem p6{id:String}{o:Obj}{es:Array DictEntry}{Q:Array DictEntry->QP->Prop}(l:s.heap.get? d=QH o)(hd:o.data=.dict es ep)(hk:∀e∈es.toList,∃b,e.key=.ref b/\s.TypeIs (.ref b) "tuple")(j:(es.toList.map (·.hash)).Nodup)(h:Q es s) :
  QR (QS prog w) A (Builtin.Dict.entriesForEmpty id d) Q E s:=by
 unfold Builtin.Dict.entriesForEmpty;show QM (wpAny_dictEntries l hd ?_);show QM (show QR _ _ (forIn es PUnit.unit _) _ _ s from ?_);rw[<- Pw];show wpAny_forIn_list _ (λrest _ z=>z=s/\∀e∈rest,e∈es.toList) _ (λe rest _ z a=>?_) (λ_ z a=>?_) _ _ ⟨rfl,λe c=>c⟩
 ·obtain⟨rfl,f⟩:=a;let c:=f e NJ;obtain⟨b,n,i⟩:=hk e c
  let m:¬(es.filter λx=>x.hash==e.hash).size > 1:=by
   let e1:(es.filter λx=>x.hash==e.hash).size=(es.toList.filter λx=>x.hash==e.hash).length:=by
    rw[<- OS,Array.toList_filter]
   rw[e1];have:=p5 (y:=e.hash) j
   lia
  show QM ?_;rw[n];show wpAny_mono (Q:=λq g=>q=QL/\g=z) ?_ (λq g hq=>?_) (λ_ _ x=>x)
  ·show QM (wpAny_specialOf i F.slot_tuple_eq.lookup (QQ ⟨by decide,rfl⟩))
  ·obtain⟨rfl,rfl⟩:=hq;simp only[Bool.not_false,if_true];rw[if_neg m];show QQ ⟨rfl,λu k=>f u (NE _ k)⟩
 ·obtain⟨rfl,_⟩:=a;show QQ h
theorem we{nm:String}{k j:Obj}{es:Array DictEntry}{Q:Unit->QP->Prop}(g:d≠o)(i:(o==sysModules)=QL)(hd:s.heap.get? d=QH k)(c:k.data=.dict #[] epd)(f:s.heap.get? o=QH j)(a:j.data=.dict es ep)(hk:∀e∈es.toList,∃b,e.key=.ref b/\s.TypeIs (.ref b) "tuple")(m:(es.toList.map (·.hash)).Nodup)(hz:es.size<=sizeLine)(n:es=#[]->Q () s)(h1:Q () { s with heap:=s.heap.update d (Obj.mapDictKeys λ_=>es) }) :
  QR (QS prog w) A (Builtin.Dict.mergeDict nm d o) Q E s:=by
 unfold Builtin.Dict.mergeDict;rw[if_neg (by simpa using g)];unfold Builtin.Dict.showsAll;rw[if_neg (by rw[i];show NV)];show QM (QQ ?_);show QM (wpAny_dictEntries f a ?_);by_cases h:es=#[]
 ·subst h;let e1:(!(decide ((#[]:Array DictEntry).size<=8)&&(#[]:Array DictEntry).all λe=>(keyPart e.key).isSome))=QL:=by simp
  dsimp only;rw[e1,if_neg NV];show QM (wpAny_dictEpoch f a ?_);show QM (wpAny_dictEntries f a ?_);show QM ?_;rw[Std.Legacy.Range.forIn_eq_forIn_range'];show QQ (QQ (n rfl))
 ·let e1:(!(decide (es.size<=8)&&es.all λe=>(keyPart e.key).isSome))=QJ:=by
   rw[OK,Bool.and_eq_false_iff];right
   let l:0<es.toList.length:=by
    rcases Nat.eq_zero_or_pos es.toList.length with q|q
    ·show absurd (Qz.mp (OT.mp q)) h
    ·show q
   obtain⟨b,p,_⟩:=hk es.toList[0] (PU l);rw[<- Array.all_toList,Qs];show⟨es.toList[0],PU l,by rw[p];show NV⟩
  dsimp only;rw[if_pos e1];show QM (wpAny_dictEntries hd c ?_);rw[if_pos (by rfl)];show QM (p6 f a hk m ?_);rw[if_pos (by simpa using h)];show QM (wpAny_updateDictKeysTo hd c (QQ h1) (PP hz))
theorem yW{i:Obj}{es:Array DictEntry}{Q:QK->QP->Prop}(l:(o==sysModules)=QL)(r:s.heap.get? o=QH i)(m:i.ExactDict)(p:i.data=.dict es ep)(hk:∀e∈es.toList,∃b,e.key=.ref b/\s.TypeIs (.ref b) "tuple")(v:(es.toList.map (·.hash)).Nodup)(hz:es.size<=sizeLine)(h:∀h' n,(∀b q,s.heap.get? b=QH q->h'.get? b=QH q)->h'.get? s.heap.objs.size=QH { cls:=.type "dict",data:=.dict es n }->Q (.ref s.heap.objs.size) { s with heap:=h' }) :
  QR (QS prog w) A (call (.type "dict") [.ref o]) Q E s:=by
 show callType_codes (Q₁:=λf t=>f=.ref s.heap.objs.size/\t={ s with heap:=s.heap.push { cls:=.type "dict",data:=.dict #[] } }) F.kt_called_dict (F.kt_typeCall_dict_1 _) F.entry_dict_init (kt_code_dict_new _ ⟨rfl,rfl⟩) ?_
 rintro f t ⟨rfl,rfl⟩
 let x:o<s.heap.objs.size:=NA r;let a:(s.heap.push { cls:=.type "dict",data:=.dict #[] }).get? s.heap.objs.size=QH { cls:=.type "dict",data:=.dict #[] }:=NI _ rfl;let d:(Shared.mk (s.heap.push { cls:=.type "dict",data:=.dict #[] }) s.gens s.drawn s.toks s.os).TypeIs (.ref s.heap.objs.size) "dict":=⟨_,a,rfl⟩;let g:(s.heap.push { cls:=.type "dict",data:=.dict #[] }).get? o=QH i:=Nw _ r;let c:(Shared.mk (s.heap.push { cls:=.type "dict",data:=.dict #[] }) s.gens s.drawn s.toks s.os).TypeIs (.ref o) "dict":=⟨_,g,m.1⟩;show⟨d,F.args_dict_init_2 _ _,?_⟩;unfold Builtin.«dict.__init__»;show QM ?_;unfold Builtin.Dict.selfAndRest;show QM (wpAny_notOrdered_dict d ?_);change QR _ _ (pure (s.heap.objs.size,[Value.ref o])) _ _ _;show QQ ?_;change QR _ _ (Builtin.Dict.updateFrom "dict.__init__" s.heap.objs.size (.ref o) [] .none) _ _ _;unfold Builtin.Dict.updateFrom;show QM (wpAny_typeOf c ?_);rw[if_neg (by decide)];show QM ?_;unfold Builtin.Dict.merge;show QM ?_;unfold Builtin.Dict.readDirectly;show QM (wpAny_isInstance c isSubtype_dict_dict ?_);simp only[O1,Oe,if_false];show QM (wpAny_specialOf c F.slot_dict_iter.lookup (QQ ?_));simp only[beq_self_eq_true,if_true];show QM (QQ ?_);let j:∀b q,b≠s.heap.objs.size->s.heap.get? b=QH q->((s.heap.push { cls:=.type "dict",data:=.dict #[] }).update s.heap.objs.size (Obj.mapDictKeys λ_=>es)).get? b=QH q:=λb q y e=>(OV _ _ (Ne.symm y)).trans (Nw _ e);show we (OF x) l a rfl g p (λe k=>?_) v hz (λk=>?_) ?_
 ·obtain⟨b,z,u,e1,e2⟩:=hk e k;show⟨b,z,u,Nw _ e1,e2⟩
 ·subst k;show QM (QQ (QQ ⟨rfl,h _ 0 (λb q e=>Nw _ e) a⟩))
 ·have:=Pi (Obj.mapDictKeys λ_=>es) a rfl;show QM (QQ (QQ ⟨rfl,h _ 1 (λb q e=>j b q (NL (NA e)) e) this⟩))
end
section
variable {X:Cx}
def LS(X:Cx)(ta:TA):TE:=λY H Q=>ta Y H λvs H1=>∃a m ep q,vs=[.ref a]/\H1 a=QH (.dT m ep q)/\(q.map λp=>(bH m (aH X.prog X.w)).hash p.1).Nodup/\∀p n,H1 p=QI->Q (.ref p) (upd H1 p (.dT m n q))
theorem FM{a:QN}(R:Gl X "dict")(hm:X.mg "dict" = QI)(S:PA X [a] ta)(hs:QU [a] X.env=[(QL,eval a X.env)]):PE X (.Call (.Name "dict" p) [a] [] pos) (LS X ta):=by
 intro j s Y H Q I h;show Call_ (dM I R hm boot_dict (PyProof.Rows.callWith_type1 (aV (S pos j s Y H _ I h) λus s1 ⟨vs,V,f,r1,v,m,W,d,e,hq,C,q⟩=>?_) hs rfl));subst e;obtain⟨u,rfl,U⟩:=r1.one;cases(show u=Value.ref v from U);let r:=xm f.hok hq;obtain⟨P,xs,o,l,g,E,Z,L,k⟩:=xl f.hok hq;let F:l.size=d.length:=by rw[size_of_entries k,Paired.length g]
 let hk:∀e∈l.toList,∃b,e.key=.ref b/\s1.TypeIs (.ref b) "tuple":=λe D=>by
  rw[k] at D;obtain⟨x,hx,rfl⟩:=NR.mp D;obtain⟨i,hi,rfl⟩:=Qe.mp hx;obtain⟨p,_,e1,e2,_⟩:=Paired.get g (NC hi);show⟨_,rfl,IsDeep.ty (eE f.hok e2)⟩
 let hh:(l.toList.map (·.hash)).Nodup:=by
  rw[k,NN]
  have:(xs.map ((λx=>x.hash)∘entryOfKey (bH m (aH X.prog X.w))))=d.map λp=>(bH m (aH X.prog X.w)).hash p.1:=by
   clear C k F hk r hq q
   induction g with
   |nil=>rfl
   |cons h t ih=>rw[NS,NS,ih,h.1];rfl
  rw[this];show C
 show yW P E Z L hk hh (by rw[F];show r.1) λh' n k1 T=>?_;show⟨.ref s1.heap.objs.size,_,f.laid (t':=s1.toks) (a:=s1.heap.objs.size) (o:=.dT m n d) k1 (Ny _) ?_,rfl,q _ n (f.hok.fresh (Ny _))⟩;obtain⟨_,y,A,r',o',hb,K,g2,M,N,O⟩:=(show ObjOk X.prog X.w V s1.heap v (.dT m W d) from f.hok v _ hq);rw[E] at K;cases K;rw[L] at M;cases M
 show⟨r.1,beq_eq_false_iff_ne.mpr (Ne.symm (NL f.big)),A,KT.keeps r' λc ys B=>(by
  rw[ae (λz=>by rw[z,f.hok.fresh (Ny _)] at B;cases B)];show B),_,l,T,⟨rfl,rfl,rfl⟩,rfl,N,O⟩
end
end L2
namespace Sr
open PySem PySem.Spec PySem.W PyProof.Rows
noncomputable def FN{α:Type}(q:Nat->Nat->Bool):KasT α->α
 |.ret a=>a
 |.ask i j k=>FN q (k (q i j))
noncomputable def yX{α:Type}(P q:Nat->Nat->Bool):KasT α->Bool
 |.ret _=>QJ
 |.ask i j k=>P i j&&yX P q (k (q i j))
theorem uP{α:Type}{b:Nat->Nat->(Bool->QP->Prop)->QP->Prop}{P a:Nat->Nat->Bool}{Q:α->QP->Prop}{s:QP}(c:∀i j C,P i j=QJ->C (a i j) s->b i j C s):∀t:KasT α,yX P a t=QJ->Q (FN a t) s->t.kasWp b Q s
 |.ret _,_,q=>q
 |.ask i j k,h,q=>by
  let h:(P i j&&yX P a (k (a i j)))=QJ:=h;rw[Nr] at h;show c i j _ h.1 (uP c (k (a i j)) h.2 q)
section
variable (K:Nat->Int) (n:Nat)
noncomputable abbrev FO(i j:Nat):Bool:=decide (i<n)&&decide (j<n)
noncomputable abbrev J8(i j:Nat):Bool:=decide (K i<K j)
def Kv{α:Type}(t:KasT α)(Q:α->Prop):Prop:=yX (FO n) (J8 K) t=QJ/\Q (FN (J8 K) t)
variable {K n}
theorem Kv.ret{α:Type}{a:α}{Q:α->Prop}(q:Q a):Kv K n (.ret a) Q:=⟨rfl,q⟩
theorem Kv.ask{α:Type}{i j:Nat}{k:Bool->KasT α}{Q:α->Prop}(hi:i<n)(a:j<n)(h:Kv K n (k (decide (K i<K j))) Q):Kv K n (.ask i j k) Q:=
 ⟨by change(FO n i j&&_)=QJ;rw[show FO n i j=QJ by simp[hi,a]];show h.1,h.2⟩
theorem Kv.bind{α β:Type}{t:KasT α}{f:α->KasT β}{Q:β->Prop}(h:Kv K n t λa=>Kv K n (f a) Q):Kv K n (t.bind f) Q:=by
 induction t with
 |ret a=>show h.2
 |ask i j k d=>
  obtain⟨b,c⟩:=h;let b:(FO n i j&&yX (FO n) (J8 K) (k (J8 K i j)))=QJ:=b;rw[Nr] at b;obtain⟨g,e⟩:=d _ ⟨b.2,c⟩;show⟨by change(FO n i j&&_)=QJ;rw[b.1];show g,e⟩
theorem Kv.mono{α:Type}{t:KasT α}{Q R:α->Prop}(h:Kv K n t Q)(k:∀a,Q a->R a):Kv K n t R:=⟨h.1,k _ h.2⟩
noncomputable abbrev gA(p:Array Nat)(i:Nat):Nat:=p.getD i 0
structure KG(n:Nat)(p:Array Nat):Prop where
 perm:p.Perm (List.toArray (NP n))
theorem KG.size{p:Array Nat}(h:KG n p):p.size=n:=by rw[h.perm.size_eq];simp
theorem yY{p:Array Nat}{i:Nat}(h:i<p.size):p[i]?=QH (gA p i):=by unfold gA;simp[Array.getD,h]
theorem KG.lt(h:KG n p){i:Nat}(hi:i<n):gA p i<n:=by
 have:gA p i∈p.toList:=by rw[Qc];show Array.mem_of_getElem? (yY (by rw[h.size];show hi))
 have:=(O2.mp h.perm).mem_iff.mp this;simpa using this
theorem KG.inj(h:KG n p){i j:Nat}(hi:i<n)(a:j<n)(e:gA p i=gA p j):i=j:=by
 let b:p.toList.Nodup:=(O2.mp h.perm).nodup_iff.mpr PV;let e1:=yY (p:=p) (i:=i) (by rw[h.size];show hi);let e2:=yY (p:=p) (i:=j) (by rw[h.size];show a);rw[<- OA] at e1 e2;rw[e] at e1;show(Qt (Nq.mp e1).1 b).mp (e1.trans e2.symm)
theorem KG.mir(h:KG n p)(i j:Nat):KG n (kas_rev p i j):=⟨(mirror_perm _ _ _ _).trans h.perm⟩
theorem KG.bub(h:KG n p)(i j:Nat):KG n (bubble p i j):=⟨(bubble_perm _ _ _).trans h.perm⟩
theorem fw{p q:Array Nat}{i j:Nat}(h:p[i]?=q[j]?):gA p i=gA q j:=by unfold gA;rw[PB,PB,h]
theorem FQ{p:Array Nat}{j:Nat}(a:j<=p.size)(k:Nat):gA (kas_rev p 0 j) k=if k<j then gA p (j-1-k) else gA p k:=by
 let e:=getElem?_mirror_all (i:=0) a k;by_cases h:k<j
 ·rw[if_pos ⟨NZ _,h⟩,Qk] at e;rw[if_pos h];show fw e
 ·rw[if_neg (λz=>h z.2)] at e;rw[if_neg h];show fw e
variable (hK:∀i j,i<n->j<n->K i=K j->i=j)
abbrev C4(K:Nat->Int)(p:Array Nat)(m:Nat):Prop:=∀i j,i<j->j<m->K (gA p i)<K (gA p j)
abbrev MK(K:Nat->Int)(p:Array Nat)(m:Nat):Prop:=∀i j,i<j->j<m->K (gA p j)<K (gA p i)
include hK
theorem KG.ne(h:KG n p){i j:Nat}(hi:i<n)(a:j<n)(b:i≠j):K (gA p i)≠K (gA p j):=λe=>b (h.inj hi a (hK _ _ (h.lt hi) (h.lt a) e))
theorem yZ(g:KG n p):∀(f m:Nat),1<=m->m+f=n->C4 K p m->Kv K n (kas_asc p f m) λr=>m<=r/\r<=n/\C4 K p r/\(r<n->K (gA p r)<K (gA p (r-1)))
 |0,m,h1,h2,h=>.ret ⟨Ny _,by lia,h,λz=>by lia⟩
 |f+1,m,h1,h2,h=>by
  show .ask (g.lt (by lia)) (g.lt (by lia)) ?_;by_cases c:K (p.getD m 0)<K (p.getD (m-1) 0)
  ·rw[decide_eq_true c];show .ret ⟨Ny _,by lia,h,λ_=>c⟩
  ·rw[decide_eq_false c];let b:=g.ne hK (i:=m) (j:=m-1) (by lia) (by lia) (by lia);show(yZ g f (m+1) (by lia) (by lia) λi j a k=>?_).mono λr d=>⟨by lia,d.2⟩;by_cases e:j=m
   ·subst e;have:K (gA p (j-1))<K (gA p j):=by change K (p.getD (j-1) 0)<K (p.getD j 0);have:K (p.getD j 0)≠K (p.getD (j-1) 0):=b;lia
    by_cases e2:i=j-1
    ·rw[e2];show this
    ·show PX (h i (j-1) (by lia) (by lia)) this
   ·show h i j a (by lia)
theorem y3(g:KG n p):∀(f m:Nat),1<=m->m+f=n->MK K p m->Kv K n (kas_desc f p m 0) λr=>r.1=p/\r.2.2=0/\m<=r.2.1/\r.2.1<=n/\MK K p r.2.1
 |0,m,h1,h2,h=>.ret ⟨rfl,rfl,Ny _,by change m<=n;lia,h⟩
 |f+1,m,h1,h2,h=>by
  show .ask (g.lt (by lia)) (g.lt (by lia)) ?_;let d:K (p.getD m 0)≠K (p.getD (m-1) 0):=g.ne hK (i:=m) (j:=m-1) (by lia) (by lia) (by lia);by_cases c:K (p.getD m 0)<K (p.getD (m-1) 0)
  ·rw[decide_eq_true c];show(y3 g f (m+1) (by lia) (by lia) λi j b k=>?_).mono λr a=>⟨a.1,a.2.1,by lia,a.2.2.2⟩;by_cases e:j=m
   ·subst e;by_cases e2:i=j-1
    ·rw[e2];show c
    ·show PX c (h i (j-1) (by lia) (by lia))
   ·show h i j b (by lia)
  ·rw[decide_eq_false c];show .ask (g.lt (by lia)) (g.lt (by lia)) ?_;rw[decide_eq_true (show K (p.getD (m-1) 0)<K (p.getD m 0) by lia)];show .ret ⟨rfl,rfl,Ny _,by change m<=n;lia,h⟩
theorem BS(h1:2<=n)(g:KG n p):Kv K n (kas_count n p) λr=>1<=r.1/\r.1<=n/\KG n r.2/\C4 K r.2 r.1:=by
 show .bind ((yZ hK g (n-1) 1 (Ny _) (by lia) λi j f b=>by lia).mono λm a=>?_);by_cases e:m=n
 ·rw[if_pos (by rw[e];show beq_self_eq_true n)];show .ret ⟨a.1,a.2.1,g,a.2.2.1⟩
 ·rw[if_neg (by simpa using e)];by_cases c:m > 1
  ·rw[if_pos c];show .ask (g.lt (by lia)) (g.lt (by lia)) ?_;rw[decide_eq_true (a.2.2.1 0 (m-1) (by lia) (by lia))];show .ret ⟨a.1,a.2.1,g,a.2.2.1⟩
  ·rw[if_neg c];obtain rfl:m=1:=by lia
   show .bind ?_;let c:K (p.getD 1 0)<K (p.getD 0 0):=a.2.2.2 (by lia);show(y3 hK g (n-2) 2 (by lia) (by lia) λi j f b=>?_).mono λr l=>?_
   ·obtain rfl:i=0:=by lia
    obtain rfl:j=1:=by lia
    show c
   ·obtain⟨rfl,q,s,o,h⟩:=l;rw[if_neg (by lia)];show .bind ?_
    let d:∀k,gA (kas_rev r.1 0 r.2.1) k=if k<r.2.1 then gA r.1 (r.2.1-1-k) else gA r.1 k:=FQ (by rw[g.size];show o)
    show(yZ hK (g.mir 0 r.2.1) (n-r.2.1) r.2.1 (by lia) (by lia) λi j f b=>?_).mono λm a=>.ret ⟨by change 1<=m;lia,a.2.1,g.mir 0 r.2.1,a.2.2.1⟩;rw[d,d,if_pos (by lia),if_pos b];show h _ _ (by lia) (by lia)
theorem n6(g:KG n p){k:Nat}(hk:k<n):∀(f l r:Nat),l<=r->r<=k->r-l<=f->(∀i,i<l->K (gA p i)<K (gA p k))->(∀i,r<=i->i<k->K (gA p k)<K (gA p i))->C4 K p k->Kv K n (kas_place p k f l r) λm=>m<=k/\(∀i,i<m->K (gA p i)<K (gA p k))/\∀i,m<=i->i<k->K (gA p k)<K (gA p i)
 |0,l,r,h1,h2,h3,h4,h5,h6=>by
  obtain rfl:l=r:=by lia
  show .ret ⟨h2,h4,h5⟩
 |f+1,l,r,h1,h2,h3,h4,h5,h6=>by
  unfold kas_place;by_cases e:l ≥ r
  ·rw[if_pos e];obtain rfl:l=r:=by lia
   show .ret ⟨h2,h4,h5⟩
  ·rw[if_neg e];show .ask (g.lt hk) (g.lt (by lia)) ?_;by_cases c:K (p.getD k 0)<K (p.getD ((l+r) / 2) 0)
   ·rw[decide_eq_true c];show n6 g hk f l ((l+r) / 2) (by lia) (by lia) (by lia) h4 (λi d a=>?_) h6;by_cases e2:i=(l+r) / 2
    ·rw[e2];show c
    ·show PX c (h6 _ i (by lia) a)
   ·rw[decide_eq_false c];let h:K (p.getD k 0)≠K (p.getD ((l+r) / 2) 0):=g.ne hK hk (by lia) (by lia);let b:K (gA p ((l+r) / 2))<K (gA p k):=by change K (p.getD ((l+r) / 2) 0)<K (p.getD k 0);lia
    show n6 g hk f ((l+r) / 2+1) r (by lia) h2 (by lia) (λi d=>?_) h5 h6;by_cases e2:i=(l+r) / 2
    ·rw[e2];show b
    ·show PX (h6 i _ (by lia) (by lia)) b
theorem C5:∀(f:Nat) {p:Array Nat} (k:Nat),KG n p->k+f=n->C4 K p k->Kv K n (kas_bin f p k) λq=>KG n q/\C4 K q n
 |0,p,k,g,h1,h=>by
  obtain rfl:k=n:=by lia
  show .ret ⟨g,h⟩
 |f+1,p,k,g,h1,h=>by
  show .bind ((n6 hK g (k:=k) (by lia) k 0 k (NZ _) (Ny _) (by lia) (λi c=>by lia) (λi c s=>by lia) h).mono λl t=>?_);obtain⟨v,r,u⟩:=t
  let o:∀i,gA (bubble p k (k-l)) i=if i=l then gA p k else if l<i/\i<=k then gA p (i-1) else gA p i:=λi=>by
   let e:=getElem?_bubble (xs:=p) (src:=k) (by rw[g.size];lia) (k-l) (by lia) i;rw[show k-(k-l)=l by lia] at e;by_cases b:i=l
   ·rw[if_pos b] at e⊢;show fw e
   ·rw[if_neg b] at e⊢;by_cases a:l<i/\i<=k
    ·rw[if_pos a] at e⊢;show fw e
    ·rw[if_neg a] at e⊢;show fw e
  show C5 f (k+1) (g.bub _ _) (by lia) λi j c w=>?_;rw[o,o];by_cases d:i=l
  ·rw[if_pos d,if_neg (by lia),if_pos (by lia)];show u _ (by lia) (by lia)
  ·rw[if_neg d];by_cases m:j=l
   ·rw[if_pos m,if_neg (by lia)];show r _ (by lia)
   ·rw[if_neg m];by_cases b:l<i/\i<=k
    ·rw[if_pos b,if_pos (by lia)];show h _ _ (by lia) (by lia)
    ·rw[if_neg b];by_cases a:l<j/\j<=k
     ·rw[if_pos a];show h _ _ (by lia) (by lia)
     ·rw[if_neg a];show h _ _ c (by lia)
theorem FR(h2:2<=n):Kv K n (kas_sort n) λq=>KG n q/\C4 K q n:=by
 show .bind ((BS hK h2 (p:=List.toArray (NP n)) ⟨Array.Perm.refl _⟩).mono λr d=>?_);obtain⟨c,f,a,b⟩:=d;by_cases e:r.1<n
 ·rw[if_pos e,Nat.max_eq_left c];show C5 hK _ _ a (by lia) b
 ·rw[if_neg e];have:n=r.1:=by lia
  show .ret ⟨a,by rw[this];show b⟩
end
end Sr
namespace L2
open PySem PySem.Spec PySem.W PyProof.Rows
open J (mG gG eT p4)
def dr(h:QY)(v:QK)(p:Int×Int):Prop:=∃b o t u n,v=.ref b/\h.get? b=QH o/\o.cls=.type "tuple"/\o.data=.seq #[.int p.1 t,.int p.2 u] n
theorem j9{p:Int×Int}(h:gG p=QJ):0<=p.2/\p.2<1099511627776:=by
 simp only[gG,Nr,decide_eq_true_eq] at h;show⟨h.1,by have:=h.2;lia⟩
theorem FS{p q:Int×Int}(a:gG p=QJ)(hq:gG q=QJ):J.J7 p q=decide (mG p<mG q):=by
 let c:=j9 a;let b:=j9 hq;unfold J.J7 mG;rw[O6];simp only[Op,Nr,decide_eq_true_eq]
 lia
theorem uQ(a:gG p=QJ)(hq:gG q=QJ)(e:mG p=mG q):p=q:=by
 let c:=j9 a;let b:=j9 hq;unfold mG at e;show Prod.ext (by lia) (by lia)
theorem y4(ps:List (Int×Int)):(ps.mergeSort eT).Pairwise λa b=>eT a b=QJ:=
 List.pairwise_mergeSort (λa b c e d=>by unfold eT at e d⊢;simp only[decide_eq_true_eq] at e d⊢;lia) (λa b=>by unfold eT;simp only[Op,decide_eq_true_eq];lia) ps
def y6(ps:List (Int×Int))(q:List Nat):Prop:=q.Perm (NP ps.length)/\ps.mergeSort eT=q.map λi=>ps.getD i (0,0)
theorem iu{α:Type}(l:List α)(d:α):(NP l.length).map (λi=>l.getD i d)=l:=by
 show OL λi=>?_;rw[Nu];by_cases h:i<l.length
 ·rw[Oo h];simp[h]
 ·rw[N6 (by simpa using h),N6 (by lia)];rfl
theorem IZ{ps:List (Int×Int)}{p:Array Nat}(r:ps.all gG=QJ)(g:Sr.KG ps.length p)(h:Sr.C4 (λi=>mG (ps.getD i (0,0))) p ps.length):y6 ps p.toList:=by
 let d:p.toList.Perm (NP ps.length):=O2.mp g.perm;show⟨d,List.Perm.eq_of_pairwise (le:=λa b=>eT a b=QJ) (λa b l f o n=>?_) (y4 ps) ?_ ((O4 _ _).trans ?_)⟩
 ·let l:=N5.mp r a ((O4 _ _).mem_iff.mp l)
  let c:b∈ps:=by
   have:=(d.map λi=>ps.getD i (0,0)).mem_iff.mp f;rw[iu] at this;show this
  let c:=N5.mp r b c;unfold eT at o n;simp only[decide_eq_true_eq] at o n;show uQ l c (by lia)
 ·rw[List.pairwise_iff_getElem];intro i j s q m;rw[Nt,OS,g.size] at s q;rw[QA,QA];have:=h i j m q
  let e:∀k (hk:k<p.toList.length),p.toList[k]=p.getD k 0:=λk hk=>by
   let hk:k<p.size:=by simpa using hk
   simp[Array.getD,hk]
  rw[e,e];unfold eT;show decide_eq_true (Int.le_of_lt this)
 ·have:=(d.map λi=>ps.getD i (0,0)).symm;rw[iu] at this;show this
section
variable {prog:QT} {w:QW} {A:QX} {E:QK->QP->Prop} {s:QP}
theorem FT{C:Bool->QP->Prop}(d:dr s.heap x p)(i:dr s.heap y q)(h:C (J.J7 p q) s):QR (QS prog w) A (keyLt' (tuples' QJ) x y) C E s:=by
 obtain⟨b,o,t,u,n,rfl,a,z,j⟩:=d;obtain⟨b2,k,l,v,m,rfl,c,r,f⟩:=i;show kat_lt a j c f ?_;show kat_cons (wpAny_eqBool_int ?_);unfold J.J7 at h;by_cases e:p.1=q.1
 ·rw[show(p.1==q.1)=QJ from beq_iff_eq.mpr e];show kat_yes (kat_cons (wpAny_eqBool_int ?_));let g:decide (p.1<q.1)=QL:=decide_eq_false (by lia);rw[g,decide_eq_true e,Bool.false_or,PK] at h;by_cases e2:p.2=q.2
  ·rw[show(p.2==q.2)=QJ from beq_iff_eq.mpr e2];show kat_yes (kat_nil ?_);rw[decide_eq_false (show ¬p.2<q.2 by lia)] at h;show h
  ·rw[show(p.2==q.2)=QL from beq_eq_false_iff_ne.mpr e2];show kat_no (kat_one _ _ (lt_int h))
 ·rw[show(p.1==q.1)=QL from beq_eq_false_iff_ne.mpr e];rw[decide_eq_false e,Bool.false_and,Bool.or_false] at h;show kat_no (oneLt_int h)
theorem p7:∀{vs:List QK} {ps:List (Int×Int)},Paired (dr h) vs ps->∃fs,KatTups h vs fs/\fs.length=vs.length/\∀v∈fs,∃i t,v=.int i t
 |_,_,.nil=>⟨[],.nil,rfl,λ_ h=>nomatch h⟩
 |_,_,.cons hx a=>by
  obtain⟨b,o,t,u,n,rfl,c,d,g⟩:=hx;obtain⟨fs,k,l,f⟩:=p7 a;show⟨_::fs,.cons c d g rfl k,by rw[N3,N3,l],λv a=>(NB.mp a).elim (λe=>⟨_,_,e⟩) (f v)⟩
theorem sB{vs:List QK}{ps:List (Int×Int)}{P:Fin->QP->Prop}(H:s.heap.get? a=QH (seqObj "list" vs.toArray n))(M:Paired (dr s.heap) vs ps)(hc:ps.length<64)(nd:ps.Nodup)(O:ps.all gG=QJ)(h:∀q,y6 ps q->P (.done (.ret .none)) { s with heap:=sortedHeap s.heap a vs (q.map λi=>vs.getD i Value.none).toArray }) :
  QR (QS prog w) A (Builtin.«list.sort» ⟨[.ref a],[]⟩) P E s:=by
 let c:vs.length=ps.length:=Paired.length M;rw[list_sort_plain];let V:a<s.heap.objs.size:=NA H;show QM (listItems_at H rfl ?_);show QM (listUpdate_at H rfl ?_);obtain⟨e1,D⟩:∃e1,(s.heap.update a (Obj.mapSeq λ_=>#[])).get? a=QH (seqObj "list" #[] e1):=⟨_,get?_update_seq H (λ_=>#[])⟩;show QM (seqEpoch_at D rfl ?_);show QM (wpAny_newTuple ?_ (by change vs.length<=_;rw[sizeLine_eq];lia));show QM (wpAny_newList ?_);show Q7 ?_
 let l:(((s.heap.update a (Obj.mapSeq λ_=>#[])).push (seqObj "tuple" vs.toArray 0)).push (seqObj "list" #[] 0)).get? a=QH (seqObj "list" #[] e1):=by
  rw[Qu _ _ _ (by rw[size_push',QB];show NL (OW V)),Qu _ _ _ (by rw[QB];show NL V)];show D
 let R:∀{b o},b≠a->s.heap.get? b=QH o->(((s.heap.update a (Obj.mapSeq λ_=>(#[]:Array QK))).push (seqObj "tuple" vs.toArray 0)).push (seqObj "list" #[] 0)).get? b=QH o:=λO e=>Nw _ (Nw _ ((OV _ _ (Ne.symm O)).trans e));change QR (QS prog w) A _ P E { s with heap:=((s.heap.update a (Obj.mapSeq λ_=>#[])).push (seqObj "tuple" vs.toArray 0)).push (seqObj "list" #[] 0) };dsimp only;let m:∀{x p},dr s.heap x p->dr (((s.heap.update a (Obj.mapSeq λ_=>(#[]:Array QK))).push (seqObj "tuple" vs.toArray 0)).push (seqObj "list" #[] 0)) x p:=λ{x p} ⟨b,o,t,u,n,e1,e2,e3,e4⟩=>⟨b,o,t,u,n,e1,R (λz=>by subst z;rw[H] at e2;cases e2;show absurd (show Value.type "list" = Value.type "tuple" from e3) (by decide)) e2,e3,e4⟩;let B:=Paired.mapP M λ_ _=>m;by_cases f:vs.toArray.size<2
 ·rw[if_pos f,if_pos f];let f:vs.length<2:=by simpa using f
  show QM (QQ ?_);rw[StateT.run_pure];show QM (QQ ?_);dsimp only;show QM (seqEpoch_at l rfl ?_);show QM (listUpdate_at l rfl ?_ (hsz2:=by rw[Array.size_map];change(pairsOf vs).size<=_;rw[pairsOf_size,sizeLine_eq];lia));simp only[bne_self_eq_false,Oe,if_false]
  let e2:(arrOf (SortSt.mk' general' (vs.toArray.zip vs.toArray) #[] 7 QI)).map (·.2)=vs.toArray:=by
   change(vs.toArray.zip vs.toArray).map (·.2)=_;apply Qz.mp;rw[Array.toList_map,Array.toList_zip];show List.map_snd_zip (Ny _)
  have:=h (NP ps.length) ⟨List.Perm.refl _,by
   rw[iu]
   match ps,c▸f with
   |[],_=>show List.mergeSort_nil
   |[p],_=>show List.mergeSort_singleton p⟩
  rw[<- c,iu] at this;show QQ (by rw[<- e2] at this;show this)
 ·rw[if_neg f,if_neg f];let f:¬vs.length<2:=by simpa using f
  obtain⟨fs,kt,kl,kf⟩:=p7 B;show QM (kat_kind (fs:=fs) (T:=.type "int") kt (by lia) (λv M=>?_) (by decide) ?_)
  ·obtain⟨i,t,rfl⟩:=kf v M;show .now
  rw[show(Value.type "int" != Value.type "tuple")=QJ by decide];let g:∀i,i<ps.length->gG (ps.getD i (0,0))=QJ:=λi I=>N5.mp O _ (by simp[I])
  let hK:∀i j,i<ps.length->j<ps.length->mG (ps.getD i (0,0))=mG (ps.getD j (0,0))->i=j:=λi j I X e=>by
   have:=uQ (g i I) (g j X) e;let e1:ps[i]?=QH (ps.getD i (0,0)):=by simp[I]
   let e2:ps[j]?=QH (ps.getD j (0,0)):=by simp[X]
   rw[this] at e1;show(Qt I nd).mp (e1.trans e2.symm)
  obtain⟨Z,N⟩:=Sr.FR (K:=λi=>mG (ps.getD i (0,0))) (n:=ps.length) hK (by lia);rw[<- c] at Z N
  show QM (wpAny_mono (kat_run (vs:=vs) (ks:=vs) (κ:=tuples' QJ) (E:=E)
   (Q:=λd F=>F={ s with heap:=((s.heap.update a (Obj.mapSeq λ_=>(#[]:Array QK))).push (seqObj "tuple" vs.toArray 0)).push (seqObj "list" #[] 0) }/\failedOf d=QI/\∃q,y6 ps q/\(arrOf d).map (·.2)=(q.map λi=>vs.getD i Value.none).toArray)
   (G:=λr F=>F={ s with heap:=((s.heap.update a (Obj.mapSeq λ_=>(#[]:Array QK))).push (seqObj "tuple" vs.toArray 0)).push (seqObj "list" #[] 0) }/\y6 ps r.toList)
   rfl (by lia) (by lia) (λr d F a1 a2 a3 a4=>⟨a4.1,a3,r.toList,a4.2,kat_snds rfl a2⟩) (Sr.uP (λi j C y hC=>?_) _ Z ⟨rfl,by rw[c] at N⊢;show IZ O N.1 N.2⟩)) ?_ λ_ _ e=>e)
  ·unfold kas_ask;simp only[Sr.FO,Nr,decide_eq_true_eq] at y
   let L:∀k,k<vs.length->dr (((s.heap.update a (Obj.mapSeq λ_=>(#[]:Array QK))).push (seqObj "tuple" vs.toArray 0)).push (seqObj "list" #[] 0)) (vs.getD k Value.none) (ps.getD k (0,0)):=λk hk=>by
    let S:k<ps.length:=by lia
    obtain⟨x,e,hx⟩:=Paired.get B (show ps[k]?=QH (ps.getD k (0,0)) by simp[S]);rw[show vs.getD k Value.none=x by rw[Oj,e];rfl];show hx
   show FT (L i y.1) (L j y.2) ?_;rw[FS (g i (by lia)) (g j (by lia))];show hC
  ·rintro ⟨⟨⟩,d⟩ F ⟨rfl,W,q,Y,U⟩
   dsimp only at W U⊢;show QM (seqEpoch_at l rfl ?_);let hz:((arrOf d).map (·.2)).size=vs.length:=by rw[U,Nz,Nt,Y.1.length_eq,Ox,c]
   show QM (listUpdate_at l rfl ?_ (hsz2:=by rw[hz,sizeLine_eq];lia));rw[W,U];simp only[bne_self_eq_false,Oe,if_false];show QQ (h q Y)
end
open PySem PySem.Spec PySem.W PyProof.Rows
open J (mG gG eT p4)
section
variable {prog:QT} {w:QW} {A:QX} {E:QK->QP->Prop} {s:QP}
theorem BU{es:Array DictEntry}(lo:(d==sysModules)=QL):KdlSrc prog w "dict" d d es.size (λi v=>∃e,es[i]?=QH e/\v=e.key) (λh=>∃o,h.get? d=QH o/\o.cls=.type "dict"/\o.data=.dict es ep) where
 type:=λ_ ⟨o,e,c,_⟩=>⟨o,e,c⟩
 there:=λ_ ⟨o,e,_⟩=>⟨NA e,NA e⟩
 keep:=λ_ _ ⟨o,e,c⟩ hk=>⟨o,hk d (.inl rfl) o e,c⟩
 notList:=by decide
 notTuple:=by decide
 hint:=λ_ _ _ _ ⟨o,e,c,_⟩ hq=>kdl_hint_dict ⟨o,e,c⟩ hq
 iter:=λA s q ⟨o,e,c,p⟩=>⟨_,λi h=>h.IsKeyIter s.heap.objs.size d i es.size ep/\h.get? d=QH o,(λ_ _ hq=>HD lo e c p hq),{
   sub:=λb f=>by simp at f;simp[f]
   frame:=λ_ _ _ a hk=>⟨a.1.at λo e=>hk _ (by simp) o e,hk _ (by simp) _ a.2⟩
   item:=λi m Q E u a g=>by
    show Ct q a.1 a.2 p (λl k j n r=>g l.key k m.toks ⟨l,j,rfl⟩ ⟨n,(r.2 d (NL (NA e))).trans a.2⟩ λb o f e=>(r.2 b (λz=>f (by simp[z]))).trans e) λk j _=>?_;rw[OJ] at j
    lia
   done:=λm Q E a g=>by
    show Ct q a.1 a.2 p (λl k j _ _=>?_) λk _ t=>g k m.toks λb o f e=>t b o (λz=>f (by simp[z])) e;show absurd (Array.getElem?_eq_some_iff.mp j).1 (Ot _)
   self:=λ_ _ _ _ a g=>wpAny_pyIter_keyiter a.1 g },⟨_,NI _ rfl,rfl,rfl⟩,Nw _ e⟩
theorem p8{o:Obj}{es:Array DictEntry}{Q:List QK->QP->Prop}(x:A.handled=QI)(lo:(d==sysModules)=QL)(e:s.heap.get? d=QH o)(c:o.cls=.type "dict")(z:o.data=.dict es ep)(hz:es.size<=sizeLine)(p:∀h' tk vs,vs=es.toList.map (·.key)->(∀b q,s.heap.get? b=QH q->h'.get? b=QH q)->s.heap.objs.size<=h'.objs.size->Q vs { s with heap:=h',toks:=tk }):QR (QS prog w) A (collect (.ref d)) Q E s:=by
 let l:d<s.heap.objs.size:=NA e;unfold collect;show QM (wpAny_runValue (codeAny_builtin PySem.F.entry_proto_collect ?_));rw[Around.under_plainId PySem.F.plain_proto_collect _];show QM (Q5 ?_);show QQ ⟨plainId_quiet PySem.F.plain_list_iadd _,codeAny_builtin PySem.F.entry_list_iadd ?_⟩;rw[Around.under_plainId PySem.F.plain_list_iadd _];let u:(s.heap.push { cls:=.type "list",data:=.seq ([]:List QK).toArray }).get? s.heap.objs.size=QH { cls:=.type "list",data:=.seq #[] 0 }:=NI _ rfl
 show kdl_extend (R:=λr k=>match r with|.ok (.ret v)=>QR (QS prog w) A (match v with|.ref a=>do { let o <- load a;match o.data with|.seq xs _=>pure xs.toList|_=>unsupported "internal:collect" }|_=>unsupported "internal:collect") Q E k|.ok _=>False|.error e=>E e k) (BU lo) x ⟨o,Nw _ e,c,z⟩ s.heap.objs.size (OF l) (OF l) _ 0 u (λh' tk h C hk j f=>?_) hz
 show QM (wpAny_load j ?_);show QQ (p h' tk _ ?_ (λb q n=>hk b q (NL (NA n)) (Nw _ n)) (O7 (NA j)));show OL λi=>?_;rw[Nu,OA,OA];rcases Nat.lt_or_ge i es.size with g|g
 ·let m:i<h.size:=by rw[f.1];show g
  obtain⟨B,y,t⟩:=f.2 i h[i] (ON m);rw[y,ON m,t];rfl
 ·rw[OJ.mpr (by rw[f.1];show g),OJ.mpr g];rfl
theorem y7{o:Obj}{es:Array DictEntry}{ps:List (Int×Int)}{Q:QK->QP->Prop}(K:A.handled=QI)(lo:(d==sysModules)=QL)(e:s.heap.get? d=QH o)(c:o.cls=.type "dict")(F:o.data=.dict es ep)(p:Paired (dr s.heap) (es.toList.map (·.key)) ps)(k:ps.length<64)(C:ps.Nodup)(L:ps.all gG=QJ)(B:∀h' tk h l n,y6 ps h->(∀b q,s.heap.get? b=QH q->h'.get? b=QH q)->s.heap.objs.size<=l->h'.get? l=QH (seqObj "list" (h.map λi=>(es.toList.map (·.key)).getD i Value.none).toArray n)->Q (.ref l) { s with heap:=h',toks:=tk }) :
  QR (QS prog w) A (call (.builtin "sorted") [.ref d]) Q E s:=by
 let y:(es.toList.map (·.key)).length=es.size:=by simp
 let H:=Paired.length p;show Calls.call_function_entry kind_sorted plain_sorted entry_sorted (args_sorted1 _) ?_;unfold Builtin.«sorted»;show QM (QQ ?_);show QM (p8 (by simpa using K) lo e c F (by rw[sizeLine_eq];lia) λg tk M m z f=>?_);subst m;show QM (wpAny_newList ?_ (by rw[sizeLine_eq];lia));let a:(g.push (seqObj "list" (es.toList.map (·.key)).toArray 0)).get? g.objs.size=QH (seqObj "list" (es.toList.map (·.key)).toArray 0):=NI _ rfl;let j:Paired (dr (g.push (seqObj "list" (es.toList.map (·.key)).toArray 0))) (es.toList.map (·.key)) ps:=Paired.mapP p λ_ _ ⟨b,o,t,u,n,e1,e2,r⟩=>⟨b,o,t,u,n,e1,Nw _ (z _ _ e2),r⟩;show QM (Q7 (Ra slot_list_sort ⟨_,a,rfl⟩ entry_list_sort (sB a j k C L λh I=>⟨_,rfl,?_⟩) (args_list_sort _)));obtain⟨n,D⟩:=sortedHeap_at a;show QQ ⟨_,rfl,B _ tk h g.objs.size n I (λb q x=>?_) f D⟩;let v:=ND (NA x) f;rw[sortedHeap_old (NL v) (by rw[size_push'];show OW v)];show Nw _ (z _ _ x)
end
section
variable {X:Cx} {pins:List (QO×Obj)} {Y:St} {H:Hp} {s:QP}
noncomputable abbrev kP(p:Int×Int):List (aN ⊕ List aN):=[.inl (.inl p.1),.inl (.inl p.2)]
noncomputable abbrev pV(p:Int×Int):HO:=.tup [.int p.1,.int p.2]
theorem Nh(h:TkAt H m (kP p) b):H b=QH (pV p):=by
 obtain⟨d,g,r⟩:=h;obtain⟨c,rfl,_,t⟩:=r;obtain⟨e,rfl,_,a⟩:=t;cases(a);show g
theorem BV(d:HOk X.prog X.w H s.heap)(h:H b=QH (pV p)):dr s.heap (.ref b) p:=by
 obtain⟨_,e,q,o,c,a,n,f⟩:=(d b _ h)
 cases q with|cons a1 q=>cases q with|cons a2 q=>
 cases q;obtain⟨t,rfl⟩:=a1;obtain⟨u,rfl⟩:=a2;show⟨b,o,t,u,n,rfl,c,a,f⟩
def LU(ta:TA):TE:=λY H Q=>ta Y H λvs H1=>∃a m ep B ps r,vs=[.ref a]/\H1 a=QH (.dT m ep B)/\B.map (·.1)=ps.map kP/\J.p4 ps=QH r/\∀p bs,H1 p=QI->Paired (λb q=>H1 b=QH (pV q)) bs r->Q (.ref p) (upd H1 p (.lst (bs.map V.ref)))
theorem FU{a:QN}(hc:X.calm=QJ)(W:Gl X "sorted")(N:X.mg "sorted" = QI)(Z:PA X [a] ta)(hs:QU [a] X.env=[(QL,eval a X.env)]):PE X (.Call (.Name "sorted" p) [a] [] pos) (LU ta):=by
 intro D s Y H Q I h;show Call_ (dM I W N PyProof.Rows.boot_sorted (PyProof.Rows.callWith_builtin1 (aV (Z pos D s Y H _ I h) λus s1 ⟨vs,R,E,r1,a',m,ep,U,d,r,e,hq,f,K,q⟩=>?_) hs rfl));subst e;obtain⟨u,rfl,ru⟩:=r1.one;cases(ru);obtain⟨hd,z,o,T,L,h1,S,h3,O⟩:=xl E.hok hq;unfold J.p4 at K;by_cases A:d.length<64/\d.Nodup/\d.all J.gG=QJ
 case neg=>rw[if_neg A] at K;cases K
 rw[if_pos A] at K;cases K
 let hk:Paired (λx q=>R x.2.1=QH (pV q)) z d:=by
  clear O q A hq
  induction L generalizing d with
  |nil=>cases d with|nil=>show .nil|cons p d=>simp at f
  |@cons k x ks z h t B=>
   cases d with
   |nil=>simp at f
   |cons p d=>
    rw[NS,NS] at f;injection f with e1 e2;show .cons (Nh (by rw[<- e1];show h.2.1)) (B _ e2)
 let c:T.toList.map (·.key)=z.map λx=>Value.ref x.2.1:=by rw[O,NN];rfl
 let hv:Paired (dr s1.heap) (T.toList.map (·.key)) d:=by
  rw[c];clear c O L f q A
  induction hk with
  |nil=>show .nil
  |cons h t B=>show .cons (BV E.hok h) B
 show y7 (E.ok.hd hc) hd h1 S.1 h3 hv A.1 A.2.1 A.2.2 λh' tk F l n v k1 C M=>?_;let V:=Paired.length hk;obtain⟨w,g⟩:∃w:List QO,w=F.map λi=>(z.map (·.2.1)).getD i 0:=⟨_,rfl⟩
 let e1:(F.map λi=>(T.toList.map (·.key)).getD i Value.none)=w.map Value.ref:=by
  rw[g,NN];show Oc λi y=>?_;let y:=(v.1.mem_iff.mp y);rw[Od] at y;rw[c];simp[Oj,show i<z.length by lia]
 let e3:Paired (λb q=>R b=QH (pV q)) w (d.mergeSort J.eT):=by
  rw[v.2,g];let N:∀i∈F,i<d.length:=λi y=>Od.mp (v.1.mem_iff.mp y);clear M e1 v g
  induction F with
  |nil=>show .nil
  |cons i F B=>
   show .cons ?_ (B λj hj=>N j (NE _ hj));let y:=N i NJ;obtain⟨x,ex,hx⟩:=Paired.get hk (show d[i]?=QH (d.getD i (0,0)) by simp[y]);let P:(z.map (·.2.1)).getD i 0=x.2.1:=by simp[Oj,ex]
   change R ((z.map (·.2.1)).getD i 0)=_;rw[P];show hx
 rw[e1] at M;show⟨.ref l,_,E.laid k1 C ?_,rfl,q l w (E.hok.fresh C) e3⟩;show⟨?_,w.map Value.ref,n,?_,by simpa using M⟩
 ·have:=v.1.length_eq;rw[Ox] at this;rw[Nt,g,Nt,sizeLine_eq]
  lia
 ·clear e1 e3 M q g
  induction w with
  |nil=>show .nil
  |cons b w B=>show .cons rfl B
end
open PySem PySem.Spec PySem.W PyProof.Rows
section
variable {X:Cx}
def Ni(ta:TA):TE:=λY H Q=>ta Y H λvs H1=>∃v a q,vs=[.ref v]/\H1 v=QH (.ext (Fu v a))/\H1 a=QH (.dK q)/\∀p,H1 p=QI->Q (.ref p) (upd H1 p (.lst (q.map (·.2))))
theorem I0{a:QN}(O:X.calm=QJ)(A:Gl X "list")(M:X.mg "list" = QI)(B:PA X [a] ta)(K:QU [a] X.env=[(QL,eval a X.env)]):PE X (.Call (.Name "list" p) [a] [] pos) (Ni ta):=by
 intro l s Y H Q I h;show Call_ (dM I A M boot_list (PyProof.Rows.callWith_type1 (aV (B pos l s Y H _ I h) λS s1 ⟨n,V,m,L,v,a',d,e,F,hq,q⟩=>?_) K rfl));subst e;obtain⟨u,rfl,D⟩:=L.one;cases(D);obtain⟨C,_,_⟩:=(m.hok v _ F);obtain⟨z,T,n,j,r⟩:=ma m.hok hq;obtain⟨W,w⟩:=r.dictAt;let f:n.length=d.length:=j.length.symm;show kdl_call (kdl_values) (m.ok.hd O) ⟨C,w⟩ (by lia) λU Z b N R y c=>?_;show⟨.ref s1.heap.objs.size,_,m.laid (o:=.lst (d.map (·.2))) R (Ny _) ⟨by rw[Nt];show z,b.toList,N,?_,by simpa using y⟩,rfl,q _ (m.hok.fresh (Ny _))⟩
 let e1:b.toList=n.map (·.2):=by
  show OL λi=>?_;rw[Nu,OA];rcases Nat.lt_or_ge i n.length with g|g
  ·let x:i<b.size:=by rw[c.1];show g
   obtain⟨k,E⟩:=c.2 i b[i] (ON x);rw[E,ON x];rfl
  ·rw[OJ.mpr (by rw[c.1];show g),N6 g];rfl
 rw[e1];clear w r e1 f q hq c z
 induction j with
 |nil=>show .nil
 |cons h t P=>show .cons h.2 P
def y8(v a:QO):QY->Prop:=λh=>h.IsItemsView v a
def y9:V->List V->Hp->VK->Prop:=λx xs H Q=>∃a,x=.ref a/\xs=[]/\H a=QH (.dK [])/\∀v,H v=QI->Q (.ref v) (upd H v (.ext (y8 v a)))
theorem za:GD X "dict.items" y9:=by
 intro b s Y H x p v l Q I r g h;obtain⟨a,rfl,rfl,e,q⟩:=h;cases g;cases(r);obtain⟨z,i,j,d,c⟩:=ma I.hok e;let f:s.TypeIs (.ref a) "dict":=c.typeIs;show call_meetsIn F.slot_dict_items f F.entry_dict_items (F.args_dict_items_1 _) (meets_dict_items (aH X.prog X.w) a i) ⟨⟨j,c⟩,?_⟩;show⟨.ref s.heap.objs.size,_,I.laid (λ_ _ q=>Nw _ q) (Ny _) ?_,rfl,q _ (I.hok.fresh (Ny _))⟩;show⟨⟨_,NI _ rfl,rfl,rfl⟩,⟨_,NI _ rfl⟩,λn m ⟨o,e1,e2⟩ k=>⟨o,k o e1,e2⟩⟩
noncomputable def J9(a:QO)(q:Obj):It:=⟨λ_ _=>False,λ_ _ _ _=>False,λ_ H=>H a=QH (.frz q (.dK []))⟩
theorem wf{P:QT}{w:QW}{K:Np}{tg:QN}{ep:Nat}{q:Obj}{es:Array DictEntry}(a it:QO)(j:q.data=.dict es ep):qG P w K tg (J9 a q) [it] it (λi h=>∃f d,IsItemIter h it a 0 0 ep f d) where
 mem:=by simp
 obj:=λi h c b m=>by
  let e:b=it:=by simpa using m
  subst e;obtain⟨f,d,e⟩:=c;show⟨_,e,λv z=>by cases z⟩
 keep:=λi h D c k=>by
  obtain⟨f,d,e⟩:=c;show⟨f,d,k it (by simp) _ e⟩
 item:=λ_ _ _ _ _ _ _ _ _ _ _ _ _ _ g=>g.elim
 done:=by
  intro X B M hK N i t s Y H E I C c g;subst B M hK;obtain⟨f,d,c⟩:=c;obtain⟨L,z,U,Z,l,F⟩:=(I.hok a _ g);obtain⟨u,p⟩:=F.dictAt;obtain⟨V,R,n,W,r,T⟩:=id p;rw[L] at n;cases n;rw[j] at r;cases r;cases l;obtain⟨Q,x,f2,O,y,A⟩:=C it (by simp);show wpAny_pyNext_items_end (I.ok.hd N) c p rfl λD S=>⟨rfl,I.turned (λb o m e=>S b o m e) Q x O y A⟩
 self:=λ_ _ _ _ _ c h=>by
  obtain⟨f,d,c⟩:=c;show kcp_self c h
abbrev zb(R:It->Hp->Prop):VK:=λy H2=>∃v a,y=.ref v/\H2 v=QH (.ext (y8 v a))/\H2 a=QH (.dK [])/\∀q,R (J9 a q) (upd H2 a (.frz q (.dK [])))
def Ja(K:Np)(tl:TE):TI:=λY H R=>Hx K "dict" y9 tl Y H (zb R)
theorem BW{K:Np}{a:QO}{H:Hp}{R:It->Hp->Prop}(e:H a=QH (.dK []))(q:∀v b,H v=QI->R (J9 a b) (upd (upd H v (.ext (y8 v a))) a (.frz b (.dK [])))):JW K "dict" (.ref a) H/\y9 (.ref a) [] H (zb R):=
 ⟨.inr ⟨rfl,[],e⟩,a,rfl,rfl,e,λv c=>⟨v,a,rfl,ak,by rw[ae (λz=>by rw[z,c] at e;cases e)];show e,λb=>q v b c⟩⟩
theorem BX{tg l:QN}{tl:TE}{ap cp:Pos}(u:PE X l tl)(f:attributeBase l "items" X.env (eval l X.env)=eval l X.env)(d:(ap.endLine==cp.line)=QJ):PI X tg (.Call (.Attribute l "items" ap) [] [] cp) (Ja X.K tl):=by
 intro c s Y H R I h;show aV (qU F.plainAttrs_dict F.slot_dict_items F.type_dict_items za u f d c s Y H (zb R) I h) λy s1 ⟨x,B,g,M,v,a,C,t,k,q⟩=>?_;subst C;cases(M);obtain⟨r,_,_⟩:=(g.hok v _ t);obtain⟨z,S,U,i,D⟩:=ma g.hok k;cases i;obtain⟨E,n⟩:=D.dictAt;obtain⟨A,N,m,T,L,Q⟩:=id n;show wpAny_pyIter_items r n ?_;let O:Inv X c Y B { s1 with heap:=s1.heap.push { cls:=.type "dict_itemiterator",data:=.fields #[.none,.bool QL,.ref a,.int 0 0,.int 0 0,.int E 0,.none,.none] } }:=g.kept λb o e=>Nw _ e
 let p:=O.frz k (Nw _ m) (λ_ z=>nomatch z) (λ_ _ z=>nomatch z) (λ_ z=>nomatch z) (λ_ z=>nomatch z)
 show⟨s1.heap.objs.size,[s1.heap.objs.size],_,_,_,rfl,p,wf a _ L,⟨.none,.none,NI _ rfl⟩,λb P=>?_,q A⟩;let e:b=s1.heap.objs.size:=by simpa using P
 subst e;let j:s1.heap.objs.size≠a:=λw=>Ot _ (by have:=NA m;rw[<- w] at this;show this);show g.fpOk (Ny _) ?_;rw[ae j];show g.hok.fresh (Ny _)
end
end L2
namespace J
theorem FV(h:IY k=QH p):k=.inr (kP p):=by
 unfold IY at h;split at h
 ·cases h;rfl
 ·cases h
theorem zc:∀{ks:List DK} {ps:List (Int×Int)},yV ks=QH ps->ks=ps.map λp=>.inr (kP p)
 |[],ps,h=>by cases h;rfl
 |k::ks,ps,h=>by
  unfold yV at h
  cases hk:IY k with
  |none=>rw[hk] at h;cases h
  |some p=>
   rw[hk] at h
   cases a:yV ks with
   |none=>rw[a] at h;cases h
   |some b=>
    rw[a] at h;cases h;rw[FV hk,zc a];rfl
theorem mH{m:Nat}{ps:List (Int×Int)}(h:cP K o (.dic (m+1) ks) xs)(e:yV ks=QH ps):∃(a:List (List (aN ⊕ List aN)×V)) (ep:Nat),o=.dT m ep a/\a.map (·.1)=ps.map kP/\ks=a.map (λp=>Sum.inr p.1)/\xs=a.map (·.2):=by
 rcases h with⟨z,_⟩|⟨c,z,a,ep,rfl,e1,e2⟩
 ·cases z
 ·cases z;show⟨a,ep,rfl,?_,e1,e2⟩;have:=zc e;rw[e1] at this
  let b:=congrArg (Ph λk:DK=>match k with|.inr l=>l|.inl _=>[]) this
  rw[NN,NN] at b;show b
section
variable {X:Cx} {U:Tab} {c:Cz}
theorem uR{a:QN}(b:ah a=QJ):QU [a] env=[(QL,eval a env)]:=(aj b).trans rfl
theorem C6(O:ao X U c){f:Ro->Option KD}{a:QN}(z:iW c.sc "dict" = QJ)(s:ah a=QJ)(B:SndE X f a):SndE X (λZ=>pZ (f Z)) (.Call (.Name "dict" p) [a] [] pos):=by
 intro Z L d h g Y H Q u q;dsimp only at h;unfold pZ at h;split at h
 ·ext k m t x e;obtain⟨⟨I,hk,M⟩,e2⟩:=wF h;cases e2;unfold pY at hk;split at hk
  ·ext K j;let A:=of_decide_eq_true hk;show am (FM (dC O z) (O.tab.bl _ (by simp[aE])) cQ (uR s)) (fG s B jY Z [(k,.nd (.dic (m+1) t) x)] (by change cy (f Z) _=_;rw[e];rfl) g Y H _ u λP N s1 F=>?_);obtain⟨v,rfl,r⟩:=VRs.one F;obtain⟨a,o,R,rfl,E,D,w⟩:=r.items I u.mu s1;obtain⟨b,C,rfl,e3,e4,y⟩:=mH D j;show⟨a,m,C,b,rfl,E,?_,λl n i=>q _ _ (s1.trans (ag i)) ((Ib (hd:=.dic (m+1) t) rfl (.inr ⟨m,rfl,b,n,rfl,e4,y⟩) i w).older s1)⟩
   have:(b.map λp=>(bH m (aH X.prog X.w)).hash p.1)=K.map hs2:=by
    have:=congrArg (Ph λk=>(bH m (aH X.prog X.w)).hash k) e3;rw[NN,NN] at this;show this
   rw[this];show A
  ·cases hk
 ·cases h
theorem BY{H:Hp}(m:MuOk H S)(h:H b=QH (pV q)):Rp K H S (pD q) (.ref b):=by
 unfold pD Rp;show⟨b,_,_,rfl,λz=>?_,h,rfl,.cons (by unfold Rp;rfl) (.cons (by unfold Rp;rfl) .nil)⟩;obtain⟨o,e,n⟩:=m b z;rw[h] at e;cases e;show n _ rfl
theorem Jb(O:ao X U c){f:Ro->Option KD}{a:QN}(C:iW c.sc "sorted" = QJ)(s:ah a=QJ)(D:SndE X f a):SndE X (λZ=>wc (f Z)) (.Call (.Name "sorted" p) [a] [] pos):=by
 intro Z P d h g Y H Q y q;dsimp only at h;unfold wc at h;split at h
 ·ext k m u A e
  cases b:yV u with
  |none=>rw[b] at h;cases h
  |some x=>
   rw[b] at h
   cases j:p4 x with
   |none=>rw[Ob,j] at h;cases h
   |some r=>
    rw[Ob,j] at h;cases h;show am (FU O.calm (dC O C) (O.tab.bl _ (by simp[aE])) cQ (uR s)) (fG s D jY Z [(k,.nd (.dic (m+1) u) A)] (by change cy (f Z) _=_;rw[e];rfl) g Y H _ y λT S s1 K=>?_);obtain⟨v,rfl,L⟩:=VRs.one K;obtain⟨a,o,V,rfl,_,I,F,w⟩:=L.rd.nd;obtain⟨n,E,rfl,e3,e4,N⟩:=mH F b;show⟨a,m,E,n,x,r,rfl,I,e3,j,λl R i z=>?_⟩;show q _ _ (s1.trans (ag i)) ((lH i ?_).older s1);let B:=y.mu.same s1;clear j q
    induction z with
    |nil=>show .nil
    |cons h t M=>show .cons (BY B h) M
 ·cases h
theorem LV(O:ao X U c){f:Ro->Option KD}{p ap cp pos:Pos}(t:iW c.sc "list" = QJ)(D:d9 a=QJ)(y:(ap.endLine==cp.line)=QJ)(u:SndE X f a):SndE X (λZ=>LR (f Z)) (.Call (.Name "list" p) [.Call (.Attribute a "values" ap) [] [] cp] [] pos):=by
 intro Z K d h g Y H Q s q;dsimp only at h;unfold LR at h;split at h
 ·ext k L E e;obtain⟨⟨C,I⟩,e2⟩:=wF h;cases e2;show am (I0 O.calm (dC O t) (O.tab.bl _ (by simp[aE])) (bq (qU (T:="dict") (r:=CT) F.plainAttrs_dict F.slot_dict_values F.type_dict_values wa aq (dD D) y) dO rfl) rfl) (u Z _ _ e g Y H _ s λv n s1 B=>?_);obtain⟨a,o,M,rfl,j,A,w⟩:=B.items C s.mu s1;rcases A with⟨_,b,rfl,e3,e4⟩|⟨m,z,_⟩
  ·show⟨.inr ⟨rfl,b,j⟩,a,b,rfl,rfl,j,λv x=>?_⟩;let s2:Same n (upd n v (.ext (Fu v a))):=ag x;show⟨v,a,b,rfl,ak,s2 _ _ j,λl i=>q _ _ (s1.trans (s2.trans (ag i))) ((lH i ?_).older (s1.trans s2))⟩;rw[<- e4];show w.same s2
  ·cases z
 ·cases h
theorem LW:i3 K (J9 a ob) (.ob a (.frz ob (.dK [])) [] []) []:=by
 rintro i g H ⟨b,_⟩ m
 show⟨λ_=>b,λd c=>by simp at c⟩
theorem Jc(O:ao X U c){x:Str}{i:Nat}{tg:QN}{p ap cp:Pos}(hc:fR c x=QH i)(s:attributeBase (.Name x p) "items" X.env (eval (.Name x p) X.env)=eval (.Name x p) X.env)(l:(ap.endLine==cp.line)=QJ):mx X (FL i) tg (.Call (.Attribute (.Name x p) "items" ap) [] [] cp):=by
 intro Z bs ds Z1 h g Y H R y q;unfold FL at h;split at h
 ·ext e;cases h;obtain⟨v,F0,e1,e2,e3⟩:=y.slot i _ e;unfold Tr at e3;obtain⟨a,o,xs,F',rfl,V,L,m1,m2,W,ha⟩:=e3;rcases L with⟨_,A,rfl,T,rfl⟩|⟨m,P,_⟩
  ·let D:A=[]:=OT.mp (by have:=congrArg O3 T;simpa using this.symm);subst D;let w:g a=QH (QH i):=e2 a ((W a).mpr (.inl ⟨rfl,rfl⟩))
   let t:∀(j:Nat) (r:Sl),(Z.set i QI)[j]?=QH (QH r)->j≠i:=λj r k z=>by
    subst z;cases((NY (Nat.lt_of_lt_of_eq (Nq.mp k).1 O5)).symm.trans k)
   show kI (BX aq s l) (fK O hc p e1 (BW V λv C N=>?_));let nv:∀b o,H b=QH o->b≠v:=λb o e z=>by rw[z,N] at e;cases e
   let d:∀b o,b≠a->H b=QH o->upd (upd H v (.ext (y8 v a))) a (.frz C (.dK [])) b=QH o:=λb o n e=>by rw[ae n,ae (nv b o e)];show e
   let B:SE X.K g (Z.set i QI) Y (upd (upd H v (.ext (y8 v a))) a (.frz C (.dK []))):=by
    show⟨λj r k=>?_,λb z=>?_,by rw[O5];show y.len⟩
    ·let I:=t j r k;rw[NW (Ne.symm I)] at k;obtain⟨M,F,S,E,Q⟩:=y.slot j r k;show⟨M,F,S,E,Q.go (λb o f e=>d b o (λz=>?_) e) λb o _ n=>n⟩;subst z;rcases f with f|f
     ·show f (by rw[Sg,w];simp)
     ·have:=E b f;rw[w] at this;cases this;show I rfl
    ·obtain⟨o,e,n⟩:=y.mu b z;by_cases f:b=a
     ·subst f;show⟨_,ak,λxs z=>nomatch z⟩
     ·show⟨o,d b o f e,n⟩
   let u:=rL (i:=i) (F:=λ_=>False) (Z':=Z.set i QI) B (λ_ z=>z.elim) rfl λj r k=>.inl ⟨t j r k,k⟩;rw[aT λ_ z=>z] at u;show q _ (.ob a (.frz C (.dK [])) [] []) (g.off i) _ ⟨λb o n e=>d b o (λz=>n i (z▸w)) e,λb=>((nN (H:=H) (F:=λ_=>False) (i:=i) (g:=g) λ_ z=>z.elim).out b),λb j z=>.inl ⟨j,(kZ z).1⟩,λ_ z=>z.elim,λb o e=>?_⟩ u LW ⟨ak,.nil⟩ (.inl (yj w));by_cases f:b=a
   ·subst f;show⟨_,ak⟩
   ·show⟨o,d b o f e⟩
  ·cases P
 ·cases h
end
def BZ(q m:Str)(i:Nat)(B:Fm)(O:Ro->Option (List RA×Ro))(Z:Ro):MR:=match Z[i]? with
 |some (QH ⟨QL,_,.nd (.obj c ns) _⟩)=>if c=q/\ns.contains m=QL then Bq (QH B) (pv i Z[i]? (O Z)) else QI
 |_=>QI
theorem C7{X:Cx}(O:ao X U c){p ap pos:Pos}{es:List QN}(hc:fR c x=QH i)(S:Oa X.K QZ cn=QH (QH (.ref C)))(cl:Cls X.K C)(M:oH X.K C m f)(F:FnOk X.prog X.w X.K X.mg X.base iO k f fd ps (v3 X.K B))(W:Room k X.A)(hb:Binds X.K fd ps [])(u:d9 (.Name x p)=QJ)(V:(ap.endLine==pos.line)=QJ)(D:ah e=QJ)(z:es.all ah=QJ)(v:(e::es).length<30)(R:f7 X fr (e::es)):bz X (BZ cn m i B fr) (.Call (.Attribute (.Name x p) m ap) (e::es) [] pos):=by
 intro Z kd d Z' h g Y H Q I q;unfold BZ at h;split at h
 ·ext k0 c0 ns he l;by_cases b:c0=cn/\ns.contains m=QL
  rotate_left
  ·rw[if_neg b] at h;cases h
  rw[if_pos b] at h;obtain⟨rfl,n⟩:=b;obtain⟨v0,F0,e1,e2,e3⟩:=I.slot i _ l;obtain⟨a,o,xs,rfl,_,ga,P,w⟩:=e3.rd.nd;obtain⟨C',dx,E,_,rfl,y⟩:=P;rw[S] at E;cases E;show am (sY aq cl M F W hb .nil oO cQ (aj D) (br z) (tO (dD u) (by rw[Oz,D,z];rfl) V v)) (fK O hc p e1 ⟨a,dx,_,rfl,ga,rB n,?_⟩)
  cases j:fr Z with
  |none=>rw[j,l] at h;cases h
  |some T=>
   obtain⟨t,N⟩:=T;rw[j,l] at h;show R Z t N j g Y H _ I λvs g' H' F' L s r=>?_;rw[N9];show t8 h L s ⟨.ref a,vs,rfl,e1,r⟩ q
 ·cases h
structure C8(P:Program)(w:World)(K:Np)(mg:Str->Option Value)(base:Heap)(k:Nat)(X:Cx):Prop where
 prog:X.prog=P
 w:X.w=w
 K:X.K=K
 mg:X.mg=mg
 base:X.base=base
 room:Room k X.A
section
variable {P:QT} {w:QW} {K:Np} {mg:Str->Option QK} {base:QY} {fns:Nms} {U:GG} {x y z qual:Str} {st:QV} {f C:QO} {fd:Q3} {N ps:List Str} {k n M i:Nat} {an:An} {body:bB}
theorem zd(F:Fun K x qual st f fd)(S:aY N ps (ab st))(T:TabF P w K mg base (a5 fns U) k)(hBq:∀X:Cx,ao X (a5 fns U) ⟨ab st,N,λ_=>QJ⟩->PassesOwn (QS X.prog X.w) X.A X.env X.xe->C8 P w K mg base k X->aX X pn fb (aB st)) :
  FnOk P w K mg base iO (k+1) f fd ps (v3 K (lu fb ps.length N.length pn)):=by
 let W:ps.length<=N.length:=by
  have:=congrArg O3 S.pre;rw[N0] at this
  lia
 show F.ok S (λn H Q E h=>?_) (λC A b s H n Q E I h=>?_)
 ·obtain⟨M,g,V,d,os,y,a,q⟩:=h;unfold lu at a;split at a
  ·ext o;have:=y.len;simp only[Nt] at this;rw[<- this,o]
  ·cases a
 ·obtain⟨M,g,V,d,os,y,a,q⟩:=h;unfold lu at a;split at a
  ·ext o;let D:M.length=n.length:=by simpa using y.len
   let O:ao (lE iO P w K mg base N qual (ab st) f C A b s H E).nox (a5 fns U) ⟨ab st,N,λ_=>QJ⟩:=
    ⟨rfl,rfl,λ_ _=>rfl,rfl,S.nd,T.ok I⟩
   let r:=nU y (by rw[o];show W);let L:aX _ pn fb (aB st):=hBq _ O PassesOwn.never ⟨rfl,rfl,rfl,rfl,rfl,I⟩
   let p:∀{l:Gh} {m:Hp} {F:Pr} {t:L2.St} {u:Ro},SE K (l.plus F) u t m->PinOk pn (bO N n) t->SE K (l.plus F) ((outs ps.length pn u).map CD) (n.map QH) m:=λ{l m F t u} s1 pk=>by
    show⟨λj sl e=>?_,s1.mu,by simp[pO,<- D,o]⟩;obtain⟨Z,h2,h3⟩:=mE e;obtain⟨v,Fj,q1,R,q3⟩:=s1.slot j sl h3;show⟨v,Fj,by rw[<- q1,pk j h2,jk (by rw[<- D,o];show Z)],R,q3⟩
   show⟨_,e7,?_⟩;unfold il at a;split at a
   ·ext k2 d2 Z2 c;split at a
    ·cases a
    ·ext hb;cases a;show L _ _ c _ (bO N n) H _ r λv t l m F B i pk Y=>q v l m F B (p i pk) Y
   ·ext u c;cases a;show L _ _ c _ (bO N n) H _ r λt l m B i pk=>q .non l m iH B (p (by rw[aT λ_ z=>z];show i) pk) ⟨λ_ z=>z,by unfold Rp;rfl⟩
   ·cases a
  ·cases a
theorem TabF.addCX{ψ:Fn}(T:TabF P w K mg base (a5 fns U) k)(d:FnOk P w K mg base iO (k+1) f fd ps (v3 K B))(e:Mk K C f)(g:Cls K C)(j:Oa K QZ x=QH (QH (.ref C)))(c:mg x=QH (.ref C))(a:Binds K fd ps [])(hd:(x==("__debug__":Str)||qz x)=QL)(hi:fns.fns[i]?=QH x)(b:∀ds,Le (ψ ds) (yH (.own es r0) x B ds)):TabF P w K mg base (a5 fns (U.addI i ψ)) (k+2):=by
 rw[O0] at hd;show T.up.up.put hi ?_;unfold r9;rw[if_neg (by rw[hd.2];show NV)];show .inr ⟨k+1,C,f,fd,ps,_,Ny _,e,d,c,a,hd.1,λh H Q s=>BQ j g h H Q (nV b s)⟩
theorem TabF.addHX{ψ B:Fn}(T:TabF P w K mg base (a5 fns U) k)(g:FnOk P w K mg base iO (k+1) f fd ps (nB K B))(d:Oa K QZ (mC z)=QH (QH (.ref C)))(j:Cls K C)(c:oH K C (mM z) f)(m:Binds K fd ps [])(l:qz z=QJ)
  (hi:fns.fns[i]?=QH z) (hψ:∀a,Le (ψ a) (wb z B a)):TabF P w K mg base (a5 fns (U.addI i ψ)) (k+1):=by
 show T.up.put hi ?_;unfold r9;rw[if_pos l]
 let b:∀a r,ψ a=QH r->GF (mC z) (mM z) a=QJ/\B a=QH r:=λa r e=>by
  have:=hψ a r e;unfold wb at this;split at this
  ·ext h;show⟨h,this⟩
  ·cases this
 show⟨C,f,fd,ps,d,j,c,g.imp λn H Q E s=>nV (λa r e=>(b a r e).2) s,m,λa r e=>(b a r e).1⟩
end
end J
section
open PySem L2 J
local macro_rules | `(tactic| walk_at "fsc")=>`(tactic| show ⟨rfl,rfl,rfl,by nofun,rfl,by nofun,by nofun⟩)
local macro_rules | `(tactic| walk_at "bnd")=>`(tactic| show λ_ _ _ _ _ _=>by first | show J.LP (λ_=>rfl) | show J.us2 (λ_ _=>rfl) | show J.IV (λ_ _ _=>rfl) | show J.J6 (λ_ _ _ _=>rfl) | show J.MJ (λ_ _ _ _ _=>rfl))
namespace K44
open PySem L2 J
noncomputable abbrev nL(i:Int):IE:=.lit (.int i)
noncomputable def fN(i:Nat):QV:=PySem.Challenge.pw_gatepapers_k44_held_ones_begin_alike.main.body.getD i (.Pass ⟨0,0,0,0⟩)
noncomputable def fns:Nms:=⟨((["is_whole","is_below","bits_of","is_table","is_tuple","places_in","all_trials","column_of","column_told","is_spot","looked","is_paper","is_helper","is_statement","hangs_on_no_in","holds_first","holds_now","holds_next","trials_by","bits_by_free","bits_by_given","_law_mixed","_law_state","_law_take","_law_gates","_law_circuit","_law_beneath","_law_case","_law_paper","law"]:List Str)++(["Ground.put_circuit","Ground.all_below","Ground.reckoned","Ground"]:List Str)),[("MOST_PLACES",.int 3),("MOST_FREE",.int 8)],λl c=>match l,c with|111,91=>QH (.own [] .fz)|124,50=>QH (.own [] .fz)|148,11=>QH (.own [] .fz)|180,11=>QH (.own [.own [] .fz] .fz)|43,21=>QH (.own [] .fz)|44,22=>QH (.own [] .fz)|45,22=>QH (.own [] .fz)|60,16=>QH (.own [] .fz)|_,_=>QI,λl c=>match l,c with|145,12=>QH QJ|158,12=>QH QJ|170,11=>QH QJ|198,11=>QH QJ|207,22=>QH QJ|207,33=>QH QJ|207,50=>QH QJ|216,11=>QH QJ|78,15=>QH QJ|_,_=>QI,λi=>match i with|23=>QH [QJ,QL]|24=>QH [QJ,QL,QL]|25=>QH [QJ,QL,QL,QL,QL]|30=>QH [QJ,QL,QL]|_=>QI,λ_ _=>[],[("Ground",["gates","begins","afters"])]⟩
noncomputable def an:An:=⟨λl=>match l with|34=>[4]|142=>[10,12,13]|150=>[5,6,7,8,9]|153=>[9]|161=>[6]|167=>[8,7]|192=>[4,5,6]|232=>[9,14]|53=>[8,9]|56=>[7,10,11]|62=>[5]|72=>[5]|_=>[],λl=>match l with|234=>[10,12,13]|244=>[12]|_=>[],λl=>match l with|46=>QJ|47=>QJ|68=>QJ|71=>QJ|129=>QJ|165=>QJ|166=>QJ|167=>QJ|138=>QJ|143=>QJ|144=>QJ|162=>QJ|163=>QJ|164=>QJ|168=>QJ|169=>QJ|_=>QL⟩
abbrev s0:QV:=fN 1
section
local macro_rules|`([])=>`(.nil)|`([$a])=>`(.cons $a .nil)|`([$a,$b,*])=>`(.cons $a [$b,*])|`(↑$a)=>`(.var $a)|`(($a:num))=>`(nL $a)
noncomputable def b0:bB:=[.ret (.p (.bool .And [.isi "int" ↑0,.not (.isi "bool" ↑0)]))]
abbrev s1:QV:=fN 2
def b1:bB:=[.ret (.p (.bool .And [.fn 0 [↑0],.chain .LtE .Lt (0) ↑0 ↑1]))]
abbrev s2:QV:=fN 3
def b2:bB:=[.ret (.p (.comp .fz [QI,QI,QH 0] (.nm 1) (.rng (0) ↑1) .non (.bin .BitAnd (.bin .RShift ↑2 ↑1) (1))))]
abbrev s3:QV:=fN 6
def b3:bB:=[.ifs (.p (.bool .Or [.not (.fn 0 [↑0]),.not (.fn 0 [↑1])])) [.ret (.p (.lit (.bl QL)))] [],.ifs (.p (.bool .Or [.cmp .Lt ↑1 (0),.cmp .Gt ↑1 (3)])) [.ret (.p (.lit (.bl QL)))] [],.ret (.p (.chain .LtE .Lt (0) ↑0 (.bin .LShift (1) (.bin .LShift (1) ↑1))))]
abbrev s4:QV:=fN 8
noncomputable def b4:bB:=[.ret (.p (.bool .And [.isi "tuple" ↑0,.cmp .Eq (.blt "len" [↑0]) ↑1]))]
abbrev s5:QV:=fN 9
def b5:bB:=[.ret (.p (.bin .Add (.bin .Add (.ix ↑0 (0)) (.blt "len" [.ix ↑0 (1)])) (.blt "len" [.ix ↑0 (2)])))]
abbrev s6:QV:=fN 11
def b6:bB:=[.ret (.p (.bin .Sub (.bin .LShift (1) (.bin .LShift (1) ↑0)) (1)))]
abbrev s7:QV:=fN 12
def b7:bB:=[.asg 2 (.p (.bin .LShift (1) ↑0)),.asg 3 (.p (.bin .LShift (.fn 6 [↑0]) ↑2)),.asg 4 (.p (.bin .Add ↑2 ↑2)),.wh [] (.p (.cmp .Lt ↑4 (.bin .LShift (1) ↑1))) [.aug 3 .BitOr (.p (.bin .LShift ↑3 ↑4)),.aug 4 .Add (.p ↑4)],.ret (.p ↑3)]
abbrev s8:QV:=fN 13
def b8:bB:=[.asg 3 (.p (.comp .fz [QI,QI,QH 2] (.nm 1) (.e (.fn 2 [↑0,.bin .LShift (1) (.blt "len" [↑1])])) .non (.bin .Mult ↑2 ↑1))),.fo [4] (.nm 4) (.p (.e ↑1)) [.asg 3 (.p (.comp .fz [QI,QI,QI,QH 4] (.tp [.nm 1,.nm 2]) (.zp (.stp ↑3 .non (2)) (.stp ↑3 (.som (1)) (2))) .non (.bin .BitXor ↑1 (.bin .BitAnd (.bin .BitXor ↑1 ↑2) ↑3))))],.ret (.p (.ix ↑3 (0)))]
abbrev s9:QV:=fN 15
def b9:bB:=[.ret (.p (.bool .And [.fn 4 [↑0,(2)],.fn 1 [.ix ↑0 (0),(3)],.fn 1 [.ix ↑0 (1),.ix ↑1 (.ix ↑0 (0))]]))]
abbrev ML:QV:=fN 19
def LX:bB:=[.ifs (.p (.bool .Or [.cmp .NotEq (.ix ↑0 (0)) (.ix ↑1 (0)),.cmp .NotEq (.blt "len" [.ix ↑0 (3)]) (.blt "len" [.ix ↑1 (3)])])) [.ret (.p (.lit (.bl QL)))] [],.ifs (.p (.not (.fn 11 [↑0,↑1,↑2]))) [.ret (.p (.lit (.bl QL)))] [],.unp [3,4,5,6] (.p ↑2),.asg 7 (.p (.fn 33 [↑0,↑1,↑3])),.asg 8 (.p (.bin .Add (.comp .fz [QI,QI] (.nm 1) (.rng (0) (.ix ↑0 (0))) .non (.tup .fz [.tup .fz [(0),↑1],.tup .fz [(1),↑1]])) (.comp .fz [QI,QI] (.nm 1) (.e (.bin .Add ↑4 ↑5)) .non (.sl ↑1 .non (.som (2)))))),.asg 9 (.p (.comp .fz [QI,QI,QI] (.tp [.nm 1,.nm 2]) (.zp (.ix ↑0 (3)) (.ix ↑1 (3))) .non (.tup .fz [.tup .fz [(0),↑1],.tup .fz [(1),↑2]]))),.ret (.p (.bool .And [.cmp .Eq (.comp .fz [QI,QI,QH 8] (.nm 1) (.e ↑6) .non (.ix ↑2 ↑1)) ↑9,.blt "all" [.comp .fz [QI,QI,QI,QH 7] (.nm 1) (.e ↑4) .non (.fn 14 [↑3,↑1])],.blt "all" [.comp .fz [QI,QI,QI,QH 7] (.nm 1) (.e ↑4) .non (.fn 15 [↑3,↑1])],.blt "all" [.comp .fz [QI,QI,QI,QH 7,QH 8] (.nm 1) (.e ↑5) .non (.fn 16 [↑3,↑4,↑1])],.blt "all" [.comp .fz [QI,QI,QI,QH 7,QH 8] (.nm 1) (.e ↑4) .non (.fn 17 [↑3,↑4,↑1])]]))]
abbrev MM:QV:=fN 20
def LY:bB:=[.ifs (.p (.bool .Or [.not (.fn 4 [↑2,(4)]),.not (.blt "all" [.comp .fz [QI,QI,QI,QI] (.nm 1) (.e ↑2) .non (.isi "list" ↑1)])])) [.ret (.p (.lit (.bl QL)))] [],.unp [3,4,5,6] (.p ↑2),.asg 7 (.p (.lst (.own [] .fz) [.fn 5 [↑0],.fn 5 [↑1],.blt "len" [↑3]])),.asg 8 (.p (.bin .Add (.ix ↑0 (0)) (.blt "len" [↑4]))),.asg 9 (.p (.bin .Add ↑8 (.blt "len" [↑5]))),.ret (.p (.bool .And [.blt "all" [.comp .fz [QI,QI,QI,QI,QH 7] (.tp [.nm 1,.nm 2]) (.enm ↑3) .non (.fn 12 [↑2,.bin .Add (.sl ↑4 .non (.som (2))) (.lst (.own [] .fz) [↑1])])],.blt "all" [.comp .fz [QI,QI,QI,QH 9,QH 7] (.nm 1) (.e ↑4) .non (.fn 13 [↑1,↑4,↑3])],.blt "all" [.comp .fz [QI,QI,QI,QI,QH 8,QH 7] (.tp [.nm 1,.nm 2]) (.enm ↑5) .non (.fn 13 [↑2,↑5,.bin .Add ↑4 ↑1])],.cmp .Eq (.blt "len" [↑6]) (.blt "len" [.ix ↑0 (3)]),.blt "all" [.comp .fz [QI,QI,QI,QH 9] (.nm 1) (.e ↑6) .non (.fn 1 [↑1,↑3])]]))]
abbrev MN:QV:=fN 21
def LZ:bB:=[.ifs (.p (.bool .Or [.not (.fn 4 [↑0,(2)]),.not (.isi "tuple" (.ix ↑0 (1)))])) [.ret (.p (.lit (.bl QL)))] [],.ret (.p (.bool .And [.fn 3 [.ix ↑0 (0),.blt "len" [.ix ↑0 (1)]],.blt "all" [.comp .fz [QI,QI,QI,QH 1] (.nm 1) (.e (.ix ↑0 (1))) .non (.fn 9 [↑1,↑3])]]))]
abbrev s13:QV:=fN 22
def L0:bB:=[.ifs (.p (.bool .Or [.not (.fn 4 [↑0,(4)]),.not (.fn 9 [.ix ↑0 (0),↑1]),.not (.fn 9 [.ix ↑0 (1),↑1])])) [.ret (.p (.lit (.bl QL)))] [],.unp [3,4] (.p (.sl ↑0 (.som (2)) .non)),.ifs (.p (.bool .Or [.not (.isi "list" ↑3),.not (.isi "list" ↑4),.cmp .Gt (.blt "len" [↑3]) (8)])) [.ret (.p (.lit (.bl QL)))] [],.ret (.p (.bool .And [.blt "all" [.comp .fz [QI,QI,QI,QI,QH 2,QH 1] (.nm 1) (.e ↑3) .non (.bool .Or [.fn 1 [↑1,↑4],.fn 9 [↑1,↑5]])],.blt "all" [.comp .fz [QI,QI,QI,QH 2] (.nm 1) (.e ↑4) .non (.fn 1 [↑1,↑3])]]))]
abbrev MP:QV:=fN 23
def L1:bB:=[.ret (.p (.blt "all" [.comp .fz [QI,QI,QH 0] (.nm 1) (.e (.fn 31 [↑0,.dnew 1 .fz,.sl ↑1 .non (.som (2))])) .non (.bool .Or [.cmp .In ↑1 (.fld "gates" ↑2),.cmp .In ↑1 (.fld "begins" ↑2)])]))]
abbrev MQ:QV:=fN 24
def L3:bB:=[.asg 2 (.p (.fn 32 [↑0,.fld "begins" ↑0,.sl ↑1 .non (.som (2)),(1)])),.ret (.p (.cmp .Eq (.ix ↑2 (.ix ↑1 (0))) (.ix ↑2 (.ix ↑1 (1)))))]
abbrev MS:QV:=fN 25
def L4:bB:=[.unp [3,4,5,6] (.p ↑2),.asg 7 (.p (.fn 18 [↑0,↑1,↑5,↑6,.lst (.own [] .fz) [↑3,↑4]])),.ifs (.p (.cmp .Is ↑7 (.lit .non))) [.ret (.p (.lit (.bl QL)))] [],.unp [8,9] (.p ↑7),.ret (.p (.cmp .Eq (.bin .BitAnd (.bin .BitXor (.ix ↑8 ↑3) (.ix ↑8 ↑4)) ↑9) (0)))]
abbrev mI:QV:=fN 26
def C9:bB:=[.unp [3,4,5,6] (.p ↑2),.asg 7 (.p (.comp .fz [QI,QI,QH 0] (.nm 1) (.e (.fn 31 [↑0,.dnew 1 .fz,.lst (.own [] .fz) [↑3,↑4]])) (.som (.cmp .In ↑1 (.fld "afters" ↑2))) ↑1)),.asg 8 (.p (.fn 18 [↑0,↑1,↑5,↑6,.comp .fz [QI,QI,QH 0] (.nm 1) (.e ↑7) .non (.ix (.fld "afters" ↑2) ↑1)])),.ifs (.p (.cmp .Is ↑8 (.lit .non))) [.ret (.p (.lit (.bl QL)))] [],.unp [9,10] (.p ↑8),.stk,.asg 12 (.p (.fn 32 [↑0,↑11,.lst (.own [] .fz) [↑3,↑4],.fn 6 [.blt "len" [↑5]]])),.ret (.p (.cmp .Eq (.bin .BitAnd (.bin .BitXor (.ix ↑12 ↑3) (.ix ↑12 ↑4)) ↑10) (0)))]
noncomputable abbrev L5:List Str:=["ground","statements","statement","one","other","free","given","memories","trials","found","kept","nexts","later"]
theorem L6:aY L5 ["ground","statements","statement"] (ab mI):=by walk_at "fsc"
abbrev MU:QV:=fN 27
noncomputable def L7:bB:=[.asg 5 (.p (.fn 6 [.blt "len" [↑2]])),.unp [6,7] (.p (.fn 19 [↑1,↑2])),.asg 8 (.p (.fn 20 [↑0,↑1,↑3,↑6,↑5])),.asg 9 (.p (.blt "list" [↑4])),.fo [] (.nm 10) (.p (.e ↑3)) [.stk],.asg 11 (.p (.fn 32 [↑0,↑8,↑9,↑5])),.ifs (.p (.not (.blt "all" [.comp .fz [QI,QI,QH 11] (.nm 1) (.e ↑9) .non (.cmp .In ↑1 ↑2)]))) [.ret (.p (.lit .non))] [],.fo [10,12,13] (.nm 10) (.p (.e ↑3)) [.stk,.stk],.ret (.tup .fz (.fin (.mv 11) [↑7]))]
abbrev MV:QV:=fN 28
noncomputable def L8:bB:=[.asg 2 (.p (.fn 6 [.blt "len" [↑1]])),.asg 3 (.p (.dnew 1 .fz)),.asg 4 (.p ↑2),.fo [5,6,7,8,9] (.tp [.nm 5,.nm 6]) (.p (.enm ↑1)) [.asg 7 (.p (.fn 7 [↑5,.blt "len" [↑1]])),.asg 8 (.p (.ifx (.fn 0 [↑6]) (.ix ↑0 ↑6) (.tup .fz [↑6]))),.fo [9] (.nm 9) (.p (.e ↑8)) [.ifs (.p (.cmp .In ↑9 ↑3)) [.aug 4 .BitAnd (.p (.bin .BitXor (.bin .BitXor ↑2 (.ix ↑3 ↑9)) ↑7))] [.put (.nm 3) ↑9 (.p ↑7)]]],.ret (.tup .fz (.fin (.mv 3) [↑4]))]
abbrev sC:QV:=fN 29
noncomputable def FW:bB:=[.asg 5 (.p (.dnew 0 .fz)),.fo [6] (.nm 6) (.p (.e ↑2)) [.stk,.stk],.stk,.stk,.stk,.ret (.mv 10)]
noncomputable abbrev L9:List Str:=["ground","statements","given","bits","whole","firsts","number","first","second","alone","found"]
theorem Ma:aY L9 ["ground","statements","given","bits","whole"] (ab sC):=by walk_at "fsc"
abbrev MW:QV:=fN 31
def Mb:bB:=[.asg 2 (.p (.bin .Mod (.bin .Add (.bin .Add (.bin .Mult (.bin .Mod ↑0 (2147483647)) (.bin .Add (48271) (.bin .Mult (.bin .Mult (2) ↑1) ↑1))) (.bin .Mult (7919) ↑1)) (12345)) (2147483629))),.asg 2 (.p (.bin .FloorDiv (.bin .Mod (.bin .Mult ↑2 ↑2) (2147483587)) (3))),.ret (.p (.bin .FloorDiv (.bin .Mod (.bin .Mult (.bin .Mod (.bin .Add (.bin .Add (.bin .Mult ↑2 (69621)) (.bin .Mult (16807) ↑1)) (1)) (2147483579)) (.bin .Add (.bin .Mod ↑2 (65521)) (1))) (2147483563)) (5)))]
abbrev MX:QV:=fN 32
def Mc:bB:=[.asg 1 (.p (0)),.fo [] (.nm 2) (.p (.e ↑0)) [.asg 1 (.p (.bin .Mod (.bin .Add (.bin .Mult ↑1 (31)) ↑2) (.bin .Add (.bin .Pow (10) (18)) (9))))],.ret (.p (.lst (.own [.own [] .fz] .fz) [.comp .fz [QI,QI,QI] (.nm 1) (.e ↑0) (.som (.cmp .GtE (.blt "abs" [↑1]) (.bin .Pow (10) (18)))) (.blt "abs" [↑1]),↑1,(0)]))]
abbrev rF:QV:=fN 33
def Jd:bB:=[.wh [] (.p (.bool .And [.cmp .Gt (.blt "len" [.ix ↑0 (0)]) (0),.cmp .Eq (.ix (.ix ↑0 (0)) (0)) (0)])) [.exp (.mut "pop" (.ix (.nm 0) (0)) [(0)])],.ifs (.p (.cmp .Gt (.blt "len" [.ix ↑0 (0)]) (0))) [.asg 2 (.p (.bin .Mod (.ix (.ix ↑0 (0)) (0)) ↑1)),.put (.ix (.nm 0) (0)) (0) (.p (.bin .FloorDiv (.ix (.ix ↑0 (0)) (0)) ↑1)),.ret (.p ↑2)] [],.put (.nm 0) (2) (.p (.bin .Add (.ix ↑0 (2)) (1))),.ret (.p (.bin .Mod (.fn 21 [.ix ↑0 (1),.ix ↑0 (2)]) ↑1))]
abbrev GJ:QV:=fN 34
def GP:bB:=[.asg 3 (.p (.lst (.own [] .fz) [])),.fo [4,5,6] (.nm 4) (.p (.rng (0) ↑2)) [.asg 5 (.io 23 (.ref 0 (.val (.p (4)) []))),.ifs (.p (.cmp .Eq (.bin .Add ↑1 ↑4) (0))) [.asg 5 (.p (0))] [],.asg 6 (.io 23 (.ref 0 (.val (.p (.ix (.lst (.own [] .fz) [(2),(4),(16),(256)]) ↑5)) []))),.exp (.mutM "append" 3 (.tup .fz (.cons (.p ↑6) (.fin (.blt "tuple" (.fin (.comp .fz [QI,QI,QI,QH 1,QH 4,QH 0] (.nm 1) (.p (.rng (0) ↑5)) .non (.io 23 (.ref 5 (.val (.p (.bin .Add ↑3 ↑4)) [])))) [])) []))))],.ret (.mv 3)]
abbrev GO:QV:=fN 35
def Md:bB:=[.asg 5 (.io 23 (.ref 0 (.val (.p (.bin .Add ↑3 (1))) []))),.asg 6 (.io 24 (.ref 0 (.val (.p (.bin .Add ↑1 ↑2)) (.val (.p ↑5) [])))),.asg 7 (.p (.bin .Add (.bin .Add ↑1 ↑2) ↑5)),.asg 8 (.comp .fz [QI,QI,QI,QH 0,QH 7] (.nm 1) (.p (.rng (0) ↑2)) .non (.tup .fz (.cons (.io 23 (.ref 3 (.val (.p (2)) []))) (.fin (.io 23 (.ref 3 (.val (.p ↑4) []))) [])))),.asg 9 (.p (.lst (.own [] .fz) [])),.ifs (.p (.cmp .Gt ↑7 (0))) [.asg 9 (.comp .fz [QI,QI,QI,QH 0,QH 7] (.nm 1) (.p (.rng (0) ↑4)) .non (.io 23 (.ref 3 (.val (.p ↑4) []))))] [],.ret (.tup .fz (.cons (.p ↑1) (.cons (.mv 8) (.cons (.mv 6) (.fin (.mv 9) [])))))]
abbrev MY:QV:=fN 36
def Me:bB:=[.asg 2 (.p (.bin .Add (.ix ↑0 (0)) (.blt "len" [.ix ↑0 (1)]))),.asg 3 (.p (.lst (.own [] .fz) [↑1])),.asg 4 (.p (0)),.wh [] (.p (.cmp .Lt ↑4 (.blt "len" [↑3]))) [.ifs (.p (.cmp .GtE (.ix ↑3 ↑4) ↑2)) [.exp (.mut "extend" (.nm 3) [.comp .fz [QI,QI,QH 3] (.nm 1) (.e (.ix (.ix (.ix ↑0 (2)) (.bin .Sub (.ix ↑3 ↑4) ↑2)) (1))) (.som (.cmp .NotIn ↑1 ↑2)) ↑1])] [],.asg 4 (.p (.bin .Add ↑4 (1)))],.ret (.mv 3)]
abbrev MZ:QV:=fN 37
def Mf:bB:=[.asg 1 (.p (.fn 22 [↑0])),.asg 2 (.io 23 (.ref 1 (.val (.p (4)) []))),.asg 3 (.bin .Add (.cons (.p (1)) (.fin (.io 23 (.ref 1 (.val (.ix (.cons (.p (.lst (.own [] .fz) [(3),(8)])) (.fin (.bin .FloorDiv (.fin (.io 23 (.ref 1 (.val (.p (8)) []))) [(7)])) []))) []))) []))),.asg 4 (.io 25 (.ref 1 (.val (.p ↑2) (.val (.p ↑3) (.val (.p (8)) (.val (.io 23 (.ref 1 (.val (.p (4)) []))) [])))))),.asg 5 (.p (.bin .Add (.bin .Add ↑2 ↑3) (.blt "len" [.ix ↑4 (2)]))),.ret (.tup .fz (.cons (.p ↑4) (.cons (.io 23 (.ref 1 (.val (.p ↑5) []))) (.cons (.io 23 (.ref 1 (.val (.p (2)) []))) (.fin (.io 23 (.ref 1 (.val (.p ↑3) []))) [])))))]
abbrev M0:QV:=fN 38
def Mg:bB:=[.unp [3,4,5,6] (.p ↑0),.asg 7 (.p (.bin .Add ↑3 (.blt "len" [↑4]))),.asg 8 (.p (.comp .fz [QI,QI,QI,QH 7] (.nm 1) (.rng (0) (.bin .Add ↑7 (.blt "len" [↑5]))) .non (.bin .Add ↑1 (.blt "int" [.cmp .GtE ↑1 ↑3])))),.asg 10 (.p (.comp .fz [QI,QI,QI,QH 3,QH 8] (.tp [.nm 1,.nm 2]) (.enm ↑4) .non (.tup .fz [.tup .fz [(0),.bin .Add ↑3 ↑1],.tup .fz [(1),.bin .Add ↑3 ↑1],.lst (.own [] .fz) [.ix ↑4 (.ix ↑2 (1))],.lst (.own [] .fz) []]))),.asg 11 (.p (.ix (.lst (.own [] .fz) [.tup .fz [(0),↑1],.tup .fz [(2),(0)]]) ↑2)),.asg 12 (.p (.comp .fz [QI,QI] (.nm 1) (.e ↑4) .non (.tup .fz [(0),.ix ↑1 (1)]))),.asg 13 (.p (.lst (.own [] .fz) [])),.fo [9,14] (.tp [.nm 9,.nm 14]) (.p (.enm ↑5)) [.exp (.mut "append" (.nm 13) [.tup .fz [.tup .fz [(0),.bin .Add ↑7 ↑9],.tup .fz [(1),.bin .Add ↑7 ↑9],.comp .fz [QI,QI,QH 8] (.nm 1) (.e (.ix ↑14 (1))) .non (.ix ↑2 ↑1),.lst (.own [] .fz) []]])],.pre [10,12,13] (.ret (.p (.tup .fz [.lst (.own [] .fz) [.tup .fz [(1),.tup .fz [.tup .fz [(0),↑1]]]],.bin .Add ↑10 (.lst (.own [] .fz) [.tup .fz [↑11,↑11,↑12,.lst (.own [] .fz) []]]),↑13,.comp .fz [QI,QI,QH 8] (.nm 1) (.e ↑6) .non (.ix ↑2 ↑1)])))]
abbrev ze:QV:=fN 39
def Mh:bB:=[.unp [1,2,3,4] (.p (.fn 27 [↑0])),.asg 5 (.p (.fn 28 [↑1,↑2,↑3])),.asg 6 (.p (.cmp .Eq (.blt "len" [.comp .fz [QI,QI,QH 1] (.nm 1) (.e (.fn 26 [↑1,↑2])) (.som (.cmp .Lt ↑1 (.ix ↑2 (0)))) ↑1]) (0))),.asg 7 (.p (.fn 10 [↑1,↑1,↑5])),.ifs (.p (.bool .Or [.not (.isi "bool" ↑7),.cmp .NotEq ↑7 ↑6])) [.ret (.p (.lit (.bl QL)))] [],.unp [8,9,10,11] (.p ↑1),.asg 12 (.p (.comp .fz [QI,QI,QI,QI,QI,QH 9,QH 4] (.tp [.nm 1,.tp [.nm 2,.nm 3]]) (.enm ↑9) .non (.tup .fz [.bin .BitXor ↑2 (.blt "int" [.cmp .Eq ↑1 ↑6]),.ix (.ix ↑5 ↑1) (1)]))),.pre [12] (.asg 13 (.p (.tup .fz [↑8,↑12,↑10,↑11]))),.ifs (.p (.bool .Or [.cmp .IsNot (.fn 10 [↑1,↑13,↑5]) (.lit (.bl QL)),.cmp .IsNot (.fn 10 [↑13,↑1,↑5]) (.lit (.bl QL))])) [.ret (.p (.lit (.bl QL)))] [],.asg 7 (.p (.fn 10 [↑13,↑13,↑5])),.ifs (.p (.bool .Or [.not (.isi "bool" ↑7),.cmp .NotEq ↑7 ↑6])) [.ret (.p (.lit (.bl QL)))] [],.ret (.p (.bool .And [.cmp .Eq ↑5 (.fn 28 [↑1,↑2,↑3]),.cmp .Eq ↑1 (.ix (.fn 27 [↑0]) (0))]))]
noncomputable abbrev Je:List Str:=["_law_script","_law_circuit_here","_law_place","_law_helped","_law_which","_law_paper_here","_law_due","_law_found","_law_ins","_law_memories","_law_gates_here","_law_outs","_law_begun","_law_other"]
theorem Mi:pN fns an 60 Je ze=QH Mh:=by rfl
theorem Mj:aY Je ["_law_script"] (ab ze):=by walk_at "fsc"
abbrev Jf:QV:=match fN 16 with|.ClassDef _ _ _ b ..=>b.getD 1 (.Pass ⟨0,0,0,0⟩)|s=>s
noncomputable def Ml:bB:=[.unp [3,4,5,6] (.p ↑2),.fo [8,9] (.tp [.nm 7,.tp [.nm 8,.nm 9]]) (.p (.enm ↑4)) [.put (.fld (.nm 0) "begins") (.tup .fz [↑1,.bin .Add ↑3 ↑7]) (.p ↑8),.put (.fld (.nm 0) "afters") (.tup .fz [↑1,.bin .Add ↑3 ↑7]) (.p (.tup .fz [↑1,↑9]))],.fo [7,10,11] (.tp [.nm 7,.tp [.nm 10,.nm 11]]) (.p (.enm ↑5)) [.put (.fld (.nm 0) "gates") (.tup .fz [↑1,.bin .Add (.bin .Add ↑3 (.blt "len" [↑4])) ↑7]) (.p (.tup .fz [↑10,.comp .fz [QI,QI,QH 1] (.nm 1) (.e ↑11) .non (.tup .fz [↑2,↑1])]))]]
noncomputable abbrev Jg:List Str:=["self","which","circuit","ins","memories","gates","outs","k","begin","after","table","places"]
theorem Mm:pN fns an 60 Jg Jf=QH Ml:=by rfl
theorem Mn:aY Jg ["self","which","circuit"] (ab Jf):=by walk_at "fsc"
abbrev zf:QV:=match fN 16 with|.ClassDef _ _ _ b ..=>b.getD 2 (.Pass ⟨0,0,0,0⟩)|s=>s
def GQ:bB:=[.asg 3 (.p (.dnew 1 .fz)),.asg 4 (.p (.blt "list" [↑2])),.wh [5] (.p ↑4) [.asg 5 (.mut "pop" (.nm 4) []),.ifs (.p (.bool .And [.cmp .NotIn ↑5 ↑3,.cmp .NotIn ↑5 ↑1])) [.put (.nm 3) ↑5 (.p (.lit (.bl QJ))),.ifs (.p (.cmp .In ↑5 (.fld "gates" ↑0))) [.exp (.mut "extend" (.nm 4) [.ix (.ix (.fld "gates" ↑0) ↑5) (1)])] []] []],.stk]
noncomputable abbrev Mo:List Str:=["self","known","wanted","found","left","spot"]
theorem Mp:aY Mo ["self","known","wanted"] (ab zf):=by walk_at "fsc"
abbrev zg:QV:=match fN 16 with|.ClassDef _ _ _ b ..=>b.getD 3 (.Pass ⟨0,0,0,0⟩)|s=>s
noncomputable def GR:bB:=[.stk,.fo [5] (.nm 5) (.p (.e (.fn 31 [↑0,↑1,↑2]))) [.ifs (.p (.cmp .In ↑5 (.fld "gates" ↑0))) [.unp [6,7] (.p (.ix (.fld "gates" ↑0) ↑5)),.asg 8 (.p (.comp .fz [QI,QI,QH 4] (.nm 1) (.e ↑7) (.som (.cmp .In ↑1 ↑2)) (.ix ↑2 ↑1))),.ifs (.p (.cmp .Eq (.blt "len" [↑8]) (.blt "len" [↑7]))) [.put (.nm 4) ↑5 (.p (.fn 8 [↑6,↑8,↑3]))] []] []],.ret (.mv 4)]
noncomputable abbrev Mq:List Str:=["self","known","wanted","whole","found","spot","table","spots","columns"]
theorem Mr:aY Mq ["self","known","wanted","whole"] (ab zg):=by walk_at "fsc"
abbrev uS:QV:=match fN 16 with|.ClassDef _ _ _ b ..=>b.getD 0 (.Pass ⟨0,0,0,0⟩)|s=>s
def FX:bB:=[.putF "Ground" (.nm 0) "gates" (.p (.dnew 1 .fz)),.putF "Ground" (.nm 0) "begins" (.p (.dnew 1 .fz)),.putF "Ground" (.nm 0) "afters" (.p (.dnew 1 .fz)),.stk,.stk,.fo [] (.tp [.nm 4,.nm 5]) (.p (.enm ↑3)) [.put (.fld (.nm 0) "gates") (.tup .fz [(2),↑4]) (.p ↑5)]]
end
noncomputable abbrev Ms:List Str:=["self","one","other","helpers","k","helper"]
theorem Mt:aY Ms ["self","one","other","helpers"] (ab uS):=by walk_at "fsc"
noncomputable def U0:GG:=⟨λ_=>QI,λ_=>QI⟩
def ψ0:Fn:=bQ U0 1000 1 1 b0
def U_0:GG:=U0.addI 0 ψ0
def ψ1:Fn:=bQ U_0 1000 2 2 b1
def U_1:GG:=U_0.addI 1 ψ1
def ψ2:Fn:=bQ U_1 1000 2 2 b2
def U_2:GG:=U_1.addI 2 ψ2
def ψ3:Fn:=bQ U_2 1000 2 2 b3
def U_3:GG:=U_2.addI 3 ψ3
def ψ4:Fn:=bQ U_3 1000 2 2 b4
def U_4:GG:=U_3.addI 4 ψ4
def ψ5:Fn:=bQ U_4 1000 1 1 b5
def U_5:GG:=U_4.addI 5 ψ5
def ψ6:Fn:=bQ U_5 1000 1 1 b6
def U_6:GG:=U_5.addI 6 ψ6
def ψ7:Fn:=bQ U_6 1000 2 5 b7
def U_7:GG:=U_6.addI 7 ψ7
def ψ8:Fn:=bQ U_7 1000 3 5 b8
def U_8:GG:=U_7.addI 8 ψ8
def ψ9:Fn:=bQ U_8 1000 2 2 b9
def U_9:GG:=U_8.addI 9 ψ9
def Ka:Fn:=bQ U_9 1000 2 2 LZ
def U_12:GG:=U_9.addI 12 Ka
def Jh:Fn:=bQ U_12 1000 3 5 L0
def U_13:GG:=U_12.addI 13 Jh
def Kb:Fn:=bQ U_13 1000 3 10 LY
def U_11:GG:=U_13.addI 11 Kb
def zh:Ro->Option Res:=λZ=>cg (aD U_11 1000 (bh GQ 3) [] Z) λZ=>rV (wJ (wc (eG 3 Z[3]?)) Z)
def Kc:Fn:=wb "Ground.all_below" (jS zh 3 6)
def U_31:GG:=U_11.addI 31 Kc
def Ji:Fn:=bQ U_31 1000 2 2 L1
def U_14:GG:=U_31.addI 14 Ji
def wg:Ro->Option Res:=λZ=>cg (ff [] 4 (wJ (pZ (eG 1 Z[1]?)) Z)) λZ=>aD U_14 1000 (bj GR 1) [] Z
def B0:Fn:=wb "Ground.reckoned" (jS wg 4 9)
def U_32:GG:=U_14.addI 32 B0
def Jj:Fn:=bQ U_32 1000 2 3 L3
def U_15:GG:=U_32.addI 15 Jj
def GS:Fn:=bQ U_15 1000 2 10 L8
def U_19:GG:=U_15.addI 19 GS
def FY:Ro->Option Res:=λZ=>ff [] 9 (wJ (xP (U_19.fn 32) (cy (eG 0 Z[0]?) (cy (eG 3 Z[3]?) (cy (LR (eG 5 Z[5]?)) (cy (eG 4 Z[4]?) (QH [])))))) Z)
def FZ:Ro->Option Res:=λZ=>ff [] 10 (wJ (pZ (eG 3 Z[3]?)) Z)
def F5:Ro->Option Res:=λZ=>pK [] [] (.tp [.nm 8,.nm 7]) (λ_ _=>QI) (FL 5 Z)
def wj:Ro->Option Res:=λZ=>cg (aD U_19 1000 (bh FW 2) [] Z) λZ=>cg (FY Z) λZ=>cg (FZ Z) λZ=>cg (F5 Z) λZ=>aD U_19 1000 (bj FW 5) [] Z
def Ke:Fn:=jS wj 5 11
def U_20:GG:=U_19.addI 20 Ke
def Kf:Fn:=bQ U_20 1000 5 14 L7
def U_18:GG:=U_20.addI 18 Kf
def Kg:Fn:=bQ U_18 1000 3 10 L4
def U_16:GG:=U_18.addI 16 Kg
def F6:Ro->Option Res:=λZ=>ff [] 11 (wJ (eN 1 (fW U_16.fn (.e (.var 7)) Z) (gC (.nm 1) (λ_=>QH QJ) (aa U_16.fn (.var 1)) (aa U_16.fn (.ix (.var 2) (.ix (.fld "afters" (.var 3)) (.var 1)))) (aJ Z [QI,QI,QH 9,QH 0]))) Z)
def wk:Ro->Option Res:=λZ=>cg (aD U_16 1000 (bh C9 5) [] Z) λZ=>cg (F6 Z) λZ=>aD U_16 1000 (bj C9 6) [] Z
def F7:Fn:=jS wk 3 13
def Jk:GG:=U_16.addI 17 F7
def Da:Fm:=la Jk 1000 3 12 [0] Ml
abbrev U_30:GG:=Jk
def zi(i:Int)(j:Nat):Ro->Option (List RA×Ro):=e6 U_30 (.val (.p (.lit (.int i))) (.val (.p (.var j)) .nil))
def p9(i:Int)(j:Nat):Ro->Option Res:=λZ=>yu (BZ "Ground" "put_circuit" 0 Da (zi i j) Z)
def qc:Ro->Option Res:=λZ=>cg (aD U_30 1000 (bh FX 3) [0] Z) λZ=>cg (p9 0 1 Z) λZ=>cg (p9 1 2 Z) λZ=>aD U_30 1000 (bj FX 5) [0] Z
def Kh:Fn:=yH (.own [] (.own [] .fz)) "Ground" (lu qc 4 6 [0])
def U_33:GG:=U_30.addI 33 Kh
def Db:Fn:=bQ U_33 1000 3 10 LX
def U_10:GG:=U_33.addI 10 Db
def Jl:Fn:=bQ U_10 1000 2 3 Mb
def U_21:GG:=U_10.addI 21 Jl
def Ki:Fn:=bQ U_21 1000 1 3 Mc
def U_22:GG:=U_21.addI 22 Ki
def GU:Fm:=la U_22 1000 2 3 [0] Jd
def U_23:GG:=U_22.addM 23 GU
def Kj:Fm:=la U_23 1000 3 7 [0] GP
def U_24:GG:=U_23.addM 24 Kj
def Kl:Fm:=la U_24 1000 5 10 [0] Md
def U_25:GG:=U_24.addM 25 Kl
def GV:Fn:=bQ U_25 1000 2 5 Me
def U_26:GG:=U_25.addI 26 GV
def GW:Fn:=bQ U_26 1000 1 6 Mf
def U_27:GG:=U_26.addI 27 GW
def Jm:Fn:=bQ U_27 1000 3 15 Mg
def U_28:GG:=U_27.addI 28 Jm
def Jn:Fn:=bQ U_28 1000 1 14 Mh
noncomputable abbrev n0:QN:=.Name "" ⟨0,0,0,0⟩
abbrev cut(s:QV)(i n:Nat):List QV:=((aB s).drop i).take n
abbrev Dc(s:QV)(i:Nat):QV:=(cut s i 1).getD 0 (.Pass ⟨0,0,0,0⟩)
theorem Dd{s:QV}(h:cX X pn f s):aX X pn f [s]:=λZ r e g Y H a b q=>rT (Am IF) (h Z r e g Y H a b q)
abbrev M3:Cz:=⟨ab zf,["self","known","wanted","found","left","spot"],λ_=>QJ⟩
theorem wm(X:Cx)(O:ao X (a5 fns U_11) M3)(a:PassesOwn (QS X.prog X.w) X.A X.env X.xe):aX X [] zh (aB zf):=by
 let c:aX X [] (aD U_11 1000 (bh GQ 3) []) (cut zf 0 3):=eM U_11 (λs d h=>jJ fns U_11 O a 60 h) (show cB fns an 60 M3 60 (cut zf 0 3)=QH (bh GQ 3) by rfl) [];let b:aX X [] (λZ=>rV (wJ (wc (eG 3 Z[3]?)) Z)) (cut zf 3 1):=Dd (CL (Jb O (by rfl) (by rfl) (g6 O (by rfl) _)).m);show(fq c b:aX X [] zh (cut zf 0 3++cut zf 3 1))
abbrev M4:Cz:=⟨ab zg,["self","known","wanted","whole","found","spot","table","spots","columns"],λ_=>QJ⟩
theorem zj(X:Cx)(O:ao X (a5 fns U_14) M4)(a:PassesOwn (QS X.prog X.w) X.A X.env X.xe):aX X [] wg (aB zg):=by
 let c:aX X [] (λZ=>ff [] 4 (wJ (pZ (eG 1 Z[1]?)) Z)) (cut zg 0 1):=Dd (uh O (by rfl) (by rfl) (by rfl) (C6 O (by rfl) (by rfl) (g6 O (by rfl) _)).m);let b:aX X [] (aD U_14 1000 (bj GR 1) []) (cut zg 1 2):=eM U_14 (λs d h=>jJ fns U_14 O a 60 h) (show cB fns an 60 M4 60 (cut zg 1 2)=QH (bj GR 1) by rfl) [];show(fq c b:aX X [] wg (cut zg 0 1++cut zg 1 2))
abbrev M5:Cz:=⟨ab sC,["ground","statements","given","bits","whole","firsts","number","first","second","alone","found"],λ_=>QJ⟩
theorem wn(X:Cx)(O:ao X (a5 fns U_19) M5)(c:PassesOwn (QS X.prog X.w) X.A X.env X.xe):aX X [] wj (aB sC):=by
 let a:∀{d:List QV} {b:bB},cB fns an 60 M5 60 d=QH b->aX X [] (aD U_19 1000 b []) d:=λh=>eM U_19 (λs l h=>jJ fns U_19 O c 60 h) h [];let g:aX X [] (aD U_19 1000 (bh FW 2) []) (cut sC 0 2):=a (by rfl);let e:aX X [] FY (cut sC 2 1):=Dd (uh O (by rfl) (by rfl) (by rfl) (Cy O (y:="Ground.reckoned") (by rfl) (g6 O (by rfl) _) (fG (by rfl) (g6 O (by rfl) _) (fG (by rfl) (LV O (by rfl) (by rfl) (by rfl) (g6 O (by rfl) _)) (fG (by rfl) (g6 O (by rfl) _) jY))) (by rfl) (by rfl) (by rfl) (by rfl) (by decide)).m);let f:aX X [] FZ (cut sC 3 1):=Dd (uh O (by rfl) (by rfl) (by rfl) (C6 O (by rfl) (by rfl) (g6 O (by rfl) _)).m)
 let i:aX X [] F5 (cut sC 4 1):=Dd (yz O c (n:=4) (by rfl) (Jc O (by rfl) (by rfl) (by rfl)) (λk Z r h=>nomatch h) (by rfl))
 let j:aX X [] (aD U_19 1000 (bj FW 5) []) (cut sC 5 1):=a (by rfl);show(fq g (fq e (fq f (fq i j))):aX X [] wj (cut sC 0 2++(cut sC 2 1++(cut sC 3 1++(cut sC 4 1++cut sC 5 1)))))
abbrev Km:Cz:=⟨ab mI,["ground","statements","statement","one","other","free","given","memories","trials","found","kept","nexts","later"],λ_=>QJ⟩
abbrev kE:QN:=match Dc mI 5 with|.Assign _ (.DictComp k _ _ _ _) _=>k|_=>n0
abbrev vE:QN:=match Dc mI 5 with|.Assign _ (.DictComp _ v _ _ _) _=>v|_=>n0
abbrev tE:QN:=match Dc mI 5 with|.Assign _ (.DictComp _ _ (g::_) _ _) _=>g.target|_=>n0
abbrev iE:QN:=match Dc mI 5 with|.Assign _ (.DictComp _ _ (g::_) _ _) _=>g.iter|_=>n0
abbrev sE:Q0:=match Dc mI 5 with|.Assign _ (.DictComp _ _ _ s _) _=>s|_=>ab mI
abbrev Nj:Pos:=match Dc mI 5 with|.Assign _ (.DictComp _ _ _ _ p) _=>p|_=>⟨0,0,0,0⟩
abbrev pE:Pos:=match Dc mI 5 with|.Assign [.Name _ p] _ _=>p|_=>⟨0,0,0,0⟩
abbrev qE:Pos:=match Dc mI 5 with|.Assign _ _ p=>p|_=>⟨0,0,0,0⟩
theorem zk(X:Cx)(O:ao X (a5 fns U_16) Km)(i:PassesOwn (QS X.prog X.w) X.A X.env X.xe):aX X [] wk (aB mI):=by
 let e:∀{f:List QV} {b:bB},cB fns an 60 Km 60 f=QH b->aX X [] (aD U_16 1000 b []) f:=λh=>eM U_16 (λs m h=>jJ fns U_16 O i 60 h) h [];let d:=λ(g:Cx) (c:Cz) (P:ao g (a5 fns U_16) c)=>(cz fns U_16.fn 60).1 g c P;let k:aX X [] (aD U_16 1000 (bh C9 5) []) (cut mI 0 5):=e (by rfl)
 let j:aX X [] F6 (cut mI 5 1):=by
  let h:=Fs (pn:=[]) O (x:="nexts") (z:=1) (n:=4) (kx:=kE) (elt:=vE) (tg:=tE) (iter:=iE) (scope:=sE) (cp:=Nj) (p:=pE) (pos:=qE) (by rfl) (by rfl) (by rfl) (by rfl) (tX fns U_16.fn O (d X Km O) (by rfl)) (by rfl) (λC s H a=>CB) (λC s H a=>d _ _ (cW O (by rfl) C s H a) _ (.var 1) (by rfl)) (λC s H a=>d _ _ (cW O (by rfl) C s H a) _ (.ix (.var 2) (.ix (.fld "afters" (.var 3)) (.var 1))) (by rfl));rw[show au Km sE=[QI,QI,QH 9,QH 0] by rfl] at h;show Dd h
 let l:aX X [] (aD U_16 1000 (bj C9 6) []) (cut mI 6 2):=e (by rfl);show(fq k (fq j l):aX X [] wk (cut mI 0 5++(cut mI 5 1++cut mI 6 2)))
abbrev Jo:Cz:=⟨ab uS,["self","one","other","helpers","k","helper"],λ_=>QJ⟩
theorem sD(e:Oa K QZ "Ground" = QH (QH (.ref C)))(m:Cls K C)(o:oH K C "put_circuit" f)(F:FnOk P w K mg base iO k f fd ps (v3 K Da))(c:Binds K fd ps [])(X:Cx)(O:ao X (a5 fns U_30) Jo)(q:PassesOwn (QS X.prog X.w) X.A X.env X.xe)(v:C8 P w K mg base k X):aX X [0] qc (aB uS):=by
 obtain⟨rfl,rfl,rfl,rfl,rfl,n⟩:=v;let g:∀{d:List QV} {b:bB},cB fns an 60 Jo 60 d=QH b->aX X [0] (aD U_30 1000 b [0]) d:=λh=>eM U_30 (λs B h=>jJ fns U_30 O q 60 h) h [0];let p:=(cz fns U_30.fn 60).1 X Jo O;let z:aX X [0] (aD U_30 1000 (bh FX 3) [0]) (cut uS 0 3):=g (by rfl)
 let l:∀(i:Int) (j:Nat) (a b:QN),ah a=QJ->ah b=QJ->cE fns 60 Jo a=QH (.lit (.int i))->cE fns 60 Jo b=QH (.var j)->f7 X (zi i j) [a,b]:=λi j a b u x e1 e2=>
  yd u (rS U_30 (p _ _ e1)) (yd x (rS U_30 (p _ _ e2)) CF)
 let y:aX X [0] (p9 0 1) (cut uS 3 1):=Dd (yw (by rfl) (C7 O (by rfl) e m o F n c (by rfl) (by rfl) (by rfl) (by rfl) (by decide) (l 0 1 _ _ (by rfl) (by rfl) (by rfl) (by rfl))));let r:aX X [0] (p9 1 2) (cut uS 4 1):=Dd (yw (by rfl) (C7 O (by rfl) e m o F n c (by rfl) (by rfl) (by rfl) (by rfl) (by decide) (l 1 2 _ _ (by rfl) (by rfl) (by rfl) (by rfl))));let t:aX X [0] (aD U_30 1000 (bj FX 5) [0]) (cut uS 5 1):=g (by rfl);show(fq z (fq y (fq r t)):aX X [0] qc (cut uS 0 3++(cut uS 3 1++(cut uS 4 1++cut uS 5 1))))
noncomputable abbrev k0:Ow:=.own [] .fz
noncomputable abbrev iD(n:Nat):D:=.int (n:Int)
noncomputable abbrev fS(d:D):Option Sl:=QH ⟨QL,.fz,d⟩
abbrev bM(d:D):Option Sl:=QH ⟨QL,k0,d⟩
theorem aL(h:Wp B λx=>x=r):B=QH r:=by obtain⟨x,e,rfl⟩:=h;show e
theorem qe{α:Type}{B:Option α}{r:α}(h:Wp B λx=>x=r):B=QH r:=by obtain⟨x,e,rfl⟩:=h;show e
theorem wv{α:Type}{a:Option α}{r:α}{Q:α->Prop}(h:a=QH r)(q:Q r):Wp a Q:=⟨r,h,q⟩
section
variable {U:Nat->Option Fn} {Z:Ro} {a b c:IE} {r:fV} {k k' k'':Kd} {i j l:Int} {x y z:Bool} {d d':D} {xs:List D} {hd:Hd}
theorem bC(d:aa U a Z=QH (k,.int i))(c:aa U b Z=QH (k',.int j)):aa U (.bin .Add a b) Z=QH (.sh,.int (i+j)):=aL (a6 (wv d (wv c (yO rfl))))
theorem Jp(d:aa U a Z=QH (k,.int i))(c:aa U b Z=QH (k',.int j)):aa U (.bin .Sub a b) Z=QH (.sh,.int (i-j)):=aL (a6 (wv d (wv c (sn rfl))))
theorem iw(h:0<j)(d:aa U a Z=QH (k,.int i))(c:aa U b Z=QH (k',.int j)):aa U (.bin .Mod a b) Z=QH (.sh,.int (i%j)):=aL (a6 (wv d (wv c (Fz h rfl))))
theorem uT{xs ys:List D}(h:dY k xs=QJ/\dY k' ys=QJ/\xs.length+ys.length<=100000)(c:aa U a Z=QH (k,.lst xs))(d:aa U b Z=QH (k',.lst ys)):aa U (.bin .Add a b) Z=QH (.fr bS,.lst (xs++ys)):=aL (a6 (wv c (wv d (FB h rfl))))
theorem De{z:Int}{n:Nat}(b:hd=.lst\/hd=.tup)(hz:jN xs.length z=QH n)(a:xs[n]?=QH d):xE (QH (k,.nd hd xs)) (QH (k',.int z))=QH (mn k n,d):=by
 rcases b with rfl|rfl
 ·show aL (FE hz a rfl)
 ·show aL (FF hz a rfl)
theorem Df{m n:Nat}{z:Int}(hz:z=n)(h:n<m):jN m z=QH n:=by subst hz;rw[uG (by lia) (by lia)];rfl
theorem bN{n:Nat}{z:Int}(e:aa U a Z=QH (k,.nd hd xs))(g:aa U b Z=QH (k',.int z))(f:hd=.lst\/hd=.tup)(hz:z=n)(c:xs[n]?=QH d):aa U (.ix a b) Z=QH (mn k n,d):=by
 rw[xS,e,g];show De f (Df hz (Nq.mp c).1) c
theorem mJ(b:aa U a Z=QH (k,d))(h:A5 d=QH n):aa U (.blt "len" (.cons a .nil)) Z=QH (.sh,.int n):=aL (eO (aC (wv b (ba (FG h rfl)))))
theorem e1{p:KD}(b:aa U a Z=QH p):aW U (.cons a .nil) Z=QH [p]:=qe (aC (wv b (ba rfl)))
theorem e2(d:aa U a Z=QH p)(c:aa U b Z=QH q):aW U (.cons a (.cons b .nil)) Z=QH [p,q]:=qe (aC (wv d (aC (wv c (ba rfl)))))
theorem e3(f:aa U a Z=QH p)(d:aa U b Z=QH q)(e:aa U c Z=QH u):aW U (.cons a (.cons b (.cons c .nil))) Z=QH [p,q,u]:=qe (aC (wv f (aC (wv d (aC (wv e (ba rfl)))))))
theorem e4(h:aa U a Z=QH p)(d:aa U b Z=QH q)(f:aa U c Z=QH u)(g:aa U e Z=QH t):aW U (.cons a (.cons b (.cons c (.cons e .nil)))) Z=QH [p,q,u,t]:=qe (aC (wv h (aC (wv d (aC (wv f (aC (wv g (ba rfl)))))))))
theorem bA{B:Fn}{kds:List KD}{p:KD}(c:U n=QH B)(a:aW U es Z=QH kds)(hk:(kds.all λp=>q0 p.1 p.2)=QJ)(hd:kds.map (·.2)=ds)(d:B ds=QH p)(b:bw p.1=QL):aa U (.fn n es) Z=QH p:=
 aL (yM c (wv a (uI ⟨p,by rw[hd];show d,b,.inl hk,rfl⟩)))
theorem gh{B:Fn}{kds:List KD}{p:KD}(c:U n=QH B)(a:aW U es Z=QH kds)(hk:kM p.1 p.2=QJ)(hd:kds.map (·.2)=ds)(d:B ds=QH p)(b:bw p.1=QL):aa U (.fn n es) Z=QH p:=
 aL (yM c (wv a (uI ⟨p,by rw[hd];show d,b,.inr hk,rfl⟩)))
/- tests -/
theorem cb(e:aa U a Z=QH (k,d))(c:aa U b Z=QH (k',d'))(h:cH op d d'=QH x):aK U (.cmp op a b) Z=QH x:=qe (si (wv e (wv c (wv h rfl))))
theorem Jq(d:aa U a Z=QH (k,.int i))(c:aa U b Z=QH (k',.int j)):aK U (.cmp .Lt a b) Z=QH (decide (i<j)):=cb d c rfl
theorem F8(d:aa U a Z=QH (k,.int i))(c:aa U b Z=QH (k',.int j)):aK U (.cmp .Gt a b) Z=QH (decide (j<i)):=cb d c rfl
theorem Jr(d:aa U a Z=QH (k,.int i))(c:aa U b Z=QH (k',.int j)):aK U (.cmp .GtE a b) Z=QH (decide (j<=i)):=cb d c rfl
theorem n8(d:aa U a Z=QH (k,.int i))(c:aa U b Z=QH (k',.int j)):aK U (.cmp .Eq a b) Z=QH (decide (i=j)):=cb d c (qe (CW rfl))
theorem Js(d:aa U a Z=QH (k,.int i))(c:aa U b Z=QH (k',.int j)):aK U (.cmp .NotEq a b) Z=QH (!decide (i=j)):=cb d c (qe (CY rfl))
theorem uU(b:aa U a Z=QH (k,d)):aK U (.cmp .Is a (.lit .non)) Z=QH (xB d):=cb b rfl rfl
theorem c9(h:aK U a Z=QH x):aK U (.not a) Z=QH (!x):=by rw[xU,h];rfl
theorem fy(h:aK U a Z=QH x):aK U (.bool op (.cons a .nil)) Z=QH x:=qe (pR (wv h rfl))
theorem lR(h:aK U a Z=QH x)(h2:x=QL->aK U (.bool .Or (.cons b r)) Z=QH y):aK U (.bool .Or (.cons a (.cons b r))) Z=QH (x||y):=by
 show qe (lg (wv h ?_));cases x
 ·show⟨λ_=>wv (h2 rfl) rfl,λh=>absurd rfl h⟩
 ·show⟨λh=>absurd h (by decide),λ_=>rfl⟩
theorem uV(h:aK U a Z=QH x)(h2:x=QJ->aK U (.bool .And (.cons b r)) Z=QH y):aK U (.bool .And (.cons a (.cons b r))) Z=QH (x&&y):=by
 show qe (lg (wv h ?_));cases x
 ·show⟨λh=>absurd h (by decide),λ_=>rfl⟩
 ·show⟨λ_=>wv (h2 rfl) rfl,λh=>absurd rfl h⟩
theorem qf(h:aa U (.fn n es) Z=QH (k,.bl x)):aK U (.fn n es) Z=QH x:=by rw[Bm,<- xT,h];rfl
theorem Dg(h:aa U (.blt n es) Z=QH (k,.bl x)):aK U (.blt n es) Z=QH x:=by rw[xX,<- tU,h];rfl
theorem qg(b:aa U a Z=QH (k,d))(h:nE T d=QH x):aK U (.isi T a) Z=QH x:=by
 rw[xW,<- tT,show aa U (.isi T a) Z=QH (.sh,.bl x) from aL (sg (wv b (wv h rfl)))];rfl
theorem Jt{n:Nat}{s:Sl}(h:Z[n]?=QH (QH s))(a:vT s.d=QH x):aK U (.var n) Z=QH x:=by
 rw[xV,h];change eI (QH (oW n s))=_;unfold eI;obtain⟨b,c,e⟩:=s
 cases b<;>(unfold oW;first|show a|(split<;>show a))
/- truths as values -/
theorem eB(h:aK U (.cmp op a b) Z=QH x):aa U (.cmp op a b) Z=QH (.sh,.bl x):=by rw[Bg,<- pj,h];rfl
theorem B1(f:aa U a Z=QH (k,.int i))(d:aa U b Z=QH (k',.int j))(e:aa U c Z=QH (k'',.int l)):aa U (.chain .LtE .Lt a b c) Z=QH (.sh,.bl (decide (i<=j)&&decide (j<l))):=by
 rw[vZ,f,d,e]
 change bV (match QH (decide (i<=j)) with|some QJ=>QH (decide (j<l))|some QL=>QH QL|none=>QI)=_
 cases decide (i<=j)<;>rfl
theorem qi(b:aa U a Z=QH (k,d))(h:nE T d=QH x):aa U (.isi T a) Z=QH (.sh,.bl x):=aL (sg (wv b (wv h rfl)))
theorem Ju(h:aa U a Z=QH (k,d))(b:vT d=QH x):aa U (.not a) Z=QH (.sh,.bl (!x)):=aL (yI (wv h (wv b rfl)))
theorem fA(h:aa U a Z=QH p):aa U (.bool op (.cons a .nil)) Z=QH p:=aL (pQ (wv h rfl))
theorem cm(h:aa U a Z=QH (k,.bl x))(h2:x=QJ->aa U (.bool .And (.cons b r)) Z=QH (.sh,.bl y)):aa U (.bool .And (.cons a (.cons b r))) Z=QH (.sh,.bl (x&&y)):=by
 show aL (lf (wv h ⟨x,rfl,?_⟩));cases x
 ·show⟨λh=>absurd h (by decide),λ_=>rfl⟩
 ·show⟨λ_=>wv (h2 rfl) rfl,λh=>absurd rfl h⟩
theorem F9(h:aa U a Z=QH (k,.bl x))(h2:x=QL->aa U (.bool .Or (.cons b r)) Z=QH (.sh,.bl y)):aa U (.bool .Or (.cons a (.cons b r))) Z=QH (.sh,.bl (x||y)):=by
 show aL (lf (wv h ⟨x,rfl,?_⟩));cases x
 ·show⟨λ_=>wv (h2 rfl) rfl,λh=>absurd rfl h⟩
 ·show⟨λh=>absurd h (by decide),λ_=>rfl⟩
theorem Dh(h:aK U t Z=QH x)(h1:x=QJ->aa U a Z=QH p)(h2:x=QL->aa U b Z=QH p):aa U (.ifx t a b) Z=QH p:=aL (yJ (wv h ⟨λe=>wv (h1 e) rfl,λe=>wv (h2 e) rfl⟩))
/- comprehensions -/
theorem Ga{α:Type}{f:α->D}{l:List α}{ys:List D}(b:ys.length=l.length)(h:∀(i:Nat) y,ys[i]?=QH y->∃a,l[i]?=QH a/\y=f a):ys=l.map f:=by
 show OL λi=>?_;rw[Nu]
 cases e:ys[i]? with
 |none=>
  have:l[i]?=QI:=N6 (by have:=OM.mp e;lia);rw[this];rfl
 |some y=>
  obtain⟨a,e1,rfl⟩:=h i y e;rw[e1];rfl
theorem lx{α:Type}{l:List α}{f g:α->D}{r:Ow}{i:D->Option (Option KD)}(h:∀a∈l,Wp (i (f a)) λo=>∃c,o=QH (c,g a)/\bK r (c,g a)=QJ):Wp (aO r i (l.map f)) λys=>ys=l.map g:=by
 show LQ (λj y=>∃a,l[j]?=QH a/\y=g a) (λj d b=>?_) λys m k=>Ga (by rw[m,Nt]) k;rw[Nu] at b
 cases e:l[j]? with
 |none=>rw[e] at b;cases b
 |some a=>
  rw[e] at b;cases b;show(h a (NO e)).mono λo ⟨c,e1,e2⟩=>⟨_,e1,e2,a,rfl,rfl⟩
theorem n9(n:Nat):dP 0 n=(NP n).map iD:=by
 unfold dP;rw[Int.sub_zero,Ov];show Oc λk _=>by rw[Int.zero_add]
theorem lS{α:Type}{l:List α}{f g:α->D}{hd:Hd}{r:Ow}{cap:List (Option Nat)}{tg:IT}{a elt:IE}(m:hd=.lst\/hd=.tup)(j:aa U a Z=QH (k,.nd hd (l.map f)))(b:dY k (l.map f)=QJ)(d:l.length<=100000)
  (h:∀a∈l,Wp (dv tg (cK U .non) (aa U elt) (aJ Z cap) (f a)) λo=>∃c,o=QH (c,g a)/\bK r (c,g a)=QJ):aa U (.comp r cap tg (.e a) .non elt) Z=QH (.fr (.own [] r),.lst (l.map g)):=by
 show aL (dH (jl (wv j ?_)));rcases m with rfl|rfl
 ·show fu b ⟨by simpa using d,(lx h).mono λi e=>by rw[e]⟩
 ·show lp b ⟨by simpa using d,(lx h).mono λi e=>by rw[e]⟩
theorem Gb{n:Nat}{g:Nat->D}{r:Ow}{cap:List (Option Nat)}{tg:IT}{a elt:IE}(d:aa U a Z=QH (k,iD n))(f:n<=100000)
  (h:∀i,i<n->Wp (dv tg (cK U .non) (aa U elt) (aJ Z cap) (iD i)) λo=>∃b,o=QH (b,g i)/\bK r (b,g i)=QJ):aa U (.comp r cap tg (.rng (.lit (.int 0)) a) .non elt) Z=QH (.fr (.own [] r),.lst ((NP n).map g)):=by
 show aL (dH (jm (a9 (wv d (ln (dq (by lia) (by lia) (by lia) (by lia) (by lia)) ⟨?_,?_⟩)))))
 ·change(dP 0 (n:Int)).length<=_;rw[n9,Nt,Ox];show f
 ·change Wp (aO r _ (dP 0 (n:Int))) _;rw[n9];show(lx λi c=>h i (Od.mp c)).mono λj e=>by rw[e]
theorem wo{a:Ro->Option KD}{Q:Option KD->Prop}(b:bL [(1,d)] Z0=QJ)(h:Wp (a (setAll [(1,d)] Z0)) λx=>Q (QH x)):Wp (dv (.nm 1) (cK U .non) a Z0 d) Q:=pW rfl b rfl h
theorem Kn{a b:D}{d:Ro->Option KD}{c:Ro}{Q:Option KD->Prop}(e:bL [(1,a),(2,b)] c=QJ)(h:Wp (d (setAll [(1,a),(2,b)] c)) λx=>Q (QH x)):Wp (dv (.tp [.nm 1,.nm 2]) (cK U .non) d c (.tup [a,b])) Q:=pW rfl e rfl h
/- all,any,sum,min over a comprehension -/
theorem zl{bs:List Bool}(h:aa U a Z=QH (k,.lst (bs.map D.bl))):aa U (.blt "all" (.cons a .nil)) Z=QH (.sh,.bl (bs.all id)):=aL (eO (aC (wv h (ba (FH rfl)))))
end
section
variable {U:GG} {N:Nat} {pn:List Nat} {Z:Ro} {Q:Res->Prop} {rest:bB}
theorem gm(h:Wp (aD U N rest pn Z) Q):Wp (aD U N .nil pn Z) (Kt U N rest pn Q):=a8 (eh h)
theorem jT(h:aK U.fn t Z=QH z)(h1:z=QJ->Wp (aD U N a pn Z) (Kt U N rest pn Q))(h2:z=QL->Wp (aD U N b pn Z) (Kt U N rest pn Q)):Wp (aD U N (.cons (.ifs (.p t) a b) rest) pn Z) Q:=
 IX (jK (wv h ⟨h1,h2⟩))
theorem eR{x:KD}(h:aK U.fn t Z=QH z)(h1:z=QJ->aa U.fn e Z=QH x/\bw (dF x.1 x.2)=QL/\Q (.rt (dF x.1 x.2) x.2 Z))(h2:z=QL->Wp (aD U N rest pn Z) Q):Wp (aD U N (.cons (.ifs (.p t) (.cons (.ret (.p e)) .nil) .nil) rest) pn Z) Q:=
 jT h (λa=>eA (cJ (wv (h1 a).1 ⟨(h1 a).2.1,uN (h1 a).2.2⟩))) λa=>gm (h2 a)
theorem aw{x:KD}(h:aa U.fn e Z=QH x)(a:bw (dF x.1 x.2)=QL)(b:i∉pn)(w:Wp (aD U N rest pn (Z.set i (QH ⟨QL,GL (dF x.1 x.2),x.2⟩))) Q):Wp (aD U N (.cons (.asg i (.p e)) rest) pn Z) Q:=
 dJ (cJ (wv h ⟨⟨a,b⟩,w⟩))
theorem bP{x:KD}(h:aa U.fn e Z=QH x)(a:bw (dF x.1 x.2)=QL)(q:Q (.rt (dF x.1 x.2) x.2 Z)):Wp (aD U N (.cons (.ret (.p e)) rest) pn Z) Q:=eA (cJ (wv h ⟨a,q⟩))
end
theorem fB{ds:List D}(a:ds.length=m)(h:Wp (aD U N body [] (k9 k (ds.map uA))) λr=>Wp (fj (QH r)) λx=>x=p):bQ U N m k body ds=QH p:=aL (n5 a h)
theorem eU(a:bw kd=QL)(q:(kd,d)=p):Wp (fj (QH (.rt kd d Z))) λx=>x=p:=gg a q
theorem mN{i:Ro->Option (Bool×Ro)}{g:Ro->Option Res}{Q:Res->Prop}(I:Nat->Ro->Prop)(f:∀m Z,I m Z->Wp (i (clrN fg Z)) λp=>(p.1=QL->Q (.nx p.2))/\(p.1=QJ->Wp (g p.2) λr=>(∃Z' a,(r=.nx Z'\/r=.ct Z')/\a<m/\I a Z')\/∃k d Z',r=.rt k d Z'/\Q (.rt k d Z'))):∀n m Z,m<n->I m Z->Wp (jR fg i g n Z) Q
 |0,m,Z,h,_=>absurd h (Nat.not_lt_zero _)
 |n+1,m,Z,h,hI=>by
  obtain⟨⟨b,s⟩,e1,o,j⟩:=f m Z hI
  cases b with
  |false=>show⟨.nx s,by unfold jR;rw[e1],o rfl⟩
  |true=>
   obtain⟨r,e2,e⟩:=j rfl;rcases e with⟨Z',a,e,t,c⟩|⟨k,d,Z',rfl,q⟩
   ·obtain⟨x,e3,l⟩:=mN I f n a Z' (by lia) c;show⟨x,?_,l⟩;unfold jR;rw[e1];dsimp only at e2⊢;rw[e2]
    rcases e with rfl|rfl<;>show e3
   ·show⟨_,?_,q⟩;unfold jR;rw[e1];dsimp only at e2⊢;rw[e2]
theorem zm{U:GG}{N:Nat}{pn:List Nat}{Z:Ro}{Q:Res->Prop}{rest:bB}{g:List Nat}{t:MT}{b:bB}(I:Nat->Ro->Prop){c:Nat}(i:c<N)(l:I c Z)
  (hs:∀m Z,I m Z->Wp (lN U t (clrN g Z)) λp=>(p.1=QL->Wp (aD U N rest pn p.2) Q)/\(p.1=QJ->Wp (aD U N b pn p.2) λr=>(∃a h,(r=.nx a\/r=.ct a)/\h<m/\I h a)\/∃k d a,r=.rt k d a/\Q (.rt k d a))):Wp (aD U N (.cons (.wh g t b) rest) pn Z) Q:=by
 obtain⟨r,e,q⟩:=mN (Q:=Kt U N rest pn Q) I (λm Z j=>(hs m Z j).mono λp f=>⟨f.1,λe=>(f.2 e).mono λr n=>n.imp id λ⟨k,d,a,e,q⟩=>⟨k,d,a,e,q⟩⟩) N c Z i l;show dQ ⟨r,by rw[Fo];show e,q⟩
noncomputable abbrev sp(w p:Nat):Int×Int:=((w:Int),(p:Int))
def pk(p:Int×Int):DK:=.inr (kP p)
noncomputable abbrev dic(ks:List (Int×Int))(vs:List D):D:=.nd (.dic 1 (ks.map pk)) vs
theorem zn(h:pk p=pk q):p=q:=by
 unfold pk at h;injection h with h;injection h with h1 h2;injection h2 with h2 _;injection h1 with h1;injection h1 with h1;injection h2 with h2;injection h2 with h2;show Prod.ext h1 h2
theorem qj{p:Int×Int}:∀{ks:List (Int×Int)} {n:Nat},ks.Nodup->ks[n]?=QH p->aR (ks.map pk) (pk p)=QH n
 |[],n,_,h=>by simp at h
 |q::ks,0,_,h=>by
  simp at h;subst h;unfold aR;rw[NS,N4,if_pos (by simp)]
 |q::ks,n+1,nd,h=>by
  let h:ks[n]?=QH p:=by simpa using h
  let a:¬pk q=pk p:=λe=>(NU.mp nd).1 (zn e▸NO h);have:=qj (NU.mp nd).2 h;unfold aR at this⊢;rw[NS,N4,if_neg (by simpa using a),this];rfl
theorem iy:∀{ks:List (Int×Int)},(aR (ks.map pk) (pk p)).isSome=decide (p∈ks)
 |[]=>by simp[aR]
 |q::ks=>by
  have:=iy (p:=p) (ks:=ks);unfold aR at this⊢;rw[NS,N4];by_cases e:pk q=pk p
  ·rw[if_pos (by simpa using e),zn e];simp
  ·let e2:¬p=q:=λz=>e (by rw[z]);rw[if_neg (by simpa using e),Pc,this];simp[e2]
theorem qk{ks:List (Int×Int)}(h:p∉ks):aR (ks.map pk) (pk p)=QI:=by
 have:=iy (p:=p) (ks:=ks);rw[decide_eq_false h] at this;simpa using this
section
variable {U:Nat->Option Fn} {Z:Ro} {a b c:IE} {r:fV} {k k' k'':Kd} {i j l:Int} {x y z:Bool} {d d':D} {xs vs:List D} {hd:Hd} {p:Int×Int} {ks:List (Int×Int)}
theorem Jv{n:Nat}(c:aa U a Z=QH (k,dic ks vs))(f:aa U b Z=QH (k',pD p))(e:ks.Nodup)(g:ks[n]?=QH p)(h:vs[n]?=QH d):aa U (.ix a b) Z=QH (mn k n,d):=by
 rw[xS,c,f];change rf k (1,ks.map pk,vs) (pD p)=_;unfold rf;rw[show iT (pD p)=QH (pk p) from rfl]
 change(if gY 1 (pk p)=QJ then(match aR (ks.map pk) (pk p) with|some j=>(vs[j]?).map λd=>(mn k j,d)|none=>QI) else QI)=_
 rw[if_pos (by rfl),qj e g];change(vs[n]?).map _=_;rw[h];rfl
theorem Mu(p:Int×Int)(ks:List (Int×Int))(vs:List D):cH .In (pD p) (dic ks vs)=QH (decide (p∈ks)):=by
 change(if gY 1 (pk p)=QJ then QH (aR (ks.map pk) (pk p)).isSome else QI)=_
 rw[if_pos (by rfl),iy]
theorem Jw(p:Int×Int)(ks:List (Int×Int))(vs:List D):cH .NotIn (pD p) (dic ks vs)=QH (!decide (p∈ks)):=by
 change(if gY 1 (pk p)=QJ then QH (!(aR (ks.map pk) (pk p)).isSome) else QI)=_
 rw[if_pos (by rfl),iy]
theorem oa(d:aa U a Z=QH (k,pD p))(c:aa U b Z=QH (k',dic ks vs)):aK U (.cmp .In a b) Z=QH (decide (p∈ks)):=cb d c (Mu p ks vs)
theorem Di(d:aa U a Z=QH (k,pD p))(c:aa U b Z=QH (k',dic ks vs)):aK U (.cmp .NotIn a b) Z=QH (!decide (p∈ks)):=cb d c (Jw p ks vs)
theorem mO{n:Nat}(b:aa U a Z=QH (k,.obj cn ns xs))(c:aZ f ns=QH n)(e:xs[n]?=QH d):aa U (.fld f a) Z=QH (mn k n,d):=by
 rw[Bl,b]
 change(match aZ f ns with|some j=>(xs[j]?).map λd=>(mn k j,d)|none=>QI)=_
 rw[c];change(xs[n]?).map _=_;rw[e];rfl
end
theorem uW{ks:List (Int×Int)}{vs:List D}{p:Int×Int}{x:KD}(b:p∉ks)(a:vs.length<100000)(c:bK .fz x=QJ):nS [] .fz (.dic 1 (ks.map pk)) vs (pD p) x=QH (.dic 1 ((ks++[p]).map pk),vs++[x.2]):=by
 change(if gY 1 (pk p)=QJ/\vs.length<100000 then(match aR (ks.map pk) (pk p) with|some j=>if bK (([]:List Ow).getD j .fz) x=QJ/\(ks.map pk).Nodup/\j<vs.length then QH (Hd.dic 1 (ks.map pk),vs.set j x.2) else QI|none=>if([]:List Ow).length<=vs.length/\bK .fz x=QJ then QH (Hd.dic 1 (ks.map pk++[pk p]),vs++[x.2]) else QI) else QI)=_
 rw[if_pos ⟨rfl,a⟩,qk b];rw[if_pos ⟨NZ _,c⟩,NM];rfl
section
variable {U:GG} {N:Nat} {pn:List Nat} {Z:Ro} {Q:Res->Prop} {rest:bB}
theorem zo{i:Nat}{ks:List (Int×Int)}{vs:List D}{p:Int×Int}{x y:KD}(a:Z[i]?=QH (QH ⟨QL,k0,dic ks vs⟩))(b:aa U.fn e Z=QH x)(hk:aa U.fn kx Z=QH y)(f:y.2=pD p)(c:p∉ks)(d:vs.length<100000)(g:bK .fz (dF x.1 x.2,x.2)=QJ)(w:Wp (aD U N rest pn (Z.set i (QH ⟨QL,k0,dic (ks++[p]) (vs++[x.2])⟩))) Q):Wp (aD U N (.cons (.put (.nm i) kx (.p e)) rest) pn Z) Q:=by
 show pT (cJ (wv b (yU (r:=(k0,dic ks vs,id)) ?_ (wv hk (lq rfl rfl a (lr (r:=(.dic 1 ((ks++[p]).map pk),vs++[x.2])) ?_ w))))))
 ·change f8 Z[i]?=_;rw[a];rfl
 ·rw[f];show uW c d g
end
structure Ci where
 ins:Nat
 mems:List (Bool×Nat)
 gates:List (Nat×List Nat)
 outs:List Nat
noncomputable abbrev bD(b:Bool):D:=.int (b.toNat:Int)
def bX(m:Bool×Nat):D:=.tup [bD m.1,iD m.2]
def bp(g:Nat×List Nat):D:=.tup [iD g.1,.tup (g.2.map iD)]
def cD(c:Ci):D:=.tup [iD c.ins,.lst (c.mems.map bX),.lst (c.gates.map bp),.lst (c.outs.map iD)]
noncomputable def Ci.f(c:Ci):Nat:=c.ins+c.mems.length
def Ci.n(c:Ci):Nat:=c.f+c.gates.length
structure Ok(c:Ci):Prop where
 g:∀(k:Nat) g,c.gates[k]?=QH g->g.2.length<=3/\∀p∈g.2,p<c.f+k
 m:∀m∈c.mems,m.2<c.n
 o:∀o∈c.outs,o<c.n
 bi:c.ins<=3
 bm:c.mems.length<=8
 bg:c.gates.length<=8
 bo:c.outs.length<=3
theorem Ok.bn{c:Ci}(h:Ok c):c.n<=19:=by
 have:=h.bi;have:=h.bm;have:=h.bg;unfold Ci.n Ci.f
 lia
theorem zq{p q:Prop}[Decidable p][Decidable q](h:p↔q):((Kd.sh,D.bl (decide p)):KD)=(.sh,.bl (decide q)):=by rw[decide_eq_decide.mpr h]
theorem ql(i:Int):ψ0 [.int i]=QH (.sh,.bl QJ):=by
 unfold ψ0;show fB rfl ?_;unfold b0;show bP (cm (qi rfl rfl) λ_=>fA (Ju (qi rfl rfl) rfl)) rfl (eU rfl rfl)
theorem qm(ds:List D):ψ0 [.tup ds]=QH (.sh,.bl QL):=by
 unfold ψ0;show fB rfl ?_;unfold b0;show bP (cm (y:=QJ) (qi rfl rfl) λe=>by cases e) rfl (eU rfl rfl)
theorem zr(ds:List D)(n:Nat):ψ1 [.tup ds,iD n]=QH (.sh,.bl QL):=by
 unfold ψ1;show fB rfl ?_;unfold b1;show bP (x:=(.sh,.bl (QL&&QJ))) (cm (bA rfl (e1 rfl) rfl rfl (qm _) rfl) λe=>by cases e) rfl (eU rfl rfl)
theorem iz(a b:Nat):ψ1 [iD a,iD b]=QH (.sh,.bl (decide (a<b))):=by
 unfold ψ1;show fB rfl ?_;unfold b1;show bP (cm (bA rfl (e1 rfl) rfl rfl (ql _) rfl) λ_=>fA (B1 rfl rfl rfl)) rfl (eU rfl ?_);rw[PK,decide_eq_true (by lia),PK];show zq Ql
theorem iA(ds:List D)(n:Nat):ψ4 [.tup ds,iD n]=QH (.sh,.bl (decide (ds.length=n))):=by
 unfold ψ4;show fB rfl ?_;unfold b4;show bP (x:=(.sh,.bl (QJ&&decide ((ds.length:Int)=n)))) (cm (qi rfl rfl) λ_=>fA (eB (n8 (mJ rfl rfl) rfl))) rfl (eU rfl ?_);rw[PK];show zq Pq
theorem mP(c:Ci):ψ5 [cD c]=QH (.sh,iD c.n):=by
 unfold ψ5;show fB rfl ?_;unfold b5;let a:∀(n:Nat) d,[iD c.ins,D.lst (c.mems.map bX),.lst (c.gates.map bp),.lst (c.outs.map iD)][n]?=QH d->aa U_4.fn (.ix (.var 0) (.lit (.int (n:Int)))) [fS (cD c)]=QH (.sh,d):=λn d h=>bN (k:=.sh) rfl rfl (.inr rfl) rfl h;show bP (bC (bC (a 0 _ rfl) (mJ (a 1 _ rfl) (by change QH _=_;rw[Nt]))) (mJ (a 2 _ rfl) (by change QH _=_;rw[Nt]))) rfl (eU rfl ?_);unfold Ci.n Ci.f;rfl
theorem oe{w p a b c:Nat}(h:w<3)(f:p < [a,b,c].getD w 0):ψ9 [pD (sp w p),.lst [iD a,iD b,iD c]]=QH (.sh,.bl QJ):=by
 unfold ψ9;show fB rfl ?_;unfold b9;let d:aa U_8.fn (.ix (.var 0) (.lit (.int 0))) [fS (pD (sp w p)),fS (.lst [iD a,iD b,iD c])]=QH (.sh,iD w):=bN (k:=.sh) rfl rfl (.inr rfl) rfl rfl;let g:aa U_8.fn (.ix (.var 0) (.lit (.int 1))) [fS (pD (sp w p)),fS (.lst [iD a,iD b,iD c])]=QH (.sh,iD p):=bN (k:=.sh) rfl rfl (.inr rfl) rfl rfl
 let e:aa U_8.fn (.ix (.var 1) (.ix (.var 0) (.lit (.int 0)))) [fS (pD (sp w p)),fS (.lst [iD a,iD b,iD c])]=QH (.sh,iD ([a,b,c].getD w 0)):=bN (k:=.sh) rfl d (.inl rfl) rfl (by
  match w,h with
  |0,_=>rfl
  |1,_=>rfl
  |2,_=>rfl)
 show bP (cm (bA rfl (e2 rfl rfl) rfl rfl (iA [iD w,iD p] 2) rfl) λ_=>cm (bA (p:=(.sh,.bl QJ)) (ds:=[iD w,iD 3]) rfl (e2 d rfl) rfl rfl ?_ rfl) λ_=>fA (bA (ds:=[iD p,iD ([a,b,c].getD w 0)]) rfl (e2 g e) rfl rfl ?_ rfl)) rfl (eU rfl rfl)
 ·rw[iz,decide_eq_true (by lia)]
 ·rw[iz,decide_eq_true f]
abbrev wK(P:Nat):D:=.tup [iD 1,.tup ([sp 0 P].map pD)]
theorem zt:ψ3 [iD 1,iD 1]=QH (.sh,.bl QJ):=by kernel_rfl
theorem og(a b:Nat):Builtin.bitAnd (a:Int) b=((a &&& b:Nat):Int):=by
 rw[PyProof.Rows.bitAnd_pp (by lia) (by lia)];rfl
theorem B2:∀a b:Nat,a+b=(a ^^^ b)+2*(a &&& b):=by
 intro a
 induction a using Nat.strongRecOn with
 |ind a c=>
  intro b;by_cases d:a=0
  ·subst d;simp
  have:=c (a / 2) (by lia) (b / 2);rw[<- Nat.xor_div_two,<- Nat.and_div_two] at this;let f:(a &&& b)%2=1↔a%2=1/\b%2=1:=Nat.and_mod_two_eq_one;let e:(a ^^^ b)%2=1↔¬(a%2=1↔b%2=1):=Nat.xor_mod_two_eq_one
  lia
theorem B3(a b:Nat):Builtin.bitXor (a:Int) b=((a ^^^ b:Nat):Int):=by
 rw[PyProof.Rows.bitXor_and,og];have:=B2 a b
 lia
theorem B4(a i:Nat):Builtin.bitAnd ((a:Int) / 2^i) 1=((a.testBit i).toNat:Int):=by
 rw[PyProof.Rows.bitAnd_m1,Nat.testBit_eq_decide_div_mod_eq];have:(a:Int) / 2^i=((a / 2^i:Nat):Int):=by simp
 rw[this];rcases Nat.mod_two_eq_zero_or_one (a / 2^i) with h|h
 ·rw[decide_eq_false (by lia)];change _=((0:Nat):Int);lia
 ·rw[decide_eq_true h];change _=((1:Nat):Int);lia
noncomputable abbrev W(n:Nat):Nat:=2^2^n-1
theorem Nk{α:Type}{a:Option α}{r:α}{Q:α->Prop}(h:Wp a λx=>x=r)(q:Q r):Wp a Q:=h.mono λx e=>by subst e;show q
section
variable {U:Nat->Option Fn} {Z:Ro} {Q:KD->Prop} {k k':Kd}
theorem jo(q:Q (.sh,iD (a ^^^ b))):Wp (dZ .BitXor (k,iD a) (k',iD b)) Q:=⟨(.sh,.int (Builtin.bitXor a b)),rfl,by rw[B3];show q⟩
theorem zu(q:Q (.sh,iD (a &&& b))):Wp (dZ .BitAnd (k,iD a) (k',iD b)) Q:=⟨(.sh,.int (Builtin.bitAnd a b)),rfl,by rw[og];show q⟩
theorem Gc{x i:Nat}(d:Wp (aa U a Z) λy=>y.2=iD x)(f:Wp (aa U b Z) λy=>y.2=iD i)(q:Q (.sh,bD (x.testBit i))):Wp (aa U (.bin .BitAnd (.bin .RShift a b) (.lit (.int 1))) Z) Q:=by
 show a6 (a6 (d.mono λy e=>f.mono λz c=>?_));obtain⟨h,g⟩:=y;obtain⟨k,j⟩:=z;cases(e);cases(c);show FA (by lia) (a9 ⟨(.sh,.int (Builtin.bitAnd ((x:Int) / 2^((i:Int)).toNat) 1)),rfl,?_⟩);rw[show((i:Int)).toNat=i from Ov i,B4];show q
end
theorem B5(a:Nat){w:Nat}(b:w<=1000):ψ2 [iD a,iD w]=QH (.fr k0,.lst ((NP w).map λk=>bD (a.testBit k))):=by
 unfold ψ2;show fB rfl ?_;unfold b2;show bP (Gb rfl (by lia) λi c=>wo rfl (Gc (aQ rfl rfl) (aQ rfl rfl) ⟨_,rfl,rfl⟩)) rfl (eU rfl rfl)
theorem jp{n:Nat}(d:n<=8):ψ6 [iD n]=QH (.sh,iD (W n)):=by
 unfold ψ6;show aL (n5 rfl ?_);unfold b6;let a:(1:Int)*2^((n:Int)).toNat=((2^n:Nat):Int):=by rw[Ov];simp
 let c:2^n<=256:=OO (by decide) d;let b:0<=(1:Int)*2^((n:Int)).toNat/\(1:Int)*2^((n:Int)).toNat<=1000000:=by rw[a];clear a;generalize 2^n=p at c;lia
 show eA (cJ (a6 (a6 (a9 (a6 (a9 (aQ rfl (sr ⟨by lia,by lia,by decide⟩ (sr ⟨b.1,b.2,by decide⟩ (a9 (sn ⟨rfl,gg rfl ?_⟩)))))))))));rw[a,Ov];have:0<2^2^n:=P4 _;change(Kd.sh,D.int _)=(Kd.sh,D.int _);congr 2;rw[Int.one_mul,show((2:Int)^2^n)=((2^2^n:Nat):Int) by simp,Int.ofNat_sub (by lia)];rfl
noncomputable def combos:List (Nat×Nat):=((NP 9).map λn=>(NP n).map λk=>(k,n)).flatten
theorem wq:∀n,n<=8->∀k,k<n->(k,n)∈combos:=by nofun
def Ge(k n:Nat):Nat:=match ψ7 [iD k,iD n] with|some (_,.int z)=>z.toNat|_=>0
def Dj(p:Nat×Nat):Bool:=match ψ7 [iD p.1,iD p.2] with|some (.sh,.int z)=>decide (0<=z)|_=>QL
theorem zw:combos.all Dj=QJ:=by kernel_rfl
theorem wt{k n:Nat}(a:n<=8)(hk:k<n):ψ7 [iD k,iD n]=QH (.sh,iD (Ge k n)):=by
 let h:=N5.mp zw _ (wq n a k hk);unfold Dj at h;unfold Ge;dsimp only at h;split at h
 ·ext z e;rw[e];have:=of_decide_eq_true h;change QH (Kd.sh,D.int z)=QH (Kd.sh,D.int _);rw[Int.toNat_of_nonneg this]
 ·cases h
theorem Jx:G.jC 2 QI (QH 2)=[0]/\G.jC 2 (QH 1) (QH 2)=[1]:=by nofun
theorem Jy:G.jC 4 QI (QH 2)=[0,2]/\G.jC 4 (QH 1) (QH 2)=[1,3]:=by nofun
theorem Jz:G.jC 8 QI (QH 2)=[0,2,4,6]/\G.jC 8 (QH 1) (QH 2)=[1,3,5,7]:=by nofun
theorem Dk{Q:KD->Prop}(h:dY k xs=QJ/\1<=z)(q:Q (.fr bS,.lst (G.ck xs l (QH z)))):Wp (xH (QH (k,.nd .lst xs)) (QH l) (QH (k',.int z))) Q:=⟨_,if_pos h,q⟩
theorem zx:∀{L:List Nat} {m:Nat},m<=2->L.length=2^(m+1)->pb (QH (.fr bS,.lst (G.ck (L.map iD) QI (QH 2)))) (QH (.fr bS,.lst (G.ck (L.map iD) (QH 1) (QH 2))))=QH ([],(NP (2^m)).map λj=>D.tup [iD (L.getD (2*j) 0),iD (L.getD (2*j+1) 0)]):=by
 intro L m k i
 match m,k with
 |0,_=>
  match L,i with
  |[a,b],_=>
   unfold G.ck;rw[show(Ph iD [a,b]).length=2 from rfl,Jx.1,Jx.2];rfl
 |1,_=>
  match L,i with
  |[a,b,c,d],_=>
   unfold G.ck;rw[show(Ph iD [a,b,c,d]).length=4 from rfl,Jy.1,Jy.2];rfl
 |2,_=>
  match L,i with
  |[a,b,c,d,e,f,g,h],_=>
   unfold G.ck;rw[show(Ph iD [a,b,c,d,e,f,g,h]).length=8 from rfl,Jz.1,Jz.2];rfl
theorem JA{n:Nat}(a:n<=8):((W n:Nat):Int).natAbs<lim:=by
 have:2^n<=256:=OO (by decide) a;have:W n<2^256:=ND (Nat.sub_lt (P4 _) (by decide)) (OO (by decide) this);rw[Qm];show O8 this (by unfold lim;decide)
theorem B6(t:Nat){n:Nat}{xs:List Nat}(u:n<=8)(B:xs.length<=3):∃y:Nat,ψ8 [iD t,.lst (xs.map iD),iD (W n)]=QH (.sh,iD y):=by
 suffices h:Wp (ψ8 [iD t,.lst (xs.map iD),iD (W n)]) λr=>∃y:Nat,r=(.sh,iD y) by
  obtain⟨r,e,y,rfl⟩:=h;show⟨y,e⟩
 unfold ψ8;show n5 rfl ?_;unfold b8;let C:2^xs.length<=8:=OO (by decide) B
 let A:aa U_7.fn (.bin .LShift (.lit (.int 1)) (.blt "len" (.cons (.var 1) .nil))) [fS (iD t),fS (.lst (xs.map iD)),fS (iD (W n)),QI,QI]=QH (.sh,iD (2^xs.length)):=by
  have:=aL (a6 (a9 (wv (mJ (U:=U_7.fn) (a:=.var 1) (Z:=[fS (iD t),fS (.lst (xs.map iD)),fS (iD (W n)),QI,QI]) rfl (by change QH _=_;rw[Nt])) (sr (i:=1) ⟨by lia,by lia,by decide⟩ rfl))));rw[this];rw[Ov];show congrArg (λz:Int=>QH (Kd.sh,D.int z)) ((Int.one_mul _).trans (Int.natCast_pow 2 xs.length).symm)
 show aw (lS (g:=λj=>iD (W n*(t.testBit j).toNat)) (.inl rfl) (bA rfl (e2 rfl A) rfl rfl (B5 t (by lia)) rfl) rfl (by simp;lia) λj _=>wo rfl (a6 (aQ rfl (aQ rfl (yP ⟨JA u,?_⟩ ⟨.sh,?_,rfl⟩))))) rfl (by decide) ?_
 ·cases t.testBit j<;>decide
 ·change QH (Kd.sh,D.int _)=QH (Kd.sh,D.int _);rw[Int.natCast_mul]
 show gf (dI (jl (aQ rfl (fu rfl ⟨λs Z=>s<=xs.length/\∃L l,Z=[fS (iD t),fS (.lst (xs.map iD)),fS (iD (W n)),bM (.lst (L.map iD)),l]/\L.length=2^(xs.length-s),⟨NZ _,(NP (2^xs.length)).map (λj=>W n*(t.testBit j).toNat),QI,?_,by simp⟩,λs d Z b k=>?_,λZ k=>?_⟩))))
 ·rw[NN];rfl
 ·obtain⟨q,L,l,rfl,c⟩:=k;let b:(xs.map iD)[s]?=QH d:=b;rw[Nu] at b
  cases e:xs[s]? with
  |none=>rw[e] at b;cases b
  |some x=>
   rw[e] at b;cases b;let w:=(Nq.mp e).1;obtain⟨m,v⟩:∃m,xs.length-s=m+1:=⟨xs.length-s-1,by lia⟩;rw[v] at c;show⟨[(4,iD x)],rfl,rfl,?_⟩;change Wp (aD _ _ _ [] [fS (iD t),fS (.lst (xs.map iD)),fS (iD (W n)),bM (.lst (L.map iD)),fS (iD x)]) _;let p:=zx (by lia) c;show dJ (cJ (dH (yN (yL (aQ rfl (li (a9 (Dk ⟨rfl,by decide⟩ (yL (aQ rfl (nY (a9 ⟨1,rfl,a9 (Dk ⟨rfl,by decide⟩ ⟨_,p,?_⟩)⟩))))))))))));let o:2^m<=8:=OO (by decide) (show m<=3 by lia);show⟨by simp;lia,Nk (lx λj _=>Kn rfl (a6 (aQ rfl (a6 (a6 (aQ rfl (aQ rfl (jo (aQ rfl (zu (jo ⟨_,rfl,rfl⟩))))))))))) ⟨⟨rfl,by decide⟩,a8 ⟨_,.inl rfl,by lia,(NP (2^m)).map (λj=>L.getD (2*j) 0 ^^^ ((L.getD (2*j) 0 ^^^ L.getD (2*j+1) 0) &&& x)),QH ⟨QL,.fz,iD x⟩,?_,?_⟩⟩⟩
   ·rw[NN];rfl
   ·rw[show xs.length-(s+1)=m by lia];simp
 ·obtain⟨q,L,l,rfl,c⟩:=k;let f:(xs.map iD).length=xs.length:=Nt _;let c:L.length=2^(xs.length-(xs.map iD).length):=c;rw[f,PY] at c
  match L,c with
  |[y],_=>show bP (bN rfl rfl (.inl rfl) rfl rfl) rfl (gg rfl ⟨y,rfl⟩)
section
variable {U:Nat->Option Fn} {Z:Ro} {a b c:IE} {r:fV} {k k' k'':Kd} {d d':D} {hd:Hd}
theorem uX{α:Type}(l:List α)(f:α->D):(l.map f).mapIdx (λi d=>D.tup [.int i,d])=l.zipIdx.map λp=>D.tup [iD p.2,f p.1]:=by
 rw[List.mapIdx_eq_zipIdx_map,QF,NN];rfl
theorem zy{ds:List D}{P:List Nat×List D->Prop}(h:dY k ds=QJ)(q:P (rn k,ds.mapIdx λi d=>D.tup [.int i,d])):Wp (vW (QH (k,.nd .lst ds))) P:=⟨(rn k,ds.mapIdx λi d=>D.tup [.int i,d]),by unfold vW;rw[show g7 (QH (k,.nd .lst ds))=QH (rn k,ds) from if_pos h];rfl,q⟩
theorem Gf{α:Type}{l:List α}{f:α->D}{g:α×Nat->D}{r:Ow}{cap:List (Option Nat)}{tg:IT}{a elt:IE}(d:aa U a Z=QH (k,.lst (l.map f)))(j:dY k (l.map f)=QJ)(m:l.length<=100000)
  (h:∀(i:Nat) a,l[i]?=QH a->Wp (dv tg (cK U .non) (aa U elt) (aJ Z cap) (.tup [iD i,f a])) λo=>∃b,o=QH (b,g (a,i))/\bK r (b,g (a,i))=QJ):aa U (.comp r cap tg (.enm a) .non elt) Z=QH (.fr (.own [] r),.lst (l.zipIdx.map g)):=by
 show aL (dH (sj (wv d (zy j ⟨by simpa using m,?_⟩))));rw[uX];show(lx (g:=g) λp c=>?_).mono λn e=>by rw[e]
 show h p.2 p.1 (OY.mp c)
theorem qo{α:Type}(l:List α):(l.map λ_=>D.bl QJ)=((l.map λ_=>QJ).map D.bl):=by rw[NN];rfl
theorem zA{α:Type}(l:List α):(l.map λ_=>QJ).all id=QJ:=by simp
theorem iB{α:Type}{l:List α}{f:α->D}(j:hd=.lst\/hd=.tup)(i:aa U a Z=QH (k,.nd hd (l.map f)))(n:dY k (l.map f)=QJ)(b:l.length<=100000)(m:∀d,bL [(1,d)] (aJ Z cap)=QJ)(h:∀a∈l,aa U elt (setAll [(1,f a)] (aJ Z cap))=QH (.sh,.bl QJ)):aa U (.blt "all" (.cons (.comp .fz cap (.nm 1) (.e a) .non elt) .nil)) Z=QH (.sh,.bl QJ):=by
 have:=lS (r:=.fz) (tg:=.nm 1) (elt:=elt) (cap:=cap) (g:=λ_=>D.bl QJ) j i n b λx c=>wo (m _) (wv (h x c) ⟨.sh,rfl,rfl⟩);rw[qo] at this;have:=zl this;rw[zA] at this;show this
theorem Dl{α:Type}{l:List α}{f:α->D}{cap:List (Option Nat)}{a elt:IE}(e:aa U a Z=QH (k,.lst (l.map f)))(m:dY k (l.map f)=QJ)(b:l.length<=100000)(j:∀d d',bL [(1,d),(2,d')] (aJ Z cap)=QJ)
  (h:∀(i:Nat) a,l[i]?=QH a->aa U elt (setAll [(1,iD i),(2,f a)] (aJ Z cap))=QH (.sh,.bl QJ)):aa U (.blt "all" (.cons (.comp .fz cap (.tp [.nm 1,.nm 2]) (.enm a) .non elt) .nil)) Z=QH (.sh,.bl QJ):=by
 have:=Gf (r:=.fz) (tg:=.tp [.nm 1,.nm 2]) (elt:=elt) (cap:=cap) (g:=λ_=>D.bl QJ) e m b λi x c=>Kn (j _ _) (wv (h i x c) ⟨.sh,rfl,rfl⟩);rw[qo] at this;have:=zl this;rw[zA] at this;show this
theorem bd{α:Type}{l:List α}{f:α->D}(b:aa U a Z=QH (k,.nd hd (l.map f)))(c:hd=.lst\/hd=.tup):aa U (.blt "len" (.cons a .nil)) Z=QH (.sh,iD l.length):=
 mJ b (by rcases c with rfl|rfl<;>show congrArg QH (Nt _))
theorem JB(xs:List D)(lo hi:Option Int):GH (QH (.sh,.tup xs)) (QH lo) (QH hi)=QH (.sh,.tup (jP xs lo hi)):=by
 change(if dY Kd.sh xs=QJ then QH (Kd.sh,D.tup (jP xs lo hi)) else QI)=_
 show if_pos rfl
theorem zB{xs:List D}{n:Nat}(c:aa U a Z=QH (.sh,.tup xs))(b:n<=xs.length):aa U (.sl a .non (.som (.lit (.int (n:Int))))) Z=QH (.sh,.tup (xs.take n)):=by
 show aL (uE (wv c (li (nY (a9 ⟨(n:Int),rfl,⟨_,JB xs QI (QH (n:Int)),?_⟩⟩)))));unfold jP;rw[HT.oK,HT.sZ,Nat.min_eq_left b,P9,Qj]
theorem gq{es:fV}{kds:List KD}{r:Ow}(a:aW U es Z=QH kds)(b:o5 [] r kds=QJ/\kds.length<=100000):aa U (.lst (.own [] r) es) Z=QH (.fr (.own [] r),.lst (kds.map (·.2))):=aL (sd (wv a (sA (if_pos b) rfl)))
theorem fC{kds:List KD}(a:aW U es Z=QH kds)(b:(kds.all λp=>q0 p.1 p.2)=QJ/\kds.length<=100000):aa U (.tup .fz es) Z=QH (.sh,.tup (kds.map (·.2))):=aL (yK (wv a (fv (if_pos b) rfl)))
end
theorem eC{U:GG}{N:Nat}{pn:List Nat}{Z:Ro}{Q:Res->Prop}{rest:bB}{a:List Nat}{e:IE}{ds:List D}(h:aa U.fn e Z=QH (.sh,.tup ds))(b:a.length=ds.length/\(a.all λi=>!pn.contains i)=QJ)(w:Wp (aD U N rest pn (rU a ds [] .fz Z)) Q):Wp (aD U N (.cons (.unp a (.p e)) rest) pn Z) Q:=
 FJ (cJ (wv h ⟨ds,[],.fz,rfl,rfl,b,w⟩))
abbrev mQ:D:=.lst (([]:List Nat).map iD)
noncomputable def nu(f p:Nat):Nat:=p+if f<=p then 1 else 0
def it(b:Bool)(f p:Nat):D:=if b=QJ then iD (nu f p) else pD (sp 0 p)
abbrev gH(b:Bool)(f:Nat)(l:List Nat):D:=.lst (l.map (it b f))
abbrev mR(p q:Int×Int)(b:Bool)(f:Nat)(l:List Nat):D:=.tup [pD p,pD q,gH b f l,mQ]
def Sp(n:Nat)(p:Int×Int):Prop:=∃w a:Nat,w<3/\a < [n,n,1].getD w 0/\p=sp w a
abbrev uY(n:Nat):D:=.lst [iD n,iD n,iD 1]
theorem Dm(h:Sp n p):ψ9 [pD p,uY n]=QH (.sh,.bl QJ):=by
 obtain⟨w,a,c,b,rfl⟩:=h;show oe c b
theorem sG{n m f:Nat}{p q:Int×Int}{b:Bool}{l:List Nat}(c:Sp n p)(hq:Sp n q)(r:l.length<=8)(o:∀p∈l,if b=QJ then nu f p<m else p<n):Jh [mR p q b f l,uY n,iD m]=QH (.sh,.bl QJ):=by
 unfold Jh;show fB rfl ?_;unfold L0;change Wp (aD _ _ _ [] [fS (mR p q b f l),fS (uY n),fS (iD m),QI,QI]) _;let g:∀(j:Nat) d,[pD p,pD q,gH b f l,mQ][j]?=QH d->aa U_12.fn (.ix (.var 0) (.lit (.int (j:Int)))) [fS (mR p q b f l),fS (uY n),fS (iD m),QI,QI]=QH (.sh,d):=λj d h=>bN (k:=.sh) (k':=.sh) (n:=j) rfl rfl (.inr rfl) rfl h;show eR (z:=QL||(QL||false)) (x:=(.sh,.bl QL)) (lR (c9 (x:=QJ) (qf (k:=.sh) (bA (B:=ψ4) (p:=(.sh,.bl QJ)) (ds:=[mR p q b f l,iD 4]) rfl (e2 (p:=(.sh,mR p q b f l)) (q:=(.sh,iD 4)) rfl rfl) rfl rfl (iA _ 4) rfl))) λ_=>lR (c9 (x:=QJ) (qf (k:=.sh) (bA (B:=ψ9) (p:=(.sh,.bl QJ)) (ds:=[pD p,uY n]) rfl (e2 (g 0 _ rfl) (q:=(.sh,uY n)) rfl) rfl rfl (Dm c) rfl))) λ_=>fy (c9 (x:=QJ) (qf (k:=.sh) (bA (B:=ψ9) (p:=(.sh,.bl QJ)) (ds:=[pD q,uY n]) rfl (e2 (g 1 _ rfl) (q:=(.sh,uY n)) rfl) rfl rfl (Dm hq) rfl)))) (λe=>by cases e) λ_=>?_;show eC (ds:=[gH b f l,mQ]) (aL (uE (wv (show aa U_12.fn (.var 0) _=QH (.sh,mR p q b f l) from rfl) (nY (a9 ⟨2,rfl,li ⟨_,JB _ (QH 2) QI,rfl⟩⟩))))) ⟨rfl,rfl⟩ ?_;change Wp (aD _ _ _ [] [fS (mR p q b f l),fS (uY n),fS (iD m),fS (gH b f l),fS mQ]) _;show eR (z:=QL||(QL||false)) (x:=(.sh,.bl QL)) (lR (c9 (x:=QJ) (qg (d:=gH b f l) (k:=.sh) rfl rfl)) λ_=>lR (c9 (x:=QJ) (qg (d:=mQ) (k:=.sh) rfl rfl)) λ_=>fy ?_) (λe=>by cases e) λ_=>?_
 ·have:=F8 (U:=U_12.fn) (k:=.sh) (k':=.sh) (bd (U:=U_12.fn) (a:=.var 3) (Z:=[fS (mR p q b f l),fS (uY n),fS (iD m),fS (gH b f l),fS mQ]) (k:=.sh) (l:=l) (f:=it b f) rfl (.inl rfl)) (show aa U_12.fn (.lit (.int 8)) [fS (mR p q b f l),fS (uY n),fS (iD m),fS (gH b f l),fS mQ]=QH (.sh,.int 8) from rfl);rw[this,decide_eq_false (by lia)]
 show bP (x:=(.sh,.bl (QJ&&QJ))) (cm (x:=QJ) (iB (l:=l) (f:=it b f) (k:=.sh) (.inl rfl) rfl rfl (by lia) (λ_=>rfl) λa i=>?_) λ_=>fA (iB (l:=([]:List Nat)) (f:=iD) (k:=.sh) (.inl rfl) rfl rfl (by simp) (λ_=>rfl) λp c=>by cases c)) rfl (eU rfl rfl);let h:=o a i
 cases b with
 |true=>show F9 (x:=QJ) (y:=QJ) (bA (B:=ψ1) (p:=(.sh,.bl QJ)) (ds:=[iD (nu f a),iD m]) rfl (e2 (p:=(.sh,iD (nu f a))) (q:=(.sh,iD m)) rfl rfl) rfl rfl (by rw[iz,decide_eq_true (show nu f a<m from h)]) rfl) λe=>by cases e
 |false=>show F9 (x:=QL) (y:=QJ) (bA (B:=ψ1) (p:=(.sh,.bl QL)) (ds:=[pD (sp 0 a),iD m]) rfl (e2 (p:=(.sh,pD (sp 0 a))) (q:=(.sh,iD m)) rfl rfl) rfl rfl (zr _ _) rfl) λ_=>fA (bA (B:=ψ9) (p:=(.sh,.bl QJ)) (ds:=[pD (sp 0 a),uY n]) rfl (e2 (p:=(.sh,pD (sp 0 a))) (q:=(.sh,uY n)) rfl rfl) rfl rfl (oe (by decide) h) rfl)
theorem wu{n P:Nat}(h:P<n):Ka [wK P,.lst [iD n,iD n,iD 0]]=QH (.sh,.bl QJ):=by
 unfold Ka;show fB rfl ?_;unfold LZ;change Wp (aD _ _ _ [] [fS (wK P),fS (.lst [iD n,iD n,iD 0])]) _;let a:∀(j:Nat) d,[iD 1,D.tup ([sp 0 P].map pD)][j]?=QH d->aa U_9.fn (.ix (.var 0) (.lit (.int (j:Int)))) [fS (wK P),fS (.lst [iD n,iD n,iD 0])]=QH (.sh,d):=λj d h=>bN (k:=.sh) (k':=.sh) (n:=j) rfl rfl (.inr rfl) rfl h;show eR (z:=QL||false) (x:=(.sh,.bl QL)) (lR (c9 (x:=QJ) (qf (k:=.sh) (bA (B:=ψ4) (p:=(.sh,.bl QJ)) (ds:=[wK P,iD 2]) rfl (e2 (p:=(.sh,wK P)) (q:=(.sh,iD 2)) rfl rfl) rfl rfl (iA _ 2) rfl))) λ_=>fy (c9 (x:=QJ) (qg (d:=.tup ([sp 0 P].map pD)) (k:=.sh) (a 1 _ rfl) rfl))) (λe=>by cases e) λ_=>?_
 show bP (x:=(.sh,.bl (QJ&&QJ))) (cm (x:=QJ) (bA (B:=ψ3) (p:=(.sh,.bl QJ)) (ds:=[iD 1,iD 1]) rfl (e2 (a 0 _ rfl) (bd (l:=[sp 0 P]) (f:=pD) (hd:=.tup) (k:=.sh) (a 1 _ rfl) (.inr rfl))) rfl rfl zt rfl) λ_=>fA (iB (l:=[sp 0 P]) (f:=pD) (k:=.sh) (hd:=.tup) (.inr rfl) (a 1 _ rfl) rfl (by simp) (λ_=>rfl) λs b=>by
  rw[NF.mp b];show bA (B:=ψ9) (p:=(.sh,.bl QJ)) (ds:=[pD (sp 0 P),.lst [iD n,iD n,iD 0]]) rfl (e2 (p:=(.sh,pD (sp 0 P))) (q:=(.sh,.lst [iD n,iD n,iD 0])) rfl rfl) rfl rfl (oe (by decide) h) rfl)) rfl (eU rfl rfl)
structure Tw(c c':Ci):Prop where
 i:c'.ins=c.ins
 g:c'.gates=c.gates
 o:c'.outs=c.outs
 m:c'.mems.map (·.2)=c.mems.map (·.2)
theorem Tw.refl(c:Ci):Tw c c:=⟨rfl,rfl,rfl,rfl⟩
theorem Tw.symm(t:Tw c c'):Tw c' c:=⟨t.i.symm,t.g.symm,t.o.symm,t.m.symm⟩
theorem Tw.l{c c':Ci}(t:Tw c c'):c'.mems.length=c.mems.length:=by simpa using congrArg O3 t.m
theorem Tw.f{c c':Ci}(t:Tw c c'):c'.f=c.f:=by unfold Ci.f;rw[t.i,t.l]
theorem Tw.n{c c':Ci}(t:Tw c c'):c'.n=c.n:=by unfold Ci.n;rw[t.f,t.g]
theorem Tw.at{c c':Ci}(t:Tw c c'){k:Nat}{m:Bool×Nat}(h:c'.mems[k]?=QH m):∃b,c.mems[k]?=QH (b,m.2):=by
 let e:=congrArg (λl:List Nat=>l[k]?) t.m;rw[Nu,Nu,h] at e
 cases e2:c.mems[k]? with
 |none=>rw[e2] at e;cases e
 |some q=>
  rw[e2] at e;let e:=Option.some.inj e;show⟨q.1,by rw[show m.2=q.2 from e]⟩
theorem Tw.ok(t:Tw c c')(h:Ok c):Ok c':=by
 show⟨λk g e=>?_,λm j=>?_,λo a=>?_,by rw[t.i];show h.bi,by rw[t.l];show h.bm,by rw[t.g];show h.bg,by rw[t.o];show h.bo⟩
 ·rw[t.g] at e;rw[t.f];show h.g k g e
 ·obtain⟨k,hk⟩:=OI.mp j;obtain⟨b,d⟩:=t.at hk;rw[t.n];have:=h.m _ (NO d);show this
 ·rw[t.n];rw[t.o] at a;show h.o o a
theorem Gg{xs:List D}{n:Nat}(h:n<=xs.length):jP xs QI (QH (n:Int))=xs.take n:=by
 unfold jP;rw[HT.oK,HT.sZ,Nat.min_eq_left h,P9,Qj]
section
variable {U:Nat->Option Fn} {Z:Ro} {a b c:IE} {k k':Kd} {xs:List D} {n:Nat}
theorem JC(e:aa U a Z=QH (k,.lst xs))(c:aa U b Z=QH (k',iD n))(hk:dY k xs=QJ)(d:n<=xs.length):aa U (.sl a .non (.som b)) Z=QH (.fr k0,.lst (xs.take n)):=by
 rw[<- Gg d];show aL (uE (wv e (li (nY (wv c ⟨_,rfl,_,if_pos hk,rfl⟩)))))
end
abbrev St:=(Int×Int)×(Int×Int)×Bool×List Nat
def ox(f:Nat)(t:St):D:=mR t.1 t.2.1 t.2.2.1 f t.2.2.2
def dw(h:Bool)(P:Nat):Int×Int:=if h=QJ then sp 2 0 else sp 0 P
def Ac(c:Ci)(k:Nat)(p:Nat):St:=(sp 0 (c.ins+k),sp 1 (c.ins+k),QJ,[p])
def Do(c:Ci)(k:Nat)(l:List Nat):St:=(sp 0 (c.f+k),sp 1 (c.f+k),QJ,l)
noncomputable def Gi(c:Ci)(s:Int×Int):St:=(s,s,QL,c.mems.map (·.2))
def lT(c:Ci)(s:Int×Int):List St:=(c.mems.zipIdx.map λp=>Ac c p.2 p.1.2)++[Gi c s]
def ww(c:Ci):List St:=c.gates.zipIdx.map λp=>Do c p.2 p.1.2
abbrev Gj(P:Nat):D:=.lst ([P].map wK)
abbrev hD(c:Ci)(s:Int×Int):D:=.lst ((lT c s).map (ox c.f))
abbrev lD(c:Ci):D:=.lst ((ww c).map (ox c.f))
abbrev nD(c:Ci):D:=.lst (c.outs.map (it QJ c.f))
def iC(c:Ci)(P:Nat)(s:Int×Int):D:=.tup [Gj P,hD c s,lD c,nD c]
abbrev Ci.m(c:Ci):Nat:=c.n+1
theorem Dp{f p m:Nat}(h:p<m):nu f p<m+1:=by unfold nu;split<;>lia
theorem B7{f p k:Nat}(h:p<f+k):nu f p<f+1+k:=by unfold nu;split<;>lia
theorem M6{α:Type}{l:List α}{p:α×Nat}{i:Nat}(h:l.zipIdx[i]?=QH p):l[i]?=QH p.1/\p.2=i:=by
 rw[OC] at h
 cases e:l[i]? with
 |none=>rw[e] at h;cases h
 |some a=>
  rw[e] at h;cases h;show⟨rfl,by simp⟩
theorem Mv{α:Type}{l:List α}{p:α×Nat}(h:p∈l.zipIdx):l[p.2]?=QH p.1:=OY.mp h
theorem sH(c:Ci)(s:Int×Int):(lT c s).length=c.mems.length+1:=by unfold lT;rw[NK,Nt,Qn];rfl
theorem ly(c:Ci):(ww c).length=c.gates.length:=by unfold ww;rw[Nt,Qn]
theorem lz{c:Ci}(h:t∈lT c s):(∃k m,c.mems[k]?=QH m/\t=Ac c k m.2)\/t=Gi c s:=by
 rcases NH.mp h with z|z
 ·obtain⟨p,a,rfl⟩:=NR.mp z;show .inl ⟨p.2,p.1,Mv a,rfl⟩
 ·show .inr (NF.mp z)
theorem Dq{c:Ci}{i:Nat}(h:(ww c)[i]?=QH t):∃g,c.gates[i]?=QH g/\t=Do c i g.2:=by
 unfold ww at h;rw[Nu] at h
 cases e:c.gates.zipIdx[i]? with
 |none=>rw[e] at h;cases h
 |some p=>
  rw[e] at h;cases h;obtain⟨e1,e2⟩:=M6 e;subst e2;show⟨p.1,e1,rfl⟩
theorem qp{n w p:Nat}(b:w<2)(a:p<n):Sp n (sp w p):=⟨w,p,by lia,by
 match w,b with
 |0,_=>show a
 |1,_=>show a,rfl⟩
theorem zC{n P:Nat}(h:Bool)(a:P<n):Sp n (dw h P):=by
 cases h
 ·show qp (by decide) a
 ·show⟨2,0,by decide,Nat.one_pos,rfl⟩
theorem zD{c c':Ci}(h:Ok c)(t:Tw c c'){P:Nat}{s:Int×Int}(z:P<c.n)(y:Sp c.n s):Kb [cD c,cD c',iC c P s]=QH (.sh,.bl QJ):=by
 let I:=h.bn;let K:=h.bm;let L:=h.bg;let M:=h.bo;let B:=sH c s;let C:=ly c;let N:c.f+c.gates.length=c.n:=rfl;unfold Kb;show fB rfl ?_;unfold LY;change Wp (aD _ _ _ [] [fS (cD c),fS (cD c'),fS (iC c P s),QI,QI,QI,QI,QI,QI,QI]) _;show eR (x:=(.sh,.bl QL)) (lR (c9 (x:=QJ) (qf (bA rfl (e2 rfl rfl) rfl rfl (iA _ 4) rfl))) λ_=>fy (c9 (Dg (iB (l:=[Gj P,hD c s,lD c,nD c]) (f:=id) (.inr rfl) rfl rfl (by simp) (λ_=>rfl) λd w=>?_)))) (λe=>by cases e) λ_=>?_
 ·simp only[NB,NQ,or_false] at w
  rcases w with rfl|rfl|rfl|rfl<;>show qi rfl rfl
 show eC rfl ⟨rfl,rfl⟩ ?_;show aw (gq (e3 (bA rfl (e1 rfl) rfl rfl (mP c) rfl) (bA rfl (e1 rfl) rfl rfl ((mP c').trans (by rw[t.n])) rfl) (bd (l:=[P]) rfl (.inl rfl))) ⟨rfl,by simp⟩) rfl (by decide) ?_;show aw (x:=(.sh,iD (c.f+1))) ((bC rfl (bd rfl (.inl rfl))).trans (by rw[B];rfl)) rfl (by decide) ?_;show aw (x:=(.sh,iD c.m)) ((bC rfl (bd rfl (.inl rfl))).trans (by rw[C,show c.m=c.f+1+c.gates.length by unfold Ci.m Ci.n;lia];rfl)) rfl (by decide) ?_;show bP (cm (Dl rfl rfl (by simp) (λ_ _=>rfl) λi a j=>?_) λ_=>cm (iB (.inl rfl) rfl rfl (by lia) (λ_=>rfl) λp b=>?_) λ_=>cm (Dl rfl rfl (by lia) (λ_ _=>rfl) λi p b=>?_) λ_=>cm (eB ((n8 (bd rfl (.inl rfl)) (bd (bN rfl rfl (.inr rfl) rfl rfl) (.inl rfl))).trans (by rw[decide_eq_true rfl]))) λ_=>fA (iB (.inl rfl) rfl rfl (by lia) (λ_=>rfl) λo D=>bA (ds:=[iD (nu c.f o),iD c.m]) rfl (e2 rfl rfl) rfl rfl (by rw[iz,decide_eq_true (Dp (h.o o D))]) rfl)) rfl (eU rfl rfl)
 ·match i,j with
  |0,j=>
   cases j;show gh rfl (e2 rfl (uT ⟨rfl,rfl,by simp⟩ (JC (n:=2) (xs:=[iD c.n,iD c.n,iD 1]) rfl rfl rfl (by simp)) (gq (kds:=[(.sh,iD 0)]) (e1 rfl) ⟨rfl,by simp⟩))) rfl rfl (wu z) rfl
  |i+1,j=>simp at j
 ·let r:Jh [ox c.f p,uY c.n,iD c.m]=QH (.sh,.bl QJ):=by
   rcases lz b with⟨k,m,e,rfl⟩|rfl
   ·let E:=(Nq.mp e).1;let u:=h.m _ (NO e);let hk:c.ins+k<c.n:=by unfold Ci.n Ci.f;lia
    show sG (qp (by decide) hk) (qp (by decide) hk) (show [m.2].length<=8 by simp) (λq hq=>by rw[NF.mp hq];show Dp u)
   ·show sG y y (show(c.mems.map (·.2)).length<=8 by rw[Nt];lia) (λq hq=>by
     obtain⟨m,u,rfl⟩:=NR.mp hq;show h.m m u)
  show gh rfl (e3 rfl rfl rfl) rfl rfl r rfl
 ·obtain⟨g,v,rfl⟩:=Dq b;let F:=(Nq.mp v).1;let hk:c.f+i<c.n:=by lia
  obtain⟨H,A⟩:=h.g i g v;show gh rfl (e3 rfl rfl (bC rfl rfl)) rfl rfl (sG (qp (by decide) hk) (qp (by decide) hk) (by change g.2.length<=8;lia) (λq hq=>B7 (A q hq))) rfl
section
variable {U:GG} {N:Nat} {pn:List Nat} {Z:Ro} {Q:Res->Prop} {rest:bB}
theorem qr{α:Type}{l:List α}{f:α->D}(j:aa U.fn a Z=QH (.sh,.lst (l.map f)))(I:Nat->Ro->Prop)(k:I 0 Z)(h:∀(i:Nat) x Z,l[i]?=QH x->I i Z->∃ps,pc tg (.tup [iD i,f x])=QH ps/\(ps.all λq=>!pn.contains q.1)=QJ/\Wp (aD U N b pn (setAll ps (clrN fg Z))) λr=>∃Z',(r=.nx Z'\/r=.ct Z')/\I (i+1) Z')(hq:∀Z,I l.length Z->Wp (aD U N rest pn (clrN fg Z)) Q):Wp (aD U N (.cons (.fo fg tg (.p (.enm a)) b) rest) pn Z) Q:=by
 show gf (dI (sj (wv j (zy rfl ⟨I,k,λi d Z c g=>?_,λZ g=>?_⟩))))
 ·rw[uX] at c;let c:(l.zipIdx.map λp=>D.tup [iD p.2,f p.1])[i]?=QH d:=c;rw[Nu] at c
  cases e:l.zipIdx[i]? with
  |none=>rw[e] at c;cases c
  |some p=>
   rw[e] at c;cases c;obtain⟨e1,e2⟩:=M6 e;subst e2;rw[show pn++(rn Kd.sh:List Nat)=pn from N9 pn];show h p.2 p.1 Z e1 g
 ·have:((l.map f).mapIdx λi d=>D.tup [.int i,d]).length=l.length:=by simp
  let g:I ((l.map f).mapIdx λi d=>D.tup [.int i,d]).length Z:=g;rw[this] at g;show hq Z g
noncomputable abbrev kG:Ow:=.own [] (.own [] .fz)
noncomputable abbrev fl3:List Str:=["gates","begins","afters"]
abbrev lB(ds:List D):D:=.nd (.obj "Ground" fl3) ds
theorem oh{n:Nat}{ks:List (Int×Int)}{vs ds:List D}{p:Int×Int}{x y:KD}(b:Z[0]?=QH (QH ⟨QL,kG,lB ds⟩))(a:aZ f fl3=QH n)(hd:ds[n]?=QH (dic ks vs))(h:aa U.fn e Z=QH x)(hk:aa U.fn kx Z=QH y)(k:y.2=pD p)(c:p∉ks)(i:vs.length<100000)(g:bK .fz (dF x.1 x.2,x.2)=QJ)(w:Wp (aD U N rest pn (Z.set 0 (QH ⟨QL,kG,lB (ds.set n (dic (ks++[p]) (vs++[x.2])))⟩))) Q):Wp (aD U N (.cons (.put (.fld (.nm 0) f) kx (.p e)) rest) pn Z) Q:=by
 show pT (cJ (wv h (yU (r:=(k0,dic ks vs,λz=>lB (ds.set n z))) ?_ (wv hk (lq rfl rfl b (lr (r:=(.dic 1 ((ks++[p]).map pk),vs++[x.2])) ?_ w))))))
 ·change ud f (f8 Z[0]?)=_;rw[b]
  change(match aZ f fl3 with|some j=>(match ds[j]? with|some d=>QH (([]:List Ow).getD j k0,d,λz=>id (D.nd (.obj "Ground" fl3) (ds.set j z)))|none=>QI)|none=>QI)=_
  rw[a]
  change(match ds[n]? with|some d=>QH (([]:List Ow).getD n k0,d,λz=>id (D.nd (.obj "Ground" fl3) (ds.set n z)))|none=>QI)=_
  rw[hd];rfl
 ·rw[k];show uW c i g
end
def gK(c:Ci)(w n:Nat):List (Int×Int):=(NP n).map λk=>sp w (c.f+k)
def mK(c:Ci)(w n:Nat):List (Int×Int):=(NP n).map λk=>sp w (c.ins+k)
def jq(w:Nat)(g:Nat×List Nat):D:=.tup [iD g.1,.lst ((g.2.map (sp w)).map pD)]
theorem B8(c:Ci)(w n:Nat):gK c w (n+1)=gK c w n++[sp w (c.f+n)]:=by unfold gK;rw[QG,NM];rfl
theorem B9(c:Ci)(w n:Nat):mK c w (n+1)=mK c w n++[sp w (c.ins+n)]:=by unfold mK;rw[QG,NM];rfl
theorem gK_mem{c:Ci}{w n:Nat}:p∈gK c w n↔∃k,k<n/\p=sp w (c.f+k):=by
 unfold gK;rw[NR];show⟨λ⟨k,b,a⟩=>⟨k,Od.mp b,a.symm⟩,λ⟨k,b,a⟩=>⟨k,Od.mpr b,a.symm⟩⟩
theorem mK_mem{c:Ci}{w n:Nat}:p∈mK c w n↔∃k,k<n/\p=sp w (c.ins+k):=by
 unfold mK;rw[NR];show⟨λ⟨k,b,a⟩=>⟨k,Od.mp b,a.symm⟩,λ⟨k,b,a⟩=>⟨k,Od.mpr b,a.symm⟩⟩
theorem bR{w a p b:Nat}(h:sp w p=sp a b):w=a/\p=b:=by
 let d:(w:Int)=a:=congrArg Prod.fst h;let c:(p:Int)=b:=congrArg Prod.snd h;show⟨by lia,by lia⟩
theorem jr{α:Type}{l:List α}{s:Nat}{a:α}(h:l[s]?=QH a):l.take (s+1)=l.take s++[a]:=by rw[Pd,h];rfl
theorem eQ(d:aa U a Z=QH (.sh,.int i))(c:aa U b Z=QH (.sh,.int j)):aa U (.tup .fz (.cons a (.cons b .nil))) Z=QH (.sh,.tup [.int i,.int j]):=
 fC (e2 d c) ⟨rfl,by simp⟩
theorem zE{c:Ci}(h:Ok c){w:Nat}{gk bk:List (Int×Int)}{gv bv av:List D}(A:∀p,sp w p∉gk)(y:∀p,sp w p∉bk)(B:gv.length<=1000)(C:bv.length<=1000)(H:av.length<=1000) :
  Da [(kG,lB [dic gk gv,dic bk bv,dic bk av]),(.fz,iD w),(.fz,cD c)]=QH (.sh,.non,[QH (kG,lB [dic (gk++gK c w c.gates.length) (gv++c.gates.map (jq w)),dic (bk++mK c w c.mems.length) (bv++c.mems.map λm=>bD m.1),dic (bk++mK c w c.mems.length) (av++c.mems.map λm=>pD (sp w m.2))]),QI,QI]):=by
 let E:=h.bm;let F:=h.bg;unfold Da;show qe (BR rfl ?_);unfold Ml;show eC rfl ⟨rfl,rfl⟩ ?_;show qr rfl (λs Z=>∃a q r,Z=[QH ⟨QL,kG,lB [dic gk gv,dic (bk++mK c w s) (bv++(c.mems.take s).map λm=>bD m.1),dic (bk++mK c w s) (av++(c.mems.take s).map λm=>pD (sp w m.2))]⟩,fS (iD w),fS (cD c),fS (iD c.ins),fS (.lst (c.mems.map bX)),fS (.lst (c.gates.map bp)),fS (.lst (c.outs.map iD)),a,q,r,QI,QI])
  ⟨QI,QI,QI,by simp[mK];rfl⟩ (λs m Z t b=>?_) λZ b=>?_
 ·obtain⟨a,q,r,rfl⟩:=b;let u:=(Nq.mp t).1;show⟨[(7,iD s),(8,bD m.1),(9,iD m.2)],rfl,rfl,?_⟩
  let l:sp w (c.ins+s)∉bk++mK c w s:=λz=>by
   rcases NH.mp z with z|z
   ·show y _ z
   ·obtain⟨k,v,n⟩:=mK_mem.mp z;have:=(bR n).2
    lia
  show oh rfl rfl rfl rfl (eQ rfl (bC rfl rfl)) rfl l (by rw[NK,Nt,N0];lia) rfl ?_;show oh rfl rfl rfl (eQ rfl rfl) (eQ rfl (bC (i:=(c.ins:Int)) (j:=(s:Int)) rfl rfl)) rfl l (by rw[NK,Nt,N0];lia) rfl ?_;show a8 ⟨_,.inl rfl,fS (iD s),fS (bD m.1),fS (iD m.2),?_⟩;rw[B9,jr t,NM,NM,<- Of,<- Of,<- Of];rfl
 ·obtain⟨a,q,r,rfl⟩:=b;rw[Oh];show qr rfl (λs Z=>∃a d e,Z=[QH ⟨QL,kG,lB [dic (gk++gK c w s) (gv++(c.gates.take s).map (jq w)),dic (bk++mK c w c.mems.length) (bv++c.mems.map λm=>bD m.1),dic (bk++mK c w c.mems.length) (av++c.mems.map λm=>pD (sp w m.2))]⟩,fS (iD w),fS (cD c),fS (iD c.ins),fS (.lst (c.mems.map bX)),fS (.lst (c.gates.map bp)),fS (.lst (c.outs.map iD)),a,QI,QI,d,e])
   ⟨a,QI,QI,by simp[gK];rfl⟩ (λs g Z o b=>?_) λZ b=>?_
  ·obtain⟨a,d,e,rfl⟩:=b;let u:=(Nq.mp o).1;let x:=(h.g s g o).1;show⟨[(7,iD s),(10,iD g.1),(11,.tup (g.2.map iD))],rfl,rfl,?_⟩
   let l:sp w (c.f+s)∉gk++gK c w s:=λz=>by
    rcases NH.mp z with z|z
    ·show A _ z
    ·obtain⟨k,v,n⟩:=gK_mem.mp z;have:=(bR n).2
     lia
   show oh rfl rfl rfl (fC (kds:=[(.sh,iD g.1),(.fr k0,.lst ((g.2.map (sp w)).map pD))]) (e2 rfl ((lS (.inr rfl) rfl rfl (by lia) λp _=>wo rfl (wv (eQ rfl rfl) ⟨.sh,rfl,rfl⟩)).trans (by rw[NN];rfl))) ⟨rfl,by simp⟩) (eQ rfl (bC (k:=.sh) (i:=(c.f:Int)) (j:=(s:Int)) ?_ rfl)) rfl l (by rw[NK,Nt,N0];lia) rfl ?_
   ·show bC (i:=(c.ins:Int)) rfl (bd rfl (.inl rfl))
   show a8 ⟨_,.inl rfl,fS (iD s),fS (iD g.1),fS (.tup (g.2.map iD)),?_⟩;rw[B8,jr o,NM,<- Of,<- Of];rfl
  ·obtain⟨a,d,e,rfl⟩:=b;rw[Oh];show a8 (C0 rfl)
abbrev dK(ks:List (Int×Int))(V:Int×Int->D):D:=dic ks (ks.map V)
def gI(c:Ci):List (Int×Int):=gK c 0 c.gates.length++gK c 1 c.gates.length++[sp 2 0]
def dL(c:Ci):List (Int×Int):=mK c 0 c.mems.length++mK c 1 c.mems.length
def Ko(c:Ci)(q:Int×Int):Nat×List Nat:=c.gates.getD (q.2.toNat-c.f) (0,[])
noncomputable def Kp(c:Ci)(q:Int×Int):Bool×Nat:=c.mems.getD (q.2.toNat-c.ins) (QL,0)
def tb(c:Ci)(q:Int×Int):Nat:=if q.1=2 then 1 else(Ko c q).1
noncomputable def hq(q:Int×Int):Hd:=if q.1=2 then .tup else .lst
def bl(c:Ci)(P:Nat)(q:Int×Int):List (Int×Int):=if q.1=2 then [sp 0 P] else(Ko c q).2.map λ(p:Nat)=>(q.1,(p:Int))
def gF(c:Ci)(P:Nat)(q:Int×Int):D:=.tup [iD (tb c q),.nd (hq q) ((bl c P q).map pD)]
def bF(c c':Ci)(q:Int×Int):Nat:=(Kp (if q.1=0 then c else c') q).1.toNat
def aF(c:Ci)(q:Int×Int):Int×Int:=(q.1,((Kp c q).2:Int))
def dR(c c':Ci)(P:Nat):D:=lB [dK (gI c) (gF c P),dK (dL c) (λq=>iD (bF c c' q)),dK (dL c) (λq=>pD (aF c q))]
theorem oj{α β:Type}(l:List α)(f:α->β)(F:Nat->β)(h:∀(k:Nat) a,l[k]?=QH a->F k=f a):(NP l.length).map F=l.map f:=by
 show OL λi=>?_;rw[Nu,Nu]
 cases e:l[i]? with
 |none=>
  have:=OM.mp e;rw[N6 (by rw[Ox];show this)];rfl
 |some a=>
  rw[Oo (Nq.mp e).1];show congrArg QH (h i a e)
theorem sI{c:Ci}{w k:Nat}(a:c.gates[k]?=QH g):Ko c (sp w (c.f+k))=g:=by
 unfold Ko;rw[Oj,show((c.f+k:Nat):Int).toNat-c.f=k by lia,a];rfl
theorem js{c:Ci}{w k:Nat}(a:c.mems[k]?=QH m):Kp c (sp w (c.ins+k))=m:=by
 unfold Kp;rw[Oj,show((c.ins+k:Nat):Int).toNat-c.ins=k by lia,a];rfl
theorem Kq{w:Nat}(a:w<2):¬((w:Int)=2):=by lia
theorem mS{c:Ci}{P w k:Nat}{g:Nat×List Nat}(b:w<2)(a:c.gates[k]?=QH g):bl c P (sp w (c.f+k))=g.2.map (sp w):=by
 unfold bl;rw[if_neg (Kq b),sI a]
theorem JD{c:Ci}{P w k:Nat}(a:w<2)(b:c.gates[k]?=QH g):gF c P (sp w (c.f+k))=jq w g:=by
 unfold gF tb hq;rw[mS a b,if_neg (Kq a),if_neg (Kq a),sI b];rfl
theorem Mw(c:Ci)(P:Nat):gF c P (sp 2 0)=wK P:=by
 rfl
theorem Gk(c:Ci)(P:Nat):c.gates.map (jq 0)++c.gates.map (jq 1)++[wK P]=(gI c).map (gF c P):=by
 let a:∀w,w<2->(gK c w c.gates.length).map (gF c P)=c.gates.map (jq w):=λw d=>by
  unfold gK;rw[NN];show oj _ _ _ λk g b=>JD d b
 unfold gI;rw[NM,NM,a 0 (by decide),a 1 (by decide),PC,Mw]
theorem Gm{c c':Ci}(t:Tw c c'):(c.mems.map λm=>bD m.1)++(c'.mems.map λm=>bD m.1)=(dL c).map λq=>iD (bF c c' q):=by
 unfold dL mK;rw[NM,NN,NN];congr 1
 ·show(oj _ _ _ λk m a=>?_).symm;change iD (bF c c' (sp 0 (c.ins+k)))=_;unfold bF;rw[if_pos (show(sp 0 (c.ins+k)).1=0 from rfl),js a]
 ·rw[<- t.l];show(oj _ _ _ λk m a=>?_).symm;change iD (bF c c' (sp 1 (c.ins+k)))=_;unfold bF;rw[if_neg ((by decide:¬((1:Nat):Int)=0)),<- t.i,js a]
theorem Gn{c c':Ci}(t:Tw c c'):(c.mems.map λm=>pD (sp 0 m.2))++(c'.mems.map λm=>pD (sp 1 m.2))=(dL c).map λq=>pD (aF c q):=by
 let e:(c'.mems.map λm=>pD (sp 1 m.2))=c.mems.map λm=>pD (sp 1 m.2):=by
  have:=congrArg (λl:List Nat=>l.map λp=>pD (sp 1 p)) t.m;rwa [NN,NN] at this
 unfold dL mK;rw[e,NM,NN,NN]
 congr 1 <;>
 ·show(oj _ _ _ λk m a=>?_).symm;change pD (aF c (sp _ (c.ins+k)))=_;unfold aF;rw[js a]
abbrev lU(c c':Ci)(P:Nat)(g:D)(B q:Option Sl):Ro:=[QH ⟨QL,kG,g⟩,fS (cD c),fS (cD c'),fS (Gj P),B,q]
theorem uZ(b:j=1/\d=cD c\/j=2/\d=cD c')(a:Da [(kG,lB ds),(.fz,.int i),(.fz,d)]=QH (.sh,.non,[QH (kG,g1),QI,QI])):p9 i j (lU c c' P (lB ds) QI QI)=QH (.nx (lU c c' P g1 QI QI)):=by
 unfold p9
 let e:zi i j (lU c c' P (lB ds) QI QI)=QH ([.val .sh (.int i),.val .sh d],lU c c' P (lB ds) QI QI):=by rcases b with⟨rfl,rfl⟩|⟨rfl,rfl⟩<;>rfl
 let e1:BZ "Ground" "put_circuit" 0 Da (zi i j) (lU c c' P (lB ds) QI QI)=QH (.sh,.non,lU c c' P g1 QI QI):=by
  change(if("Ground":Str)="Ground"/\fl3.contains "put_circuit" = QL then Bq (QH Da) (pv 0 (lU c c' P (lB ds) QI QI)[0]? (zi i j (lU c c' P (lB ds) QI QI))) else QI)=_
  rw[if_pos ⟨rfl,by decide⟩,e]
  change(if(cC [.ref 0,.val .sh (.int i),.val .sh d]).Nodup then _ else QI)=_
  rw[if_pos (by simp[cC])]
  change(match Da [(kG,lB ds),(.fz,.int i),(.fz,d)] with|some (kd,d',outs)=>if bw kd=QJ\/outs.length≠([.ref 0,.val .sh (.int i),.val .sh d]:List RA).length then QI else QH (kd,d',cN [.ref 0,.val .sh (.int i),.val .sh d] (outs.map CD) (lU c c' P (lB ds) QI QI))|none=>QI)=_
  rw[a];rfl
 rw[e1];rfl
theorem Dr(c:Ci)(w n:Nat):(gK c w n).Nodup:=by
 unfold gK;show List.Pairwise.map _ (λa b d e=>d (by have:=(bR e).2;lia)) PV
theorem Ds(c:Ci)(w n:Nat):(mK c w n).Nodup:=by
 unfold mK;show List.Pairwise.map _ (λa b d e=>d (by have:=(bR e).2;lia)) PV
theorem JE(c:Ci)(n m:Nat):sp 2 0∉gK c 0 n++gK c 1 m:=λz=>by
 rcases NH.mp z with z|z<;>(obtain⟨k,_,a⟩:=gK_mem.mp z;have:=(bR a).1;lia)
theorem wx(h:Ok c)(t:Tw c c')(P:Nat):Kh [cD c,cD c',Gj P]=QH (.fr kG,dR c c' P):=by
 let y:=h.bm;let z:=h.bg;let o:=zE h (w:=0) (gk:=[]) (bk:=[]) (gv:=[]) (bv:=[]) (av:=[]) (λ_ h=>by cases h) (λ_ h=>by cases h) (by simp) (by simp) (by simp);rw[OG,OG,OG,OG,OG] at o
 let s:=zE (t.ok h) (w:=1) (gk:=gK c 0 c.gates.length) (bk:=mK c 0 c.mems.length) (gv:=c.gates.map (jq 0)) (bv:=c.mems.map λm=>bD m.1) (av:=c.mems.map λm=>pD (sp 0 m.2)) (λp h=>by
  obtain⟨k,_,j⟩:=gK_mem.mp h;have:=(bR j).1
  lia) (λp h=>by
  obtain⟨k,_,j⟩:=mK_mem.mp h;have:=(bR j).1
  lia) (by rw[Nt];lia) (by rw[Nt];lia) (by rw[Nt];lia)
 let v:gK c' 1 c'.gates.length=gK c 1 c.gates.length:=by unfold gK;rw[t.f,t.g]
 let u:mK c' 1 c'.mems.length=mK c 1 c.mems.length:=by unfold mK;rw[t.i,t.l]
 rw[v,u,t.g,Gm t,Gn t] at s;let s1:=uZ (c':=c') (P:=P) (i:=0) (.inl ⟨rfl,rfl⟩) o;let s2:=uZ (c:=c) (P:=P) (i:=1) (.inr ⟨rfl,rfl⟩) s;let s0:aD U_30 1000 (bh FX 3) [0] (lU c c' P (.nd (.obj "Ground" []) []) QI QI)=QH (.nx (lU c c' P (lB [dic [] [],dic [] [],dic [] []]) QI QI)):=rfl
 obtain⟨b,a,s3⟩:∃b a,aD U_30 1000 (bj FX 5) [0] (lU c c' P (lB [dic (gK c 0 c.gates.length++gK c 1 c.gates.length) (c.gates.map (jq 0)++c.gates.map (jq 1)),dK (dL c) (λq=>iD (bF c c' q)),dK (dL c) (λq=>pD (aF c q))]) QI QI)=QH (.nx (lU c c' P (dR c c' P) b a)):=by
  suffices w:Wp (aD U_30 1000 (bj FX 5) [0] (lU c c' P (lB [dic (gK c 0 c.gates.length++gK c 1 c.gates.length) (c.gates.map (jq 0)++c.gates.map (jq 1)),dK (dL c) (λq=>iD (bF c c' q)),dK (dL c) (λq=>pD (aF c q))]) QI QI)) λr=>∃b a,r=.nx (lU c c' P (dR c c' P) b a) by
   obtain⟨r,e,b,a,rfl⟩:=w;show⟨b,a,e⟩
  show qr rfl (λi Z=>i<=1/\∃b a,Z=lU c c' P (if i=0 then lB [dic (gK c 0 c.gates.length++gK c 1 c.gates.length) (c.gates.map (jq 0)++c.gates.map (jq 1)),dK (dL c) (λq=>iD (bF c c' q)),dK (dL c) (λq=>pD (aF c q))] else dR c c' P) b a) ⟨by decide,QI,QI,rfl⟩ (λi x Z d n=>?_) λZ n=>?_
  ·obtain⟨_,b,a,rfl⟩:=n
   match i,d with
   |i+1,d=>simp at d
   |0,d=>
    cases d;show⟨[(4,iD 0),(5,wK P)],rfl,rfl,?_⟩;show oh rfl rfl rfl rfl (eQ rfl rfl) rfl (JE c _ _) (by simp;lia) rfl ?_;show a8 ⟨_,.inl rfl,by decide,fS (iD 0),fS (wK P),?_⟩;unfold dR dK;rw[<- Gk c P];rfl
  ·obtain⟨_,b,a,rfl⟩:=n;show a8 ⟨b,a,rfl⟩
 let e:qc (lU c c' P (.nd (.obj "Ground" []) []) QI QI)=QH (.nx (lU c c' P (dR c c' P) b a)):=by
  unfold qc;rw[s0];change cg (p9 0 1 (lU c c' P (lB [dic [] [],dic [] [],dic [] []]) QI QI)) _=_;rw[s1];change cg (p9 1 2 (lU c c' P _ QI QI)) _=_;rw[s2];show s3
 unfold Kh yH
 change(match lu qc 4 6 [0] [(kG,.nd (.obj "Ground" []) []),uA (cD c),uA (cD c'),uA (Gj P)] with|some (.sh,.non,QH (k',d')::_)=>QH (Kd.fr k',d')|_=>QI)=_
 let e2:lu qc 4 6 [0] [(kG,.nd (.obj "Ground" []) []),uA (cD c),uA (cD c'),uA (Gj P)]=QH (.sh,.non,[QH (kG,dR c c' P),QI,QI,QI]):=by
  unfold lu;rw[if_pos (by rfl)];change il 4 [0] (qc (lU c c' P (.nd (.obj "Ground" []) []) QI QI))=_;rw[e];rfl
 rw[e2]
theorem gKs_mem{c:Ci}{w p:Nat}:sp w p∈gI c↔(w<2/\c.f<=p/\p<c.n)\/(w=2/\p=0):=by
 unfold gI;rw[NH,NH,gK_mem,gK_mem,NF];unfold Ci.n;constructor
 ·rintro ((⟨k,b,a⟩|⟨k,b,a⟩)|a)<;>(obtain⟨rfl,rfl⟩:=bR a;lia)
 ·rintro (⟨b,a,d⟩|⟨rfl,rfl⟩)
  ·have:w=0\/w=1:=by lia
   rcases this with rfl|rfl
   ·show .inl (.inl ⟨p-c.f,by lia,by congr 2;lia⟩)
   ·show .inl (.inr ⟨p-c.f,by lia,by congr 2;lia⟩)
  ·show .inr rfl
theorem mKs_mem{c:Ci}{w p:Nat}:sp w p∈dL c↔w<2/\c.ins<=p/\p<c.f:=by
 unfold dL;rw[NH,mK_mem,mK_mem];unfold Ci.f;constructor
 ·rintro (⟨k,b,a⟩|⟨k,b,a⟩)<;>(obtain⟨rfl,rfl⟩:=bR a;lia)
 ·rintro ⟨b,a,d⟩
  have:w=0\/w=1:=by lia
  rcases this with rfl|rfl
  ·show .inl ⟨p-c.ins,by lia,by congr 2;lia⟩
  ·show .inr ⟨p-c.ins,by lia,by congr 2;lia⟩
theorem zG(c:Ci):(gI c).Nodup:=by
 show Og.mpr ⟨Og.mpr ⟨Dr c 0 _,Dr c 1 _,λa d b f e=>?_⟩,by simp,λa d b f e=>?_⟩
 ·obtain⟨k,_,h⟩:=gK_mem.mp d;obtain⟨i,_,g⟩:=gK_mem.mp f;have:=(bR (h.symm.trans (e.trans g))).1
  lia
 ·rw[e,NF.mp f] at d;show JE c _ _ d
theorem zH(c:Ci):(dL c).Nodup:=by
 show Og.mpr ⟨Ds c 0 _,Ds c 1 _,λa g b h e=>?_⟩;obtain⟨k,_,f⟩:=mK_mem.mp g;obtain⟨i,_,d⟩:=mK_mem.mp h;have:=(bR (f.symm.trans (e.trans d))).1
 lia
section
variable {U:Nat->Option Fn} {Z:Ro} {a b:IE} {k k':Kd} {p:Int×Int} {ks:List (Int×Int)} {V:Int×Int->D}
theorem lV(e:aa U a Z=QH (k,dK ks V))(d:aa U b Z=QH (k',pD p))(g:ks.Nodup)(f:p∈ks)(hk:∀n,mn k n=.sh):aa U (.ix a b) Z=QH (.sh,V p):=by
 obtain⟨n,c⟩:=OI.mp f;rw[Jv e d g c (by rw[Nu,c];rfl),hk n]
end
theorem zI{Q:KD->Prop}(h:dY k ds=QJ)(q:Q (.fr bS,.lst ds)):Wp (eJ "list" [(k,.nd .tup ds)]) Q:=⟨_,if_pos h,q⟩
theorem qt(a:hd=.lst\/hd=.tup):Wp (eJ "list" [(Kd.sh,.nd hd ds)]) λx=>x=(.fr k0,.lst ds):=by
 rcases a with rfl|rfl
 ·show uH rfl rfl
 ·show zI rfl rfl
theorem Go{Z:Ro}{i:Nat}{d:D}{ds:List D}{Q:Kd×D×Ro->Prop}(h:Z[i]?=QH (QH ⟨QL,k0,.lst (ds++[d])⟩))(q:Q (.sh,d,Z.set i (QH ⟨QL,k0,.lst ds⟩))):Wp (bf U (.mut "pop" (.nm i) .nil) Z) Q:=by
 show⟨_,?_,q⟩;rw[j3,aW];change ij "pop" i (f8 Z[i]?) (QH []) Z=_;rw[h]
 change(match jf "pop" [] .fz (ds++[d]) [],Z[i]? with|some (d',ds'),QH (QH ⟨QL,k,_⟩)=>QH (Kd.sh,d',Z.set i (QH ⟨QL,k,id (.lst ds')⟩))|_,_=>QI)=_
 have:jf "pop" [] .fz (ds++[d]) []=QH (d,ds):=by
  change(if eW (.own [] .fz)=QJ then((ds++[d])[(ds++[d]).length-1]?).map λx=>(x,(ds++[d]).dropLast) else QI)=_
  rw[if_pos (show eW (.own [] .fz)=QJ from rfl),NK,Pj,PD,Oi (Ny _),PY,List.dropLast_concat];rfl
 rw[this,h];rfl
theorem zJ{U:GG}{Z:Ro}{i:Nat}{ds ys:List D}{Q:Kd×D×Ro->Prop}(h:Z[i]?=QH (QH ⟨QL,k0,.lst ds⟩))(b:aa U.fn e Z=QH (k,.nd hd ys))(a:dY k ys=QJ/\bw k=QL)(d:hd=.lst\/hd=.tup)(c:ds.length+ys.length<=100000)(q:Q (.sh,.non,Z.set i (QH ⟨QL,k0,.lst (ds++ys)⟩))):Wp (bf U (.mut "extend" (.nm i) (.cons e .nil)) Z) Q:=by
 show⟨_,?_,q⟩;rw[j3,e1 b];change ij "extend" i (f8 Z[i]?) (QH [(k,.nd hd ys)]) Z=_;rw[h]
 change(match jf "extend" [] .fz ds [(k,.nd hd ys)],Z[i]? with|some (d',ds'),QH (QH ⟨QL,k,_⟩)=>QH (Kd.sh,d',Z.set i (QH ⟨QL,k,id (.lst ds')⟩))|_,_=>QI)=_
 let f:jf "extend" [] .fz ds [(k,.nd hd ys)]=QH (.non,ds++ys):=by
  change(if eW (.own [] .fz)=QJ/\dY k ys=QJ/\bw k=QL/\ds.length+ys.length<=100000/\(hd=.lst\/hd=.tup) then QH (D.non,ds++ys) else QI)=_
  show if_pos ⟨rfl,a.1,a.2,c,d⟩
 rw[f,h];rfl
theorem sJ{α:Type}{P Q:α->Bool}{a:α}:∀{l:List α},(∀x∈l,Q x=QJ->P x=QJ)->a∈l->P a=QJ->Q a=QL->l.countP Q<l.countP P
 |x::l,h,b,hP,hQ=>by
  let e:=List.countP_mono_left λy c=>h y (NE x c);rw[QC,QC];rcases NB.mp b with rfl|b
  ·rw[if_pos hP,if_neg (by rw[hQ];decide)]
   lia
  ·have:=sJ (λy c=>h y (NE x c)) b hP hQ;let d:=h x NJ;cases e1:Q x
   ·rw[if_neg (by decide)]
    split<;>lia
   ·rw[if_pos rfl,if_pos (d e1)]
    lia
def uL(c:Ci):List (Int×Int):=(NP c.n).map (sp 0)++(NP c.n).map (sp 1)++[sp 2 0]
theorem sK(c:Ci):(uL c).length=2*c.n+1:=by unfold uL;simp;lia
theorem jL{c:Ci}{w p:Nat}(b:w<2)(a:p<c.n):sp w p∈uL c:=by
 unfold uL;have:w=0\/w=1:=by lia
 rcases this with rfl|rfl
 ·show NG _ (NG _ (NR.mpr ⟨p,Od.mpr a,rfl⟩))
 ·show NG _ (Nx _ (NR.mpr ⟨p,Od.mpr a,rfl⟩))
theorem Mx(c:Ci):sp 2 0∈uL c:=Nx _ (NF.mpr rfl)
theorem JF{c:Ci}(h:q∈uL c):(∃w p,w<2/\p<c.n/\q=sp w p)\/q=sp 2 0:=by
 rcases NH.mp h with h|h
 ·rcases NH.mp h with h|h<;>(obtain⟨p,a,rfl⟩:=NR.mp h;let a:=Od.mp a)
  ·show .inl ⟨0,p,by decide,a,rfl⟩
  ·show .inl ⟨1,p,by decide,a,rfl⟩
 ·show .inr (NF.mp h)
theorem zK{c:Ci}(h:Sp c.n q):q∈uL c:=by
 obtain⟨w,a,d,b,rfl⟩:=h
 match w,d,b with
 |0,_,b=>show jL (by decide) b
 |1,_,b=>show jL (by decide) b
 |2,_,b=>rw[show a=0 from Nat.lt_one_iff.mp b];show Mx c
theorem Dt{c:Ci}(h:q∈gI c):(∃w k g,w<2/\c.gates[k]?=QH g/\q=sp w (c.f+k))\/q=sp 2 0:=by
 unfold gI at h;rcases NH.mp h with h|h
 ·rcases NH.mp h with h|h<;>obtain⟨k,hk,rfl⟩:=gK_mem.mp h
  ·show .inl ⟨0,k,_,by decide,NC hk,rfl⟩
  ·show .inl ⟨1,k,_,by decide,NC hk,rfl⟩
 ·show .inr (NF.mp h)
theorem zL{c:Ci}(h:Ok c){P:Nat}(j:P<c.n)(hq:q∈gI c):(bl c P q).length<=3/\∀s∈bl c P q,s∈uL c/\mG s<mG q:=by
 rcases Dt hq with⟨w,k,g,i,b,rfl⟩|rfl
 ·rw[mS i b];obtain⟨l,e⟩:=h.g k g b;have:=(Nq.mp b).1;show⟨by rw[Nt];show l,λs a=>?_⟩;obtain⟨p,d,rfl⟩:=NR.mp a;let e:=e p d;show⟨jL i (by unfold Ci.n;lia),?_⟩;change(w:Int)*2^40+(p:Int)<(w:Int)*2^40+((c.f+k:Nat):Int)
  lia
 ·show⟨Nat.le_add_left 1 2,λs a=>?_⟩;rw[show s=sp 0 P from NF.mp a];have:=h.bn;show⟨jL (by decide) j,?_⟩;change((0:Nat):Int)*2^40+(P:Int)<((2:Nat):Int)*2^40+((0:Nat):Int)
  lia
inductive Cn (c:Ci) (P:Nat) (kk ws:List (Int×Int)):Int×Int->Prop where
 |base {q:Int×Int}:q∈ws->q∉kk->Cn c P kk ws q
 |step {q s:Int×Int}:Cn c P kk ws q->q∈gI c->s∈bl c P q->s∉kk->Cn c P kk ws s
theorem Cn.no{a ws:List (Int×Int)}(h:Cn c P a ws q):q∉a:=by cases h<;>assumption
theorem Cn.less(h:Cn c P kk ws q):Cn c P [] ws q:=by
 induction h with
 |base d a=>show .base d (by simp)
 |step _ a e _ b=>show .step b a e (by simp)
structure Nl(c:Ci)(P:Nat)(kk ws r:List (Int×Int)):Prop where
 pw:r.Pairwise λa b=>eT a b=QJ
 nd:r.Nodup
 mem:∀q,q∈r↔Cn c P kk ws q
theorem Gp(h:Ok c)(hq:q∈uL c):gG q=QJ:=by
 have:=h.bn;rcases JF hq with⟨w,p,_,a,rfl⟩|rfl
 ·change(decide (0<=(p:Int))&&decide ((p:Int)<2^40))=QJ;rw[decide_eq_true (by lia),decide_eq_true (by lia)];rfl
 ·rfl
theorem sM:∀l:List (Int×Int),yV (l.map pk)=QH l
 |[]=>rfl
 |a::l=>by
  change((IY (pk a)).bind λp=>(yV (l.map pk)).map λb=>p::b)=_;rw[sM l];rfl
abbrev Ad(G:D)(B:List (Int×Int))(R:List D)(hd:Hd)(ws q L:List (Int×Int))(O:Option Sl):Ro:=[fS G,fS (dic B R),fS (.nd hd (ws.map pD)),QH ⟨QL,k0,dic q (q.map λ_=>.bl QJ)⟩,QH ⟨QL,k0,.lst (L.map pD)⟩,O]
theorem ju(hD:Hd)(hh:hD=.lst\/hD=.tup){c c':Ci}(h:Ok c){P:Nat}(V:P<c.n){f ws:List (Int×Int)}(g:List D)(hw:∀q∈ws,q∈uL c)(lw:ws.length<=20) :
  ∃r,Kc [dR c c' P,dic f g,.nd hD (ws.map pD)]=QH (.fr k0,.lst (r.map pD))/\Nl c P f ws r/\r.length<=39/\∀q∈r,q∈uL c:=by
 let hn:=h.bn;generalize K:dR c c' P=G
 suffices w:∃d i,aD U_11 1000 (bh GQ 3) [] [fS G,fS (dic f g),fS (.nd hD (ws.map pD)),QI,QI,QI]=QH (.nx (Ad G f g hD ws d [] i))/\d.Nodup/\(∀q∈d,q∈uL c)/\∀q,q∈d↔Cn c P f ws q by
  obtain⟨d,i,e,p,M,x⟩:=w;let hl:d.length<=39:=NT (List.Nodup.length_le_of_subset p M) (by rw[sK];lia);let I:∀q,q∈d.mergeSort eT↔q∈d:=λq=>List.mem_mergeSort;show⟨d.mergeSort eT,?_,⟨y4 d,(O4 _ _).symm.nodup p,λq=>(I q).trans (x q)⟩,by rw[(O4 _ _).length_eq];show hl,λq hq=>M q ((I q).mp hq)⟩;unfold Kc wb;rw[<- K];rw[if_pos (show GF (mC "Ground.all_below") (mM "Ground.all_below") [dR c c' P,dic f g,.nd hD (ws.map pD)]=QJ from(show(decide (("Ground":Str)=mC "Ground.all_below")&&!fl3.contains (mM "Ground.all_below"))=QJ by nofun))];rw[K];unfold jS;rw[if_pos (by rfl)];change fj (zh [fS G,fS (dic f g),fS (.nd hD (ws.map pD)),QI,QI,QI])=_;unfold zh;rw[e];change fj (rV (wJ (wc (eG 3 (Ad G f g hD ws d [] i)[3]?)) (Ad G f g hD ws d [] i)))=_
  let e2:wc (eG 3 (Ad G f g hD ws d [] i)[3]?)=QH (.fr k0,.lst ((d.mergeSort eT).map pD)):=by
   change((yV (d.map pk)).bind λps=>(p4 ps).map λr=>(Kd.fr k0,D.lst (r.map pD)))=_;rw[sM,Ob,show p4 d=QH (d.mergeSort eT) from if_pos ⟨by lia,p,N5.mpr λq hq=>Gp h (M q hq)⟩];rfl
  rw[e2];rfl
 suffices w:Wp (aD U_11 1000 (bh GQ 3) [] [fS G,fS (dic f g),fS (.nd hD (ws.map pD)),QI,QI,QI]) λr=>∃d i,r=.nx (Ad G f g hD ws d [] i)/\d.Nodup/\(∀q∈d,q∈uL c)/\∀q,q∈d↔Cn c P f ws q by
  obtain⟨r,e,d,i,rfl,q⟩:=w;show⟨d,i,e,q⟩
 unfold GQ bh bh bh bh;show aw rfl rfl (by decide) ?_;show aw (aL (eO (aC (wv rfl (ba (qt hh)))))) rfl (by decide) ?_;let he:(uL c).countP (λq=>decide (q∉([]:List (Int×Int))))<=39:=NT Qb (by rw[sK];lia)
 show zm (λm Z=>∃d L i,m=4*(uL c).countP (λq=>decide (q∉d))+L.length/\m<=200/\d.Nodup/\(∀q∈d,q∈uL c/\Cn c P f ws q)/\(∀q∈L,q∈uL c/\(q∈f\/Cn c P f ws q))/\(∀q,(q∈ws\/∃s,s∈d/\s∈gI c/\q∈bl c P s)->q∈f\/q∈d\/q∈L)/\Z=Ad G f g hD ws d L i) (by lia) ⟨[],ws,QI,rfl,by lia,.nil,(λ_ h=>nomatch h),λq hq=>⟨hw q hq,(Classical.em (q∈f)).imp id λz=>.base hq z⟩,λq hq=>hq.elim (λz=>.inr (.inr z)) λ⟨s,z,_⟩=>(nomatch z),rfl⟩ λm Z hI=>?_
 obtain⟨d,L,i,rfl,x,p,C,N,o,rfl⟩:=hI;let R:aK U_11.fn (.var 4) (Ad G f g hD ws d L QI)=QH (!(L.map pD).isEmpty):=Jt rfl rfl;rcases List.eq_nil_or_concat L with rfl|⟨j,s,rfl⟩
 ·show jK (wv R ⟨λ_=>?_,λe=>by cases e⟩);show a8 ⟨d,QI,rfl,p,λq hq=>(C q hq).1,λq=>⟨λhq=>(C q hq).2,λhq=>?_⟩⟩
  let o:∀q,(q∈ws\/∃s,s∈d/\s∈gI c/\q∈bl c P s)->q∉f->q∈d:=λq t v=>(o q t).elim (λz=>absurd z v) λz=>z.elim id λz=>nomatch z
  induction hq with
  |base t v=>show o _ (.inl t) v
  |step _ v h3 W ih=>show o _ (.inr ⟨_,ih,v,h3⟩) W
 ·rw[List.concat_eq_append] at R N o x⊢;rw[NK] at x⊢;let x:4*(uL c).countP (λq=>decide (q∉d))+(j.length+1)<=200:=x;show jK (wv R ⟨λe=>?_,λ_=>?_⟩)
  ·let e:(!((j++[s]).map pD).isEmpty)=QL:=e;rw[NM] at e;simp at e
  show dJ (Go (by change QH (QH _)=_;rw[NM];rfl) ⟨⟨rfl,by decide⟩,?_⟩);change Wp (aD _ _ _ _ (Ad G f g hD ws d j (fS (pD s)))) _;let O:=N s (by simp);let u:∀q∈j,q∈uL c/\(q∈f\/Cn c P f ws q):=λq hq=>N q (NG _ hq);show jT (uV (Di rfl rfl) λ_=>fy (Di rfl rfl)) (λe=>?_) λe=>?_
  ·let t:s∉d:=λz=>by rw[decide_eq_true z] at e;cases e
   let v:s∉f:=λz=>by rw[decide_eq_true z,O1,Pv] at e;cases e
   let B:Cn c P f ws s:=O.2.elim (λz=>absurd z v) id;let hd:d.length<=39:=NT (List.Nodup.length_le_of_subset p λq hq=>(C q hq).1) (by rw[sK];lia);let F:(d++[s]).Nodup:=Og.mpr ⟨p,by simp,λa Y b hb z=>t (by rw[<- NF.mp hb,<- z];show Y)⟩;let H:∀q∈d++[s],q∈uL c/\Cn c P f ws q:=λq hq=>(NH.mp hq).elim (C q) λz=>by rw[NF.mp z];show⟨O.1,B⟩
   let lt:(uL c).countP (λq=>decide (q∉d++[s]))<(uL c).countP (λq=>decide (q∉d)):=sJ (λq _ z=>decide_eq_true λy=>(of_decide_eq_true z) (NG _ y)) O.1 (decide_eq_true t) (decide_eq_false λz=>z (by simp));show zo rfl rfl rfl rfl t (by rw[Nt];lia) rfl ?_;let X:(d.map λ_=>D.bl QJ)++[D.bl QJ]=((d++[s]).map λ_=>D.bl QJ):=by rw[NM];rfl
   rw[X];let T:aa U_11.fn (.fld "gates" (.var 0)) (Ad G f g hD ws (d++[s]) j (fS (pD s)))=QH (.sh,dK (gI c) (gF c P)):=by rw[<- K];show mO (k:=.sh) rfl rfl rfl
   show jT (oa rfl T) (λz=>?_) λz=>gm (a8 (eh (a8 (.inl ⟨_,_,.inl rfl,?_,d++[s],j,fS (pD s),rfl,?_,F,H,u,λq hq=>?_,rfl⟩))))
   ·let l:s∈gI c:=of_decide_eq_true z;obtain⟨b3,bu⟩:=zL h V l;let S:=bN (b:=.lit (.int 1)) (lV (b:=.var 5) T rfl (zG c) l λ_=>rfl) rfl (.inr rfl) rfl (rfl)
    show mF (zJ rfl S ⟨rfl,rfl⟩ (by unfold hq;split<;>simp) (by simp;lia) (gm (a8 (eh (a8 (.inl ⟨_,_,.inl rfl,?_,d++[s],j++bl c P s,fS (pD s),rfl,?_,F,H,λq hq=>?_,λq hq=>?_,?_⟩))))))
    ·rw[NK];lia
    ·rw[NK];lia
    ·rcases NH.mp hq with z|z
     ·show u q z
     ·show⟨(bu q z).1,(Classical.em (q∈f)).imp id λy=>.step B l z y⟩
    ·rcases hq with z|⟨Q,z,A,E⟩
     ·rcases o q (.inl z) with z|z|z
      ·show .inl z
      ·show .inr (.inl (NG _ z))
      ·rcases NH.mp z with z|z
       ·show .inr (.inr (NG _ z))
       ·show .inr (.inl (Nx _ z))
     ·rcases NH.mp z with z|z
      ·rcases o q (.inr ⟨Q,z,A,E⟩) with z|z|z
       ·show .inl z
       ·show .inr (.inl (NG _ z))
       ·rcases NH.mp z with z|z
        ·show .inr (.inr (NG _ z))
        ·show .inr (.inl (Nx _ z))
      ·rw[NF.mp z] at E;show .inr (.inr (Nx _ E))
    ·unfold Ad;rw[NM (l₁:=j)];rfl
   ·lia
   ·lia
   ·let l:s∉gI c:=of_decide_eq_false z;rcases hq with z|⟨Q,z,A,E⟩
    ·rcases o q (.inl z) with z|z|z
     ·show .inl z
     ·show .inr (.inl (NG _ z))
     ·rcases NH.mp z with z|z
      ·show .inr (.inr z)
      ·show .inr (.inl (Nx _ z))
    ·rcases NH.mp z with z|z
     ·rcases o q (.inr ⟨Q,z,A,E⟩) with z|z|z
      ·show .inl z
      ·show .inr (.inl (NG _ z))
      ·rcases NH.mp z with z|z
       ·show .inr (.inr z)
       ·show .inr (.inl (Nx _ z))
     ·rw[NF.mp z] at A;show absurd A l
  ·show gm (a8 (.inl ⟨_,_,.inl rfl,?_,d,j,fS (pD s),rfl,by lia,p,C,u,λq hq=>?_,rfl⟩))
   ·change 4*_+j.length<4*_+(j.length+1)
    lia
   ·rcases o q hq with z|z|z
    ·show .inl z
    ·show .inr (.inl z)
    ·rcases NH.mp z with z|z
     ·show .inr (.inr z)
     ·rw[NF.mp z];by_cases y:s∈d
      ·show .inr (.inl y)
      ·by_cases U:s∈f
       ·show .inl U
       ·rw[decide_eq_false y,decide_eq_false U] at e;cases e
def hk(i:Nat):Int:=hs2 (sp (i / 20) (i%20))
theorem JG:((NP 40).map hk).Nodup:=by nofun
theorem qu{α:Type}{a:α}:∀{l:List α} {i j:Nat},l.Nodup->l[i]?=QH a->l[j]?=QH a->i=j
 |[],i,j,_,h,_=>by simp at h
 |b::l,0,0,_,_,_=>rfl
 |b::l,0,j+1,nd,h,h2=>by
  simp at h h2;subst h;show absurd (NO h2) (NU.mp nd).1
 |b::l,i+1,0,nd,h,h2=>by
  simp at h h2;subst h2;show absurd (NO h) (NU.mp nd).1
 |b::l,i+1,j+1,nd,h,h2=>by
  show congrArg (·+1) (qu (NU.mp nd).2 (by simpa using h) (by simpa using h2))
def Ae(l:List (Int×Int)):Prop:=∀p∈l,∃w q,w<2/\q<20/\p=sp w q
theorem JH{w q:Nat}(h:q<20):hk (w*20+q)=hs2 (sp w q):=by
 let e1:(w*20+q) / 20=w:=by lia
 let e2:(w*20+q)%20=q:=by lia
 unfold hk;rw[e1,e2]
theorem Gq{w q b a:Nat}(h1:w<2)(h2:q<20)(d:b<2)(f:a<20)(e:hs2 (sp w q)=hs2 (sp b a)):sp w q=sp b a:=by
 let c:∀w q:Nat,w<2->q<20->((NP 40).map hk)[w*20+q]?=QH (hs2 (sp w q)):=λw q h1 h2=>by
  rw[Nu,Oo (by lia),P3,JH h2]
 have:=qu JG (c w q h1 h2) ((c b a d f).trans (congrArg QH e.symm));let e1:w=b:=by lia
 let e2:q=a:=by lia
 rw[e1,e2]
theorem Gr{ks:List (Int×Int)}(k:ks.Nodup)(d:Ae ks):pY (ks.map pk)=QJ:=by
 unfold pY;rw[sM];show decide_eq_true (List.pairwise_map.mpr (k.imp_of_mem λ{a b} j c g e=>g ?_));obtain⟨w,q,l,f,rfl⟩:=d a j;obtain⟨m,n,h,i,rfl⟩:=d b c;show Gq l f h i e
theorem u0{ks:List (Int×Int)}{vs:List D}(b:ks.Nodup)(a:Ae ks)(d:vs.length<=1000)(c:dY k vs=QJ):pZ (QH (k,dic ks vs))=QH (.fr k0,dic ks vs):=by
 change(if dY k vs=QJ/\pY (ks.map pk)=QJ/\vs.length<=100000 then QH (Kd.fr (.own [] .fz),D.nd (.dic (0+1) (ks.map pk)) vs) else QI)=_
 rw[if_pos ⟨c,Gr b a,by lia⟩]
section
variable {U:Nat->Option Fn} {Z:Ro} {k:Kd}
theorem My{α:Type}{l:List α}{f g:α->D}(q:hd=.lst\/hd=.tup)(p:aa U a Z=QH (k,.nd hd (l.map f)))(i:dY k (l.map f)=QJ)(m:l.length<=100000)(s:∀d,bL [(1,d)] (aJ Z cap)=QJ)(o:∀a∈l,aK U t (setAll [(1,f a)] (aJ Z cap))=QH QJ)(h:∀a∈l,Wp (aa U elt (setAll [(1,f a)] (aJ Z cap))) λx=>bK r (x.1,g a)=QJ/\x.2=g a):aa U (.comp r cap (.nm 1) (.e a) (.som t) elt) Z=QH (.fr (.own [] r),.lst (l.map g)):=by
 let b:Wp (aO r (dv (.nm 1) (cK U (.som t)) (aa U elt) (aJ Z cap)) (l.map f)) λc=>c=l.map g:=lx λx j=>pW rfl (s _) (o x j) ((h x j).mono λy n=>⟨y.1,by obtain⟨u,v⟩:=y;cases n.2;rfl,n.1⟩);show aL (dH (jl (wv p ?_)));rcases q with rfl|rfl
 ·show fu i ⟨by simpa using m,b.mono λc e=>by rw[e]⟩
 ·show lp i ⟨by simpa using m,b.mono λc e=>by rw[e]⟩
end
abbrev dN(ks:List (Int×Int))(F:Int×Int->Nat):D:=dK ks λq=>iD (F q)
abbrev JI(G:D)(B:D)(O R:D)(fd:D)(q x6 W x8:Option Sl):Ro:=[fS G,fS B,fS O,fS R,bM fd,q,x6,W,x8]
theorem sN{a:List (Int×Int)}(g:a.Nodup)(f:Ae a)(d:a.length<=1000)(h:Wp (aD U_14 1000 (bj GR 1) [] (JI (dR c c' P) (dN a F0) wd d3 (dN a F0) QI QI QI QI)) λr=>Wp (fj (QH r)) λx=>x=q):B0 [dR c c' P,dN a F0,wd,d3]=QH q:=by
 unfold B0 wb;rw[if_pos (show GF (mC "Ground.reckoned") (mM "Ground.reckoned") [dR c c' P,dN a F0,wd,d3]=QJ from(show(decide (("Ground":Str)=mC "Ground.reckoned")&&!fl3.contains (mM "Ground.reckoned"))=QJ by nofun))];unfold jS;rw[if_pos (by rfl)];change fj (wg [fS (dR c c' P),fS (dN a F0),fS wd,fS d3,QI,QI,QI,QI,QI])=_;obtain⟨r,e,x,e2,rfl⟩:=h
 let b:wg [fS (dR c c' P),fS (dN a F0),fS wd,fS d3,QI,QI,QI,QI,QI]=QH r:=by
  unfold wg;change cg (ff [] 4 (wJ (pZ (QH (.sh,dN a F0))) [fS (dR c c' P),fS (dN a F0),fS wd,fS d3,QI,QI,QI,QI,QI])) _=_;rw[u0 g f (by rw[Nt];show d) rfl];show e
 rw[b,e2]
def tv(t:Nat)(cols:List Nat)(n:Nat):Nat:=match ψ8 [iD t,.lst (cols.map iD),iD (W n)] with|some (_,.int z)=>z.toNat|_=>0
theorem JJ(t:Nat){cols:List Nat}{n:Nat}(b:n<=8)(a:cols.length<=3):ψ8 [iD t,.lst (cols.map iD),iD (W n)]=QH (.sh,iD (tv t cols n)):=by
 obtain⟨y,e⟩:=B6 t b a;unfold tv;rw[e];rfl
theorem zM{r:List (Int×Int)}{i:Nat}{s q:Int×Int}(c:r.Pairwise λa b=>eT a b=QJ)(d:r[i]?=QH s)(hq:q∈r)(f:mG q<mG s):q∈r.take i:=by
 let g:=(Nq.mp d).1
 let e:r=r.take i++s::r.drop (i+1):=by
  rw[<- Nq.mp d |>.2,<- N8 g,Pm]
 rw[e] at hq c;rcases NH.mp hq with z|z
 ·show z
 ·rcases NB.mp z with z|z
  ·rw[z] at f
   lia
  ·have:=(List.pairwise_cons.mp (List.pairwise_append.mp c).2.1).1 q z;have:mG s<=mG q:=of_decide_eq_true this
   lia
theorem iF(hd:Hd)(hh:hd=.lst\/hd=.tup){c c':Ci}(h:Ok c){P:Nat}(hP:P<c.n){l ws:List (Int×Int)}{n:Nat}(o:Int×Int->Nat)(he:n<=8)(hn:l.Nodup)(U:Ae l)(hl:l.length<=100)(hw:∀q∈ws,q∈uL c)(lw:ws.length<=20)(hg:∀q,Cn c P l ws q->q∈gI c) :
  ∃r F,B0 [dR c c' P,dN l o,.nd hd (ws.map pD),iD (W n)]=QH (.fr k0,dN (l++r) F)/\(l++r).Nodup/\(∀q,q∈r↔Cn c P l ws q)/\(∀q∈l,F q=o q)/\∀q∈r,F q=tv (tb c q) ((bl c P q).map F) n:=by
 obtain⟨r,hc,R,rl,ru⟩:=ju hd hh h hP (l.map λq=>iD (o q)) hw lw;let nd:(l++r).Nodup:=Og.mpr ⟨hn,R.nd,λa ha b U e=>((R.mem b).mp U).no (e▸ha)⟩
 suffices w:Wp (aD U_14 1000 (bj GR 1) [] (JI (dR c c' P) (dN l o) (.nd hd (ws.map pD)) (iD (W n)) (dN l o) QI QI QI QI)) λx=>∃F,(∀q∈l,F q=o q)/\(∀q∈r,F q=tv (tb c q) ((bl c P q).map F) n)/\Wp (fj (QH x)) λx=>x=(.fr k0,dN (l++r) F) by
  obtain⟨x,e,F,h1,h2,h3⟩:=w;show⟨r,F,sN hn U (by lia) ⟨x,e,h3⟩,nd,R.mem,h1,h2⟩
 unfold GR bj bj;generalize ho:D.nd hd (ws.map pD)=wd at *;show gf (dI (jl (wv (bA rfl (e3 rfl rfl rfl) rfl rfl hc rfl) (fu rfl ⟨λi Z=>i<=r.length/\∃F N E I H,Z=JI (dR c c' P) (dN l o) wd (iD (W n)) (dN (l++r.take i) F) N E I H/\(∀q∈l,F q=o q)/\∀q∈r.take i,F q=tv (tb c q) ((bl c P q).map F) n,⟨NZ _,o,QI,QI,QI,QI,by rw[Pa,N9];rfl,(λ_ _=>rfl),(λ_ h=>by rw[Pa] at h;cases h)⟩,λi d Z m Y=>?_,λZ Y=>?_⟩))))
 ·obtain⟨_,F,N,E,I,H,rfl,T,f2⟩:=Y;let m:(r.map pD)[i]?=QH d:=m;rw[Nu] at m
  cases e:r[i]? with
  |none=>rw[e] at m;cases m
  |some s=>
   rw[e] at m;cases m;let hi:=(Nq.mp e).1;let hs:=(R.mem s).mp (NO e);let u:=hg s hs;obtain⟨b3,bu⟩:=zL h hP u;let tk:=jr e;let C:(l++r.take (i+1)).Nodup:=nd.sublist (List.Sublist.append_left (PM _ _) l);rw[tk,<- Of] at C;let K:s∉l++r.take i:=λz=>(Og.mp C).2.2 s z s (by simp) rfl;let hf:=(Og.mp C).1
   let A:∀q∈bl c P s,q∈l++r.take i:=λq hq=>by
    by_cases z:q∈l
    ·show NG _ z
    ·show Nx _ (zM R.pw e ((R.mem q).mpr (.step hs u hq z)) (bu q hq).2)
   let lk:(l++r.take i).length<=200:=by rw[NK,N0];lia
   show⟨[(5,pD s)],rfl,rfl,?_⟩;change Wp (aD _ _ _ [] (JI (dR c c' P) (dN l o) wd (iD (W n)) (dN (l++r.take i) F) (fS (pD s)) E I H)) _;generalize t:l++r.take i=fk at *;let Q:∀{fd:D} {N E I H:Option Sl},aa U_14.fn (.fld "gates" (.var 0)) (JI (dR c c' P) (dN l o) wd (iD (W n)) fd N E I H)=QH (.sh,dK (gI c) (gF c P)):=mO (k:=.sh) rfl rfl rfl;show jT (by rw[oa rfl Q,decide_eq_true u]) (λ_=>?_) λe=>by cases e
   show eC (lV Q rfl (zG c) u λ_=>rfl) ⟨rfl,rfl⟩ ?_
   show aw (My (g:=λq=>iD (F q)) (by unfold hq;split<;>simp) rfl rfl (by lia) (λ_=>rfl) (λq hq=>?_) λq hq=>?_) rfl (by decide) ?_
   ·rw[oa rfl rfl,decide_eq_true (A q hq)]
   ·show wv (lV rfl rfl hf (A q hq) λ_=>rfl) ⟨rfl,rfl⟩
   show jT (z:=QJ) ?_ (λ_=>?_) λe=>by cases e
   ·rw[n8 (bd rfl (.inl rfl)) (bd rfl (by unfold hq;split<;>simp)),decide_eq_true rfl]
   ·let hv:=JJ (tb c s) (cols:=(bl c P s).map F) he (by rw[Nt];show b3);rw[NN] at hv;generalize X:tv (tb c s) ((bl c P s).map F) n=v at hv;show zo rfl (gh rfl (e3 rfl rfl rfl) rfl rfl hv rfl) rfl rfl K (by rw[Nt];lia) rfl ?_;let L:∀q∈fk,¬q=s:=λq hq z=>K (z▸hq)
    let eb:(bl c P s).map F=(bl c P s).map λq=>if q=s then v else F q:=Oc λq hq=>(if_neg (L q (A q hq))).symm
    let hm:∀q∈r.take i,q∈fk:=λq hq=>t▸Nx _ hq
    show a8 (eh (a8 (eh (a8 ⟨_,.inl rfl,by lia,λq=>if q=s then v else F q,fS (pD s),fS (iD (tb c s)),fS (.nd (hq s) ((bl c P s).map pD)),bM (.lst ((bl c P s).map λq=>iD (F q))),?_,λq hq=>?_,λq hq=>?_⟩))))
    ·rw[tk,<- Of,t];unfold dN dK
     rw[NM (f:=λq=>iD (if q=s then v else F q)),PC,if_pos rfl,Oc (f:=λq=>iD (if q=s then v else F q)) λq hq=>by rw[if_neg (L q hq)]]
     rfl
    ·change(if q=s then v else F q)=_
     rw[if_neg (L q (t▸NG _ hq))];show T q hq
    ·rw[tk] at hq;rcases NH.mp hq with z|z
     ·change(if q=s then v else F q)=_
      rw[if_neg (L q (hm q z)),f2 q z];obtain⟨j,S⟩:=OI.mp z;let O:q∈r:=List.mem_of_mem_take z
      let V:r[j]?=QH q:=by
       let B:j<i:=by
        have:=(Nq.mp S).1;rw[N0] at this
        lia
       rw[PQ B] at S;show S
      let B:j<=i:=by
       have:=(Nq.mp S).1;rw[N0] at this
       lia
      congr 1;show Oc λp hp=>(if_neg (L p ?_)).symm;let M:=hg q ((R.mem q).mp O);rw[<- t];by_cases y:p∈l
      ·show NG _ y
      ·show Nx _ ((List.take_subset_take_left r B) (zM R.pw V ((R.mem p).mpr (.step ((R.mem q).mp O) M hp y)) ((zL h hP M).2 p hp).2))
     ·change(if q=s then v else F q)=_
      rw[NF.mp z,if_pos rfl,<- eb,X]
 ·obtain⟨_,F,N,E,I,H,rfl,T,f2⟩:=Y;rw[show(r.map pD).length=r.length from Nt _,Oh] at f2⊢;show eA (ge rfl ⟨rfl,F,T,f2,gg rfl rfl⟩)
inductive Pl (c:Ci) (P:Nat):Nat->Prop where
 |base:Pl c P P
 |step {k p:Nat} {g:Nat×List Nat}:Pl c P (c.f+k)->c.gates[k]?=QH g->p∈g.2->Pl c P p
def Du(c:Ci)(P:Nat):Prop:=∀p,Pl c P p->c.ins<=p
theorem Pl.lt{c:Ci}(h:Ok c){P p:Nat}(e:P<c.n)(b:Pl c P p):p<c.n:=by
 induction b with
 |base=>show e
 |step _ a d _=>
  have:=(h.g _ _ a).2 _ d;have:=(Nq.mp a).1;unfold Ci.n
  lia
theorem Dv{c:Ci}{w k:Nat}(b:w<2)(a:c.gates[k]?=QH g):sp w (c.f+k)∈gI c:=gKs_mem.mpr (.inl ⟨b,by lia,by
 have:=(Nq.mp a).1;unfold Ci.n
 lia⟩)
theorem JK(c:Ci):sp 2 0∈gI c:=gKs_mem.mpr (.inr ⟨rfl,rfl⟩)
theorem Dw(hq:Cn c P kk [dw h P,dw h P] q):q=sp 2 0\/∃p,Pl c P p/\q=sp 0 p:=by
 induction hq with
 |@base x d _=>
  let d:x=dw h P:=by simpa using d
  rw[d];cases h
  ·show .inr ⟨P,.base,rfl⟩
  ·show .inl rfl
 |step _ i a _ m=>
  rcases m with rfl|⟨p,j,rfl⟩
  ·show .inr ⟨P,.base,NF.mp a⟩
  ·rcases Dt i with⟨w,k,g,l,f,e⟩|e
   ·obtain⟨rfl,rfl⟩:=bR e;rw[mS l f] at a;obtain⟨n,b,rfl⟩:=NR.mp a;show .inr ⟨n,.step j f b,rfl⟩
   ·show absurd (bR e).1 (by decide)
theorem JL(b:Pl c P p):Cn c P [] [dw h P,dw h P] (sp 0 p):=by
 induction b with
 |base=>
  cases h
  ·show .base (NJ) (by simp)
  ·show .step (.base (NJ) (by simp)) (JK c) (NF.mpr rfl) (by simp)
 |step _ a e d=>show .step d (Dv (by decide) a) (by rw[mS (by decide) a];show NR.mpr ⟨_,e,rfl⟩) (by simp)
theorem Dx{c:Ci}(h:Ok c){P:Nat}(i:P<c.n)(e:Du c P)(hq:Cn c P kk [dw b P,dw b P] q):q∈gI c\/q∈dL c:=by
 rcases Dw hq with rfl|⟨p,a,rfl⟩
 ·show .inl (JK c)
 ·let g:=e p a;let d:=a.lt h i;by_cases z:p<c.f
  ·show .inr (mKs_mem.mpr ⟨by decide,g,z⟩)
  ·show .inl (gKs_mem.mpr (.inl ⟨by decide,by lia,d⟩))
theorem JM(h:∀q,Cn c P [] [dw b P,dw b P] q->q∈gI c\/q∈dL c):Du c P:=λp a=>by
 rcases h _ (JL a) with z|z
 ·rcases gKs_mem.mp z with⟨_,z,_⟩|⟨z,_⟩
  ·unfold Ci.f at z
   lia
  ·cases z
 ·show(mKs_mem.mp z).2.1
theorem Gs(a:Nat):[sp 0 a,sp 1 a].Nodup:=NU.mpr ⟨λz=>by
 have:=(bR (NF.mp z)).1
 lia,NU.mpr ⟨by simp,.nil⟩⟩
theorem fx(b:s∈[sp 0 a,sp 1 a]):∃w,w<2/\s=sp w a:=by
 simp only[NB,NQ,or_false] at b;rcases b with rfl|rfl
 ·show⟨0,by decide,rfl⟩
 ·show⟨1,by decide,rfl⟩
theorem ol{c:Ci}{P a:Nat}(h1:c.ins<=a)(h2:a<c.f)(hq:Cn c P kk [sp 0 a,sp 1 a] q):q∈[sp 0 a,sp 1 a]/\q∈dL c:=by
 induction hq with
 |base h _=>
  obtain⟨w,d,rfl⟩:=fx h;show⟨h,mKs_mem.mpr ⟨d,h1,h2⟩⟩
 |step _ b _ _ e=>
  obtain⟨w,d,rfl⟩:=fx e.1
  rcases gKs_mem.mp b with⟨_,z,_⟩|⟨z,_⟩<;>lia
theorem all_map{α:Type}(l:List α)(t:α->Bool):(l.map λa=>D.bl (t a))=((l.map t).map D.bl):=by rw[NN];rfl
theorem zN{α:Type}{l:List α}{f:α->D}(t:α->Bool)(j:hd=.lst\/hd=.tup)(i:aa U a Z=QH (k,.nd hd (l.map f)))(m:dY k (l.map f)=QJ)(c:l.length<=100000)(b:∀d,bL [(1,d)] (aJ Z cap)=QJ)(h:∀a∈l,aa U elt (setAll [(1,f a)] (aJ Z cap))=QH (.sh,.bl (t a))):aa U (.blt "all" (.cons (.comp .fz cap (.nm 1) (.e a) .non elt) .nil)) Z=QH (.sh,.bl (l.all t)):=by
 have:=lS (r:=.fz) j i m c λx g=>wo (b _) (wv (h x g) ⟨.sh,rfl,rfl⟩);rw[all_map] at this;have:=zl this;rw[List.all_map] at this;show this
theorem zO{c c':Ci}(h:Ok c){P:Nat}(g:P<c.n)(e:p∈uL c)(hq:q∈uL c):∃r:List (Int×Int),(∀x,x∈r↔Cn c P [] [p,q] x)/\Ji [dR c c' P,mR p q b c.f l]=QH (.sh,.bl (r.all λx=>decide (x∈gI c)||decide (x∈dL c))):=by
 obtain⟨r,a,R,o,_⟩:=ju .tup (.inr rfl) h g (ws:=[p,q]) [] (λx d=>by
  simp only[NB,NQ,or_false] at d;rcases d with rfl|rfl
  ·show e
  ·show hq) (by simp)
 show⟨r,R.mem,?_⟩;unfold Ji;show fB rfl ?_;unfold L1;show bP (zN (λx=>decide (x∈gI c)||decide (x∈dL c)) (.inl rfl) (bA rfl (e3 rfl rfl (zB (xs:=[pD p,pD q,gH b c.f l,mQ]) rfl (by simp))) rfl rfl a rfl) rfl (by lia) (λ_=>rfl) λs m=>?_) rfl (eU rfl rfl);let i:aa U_31.fn (.fld "gates" (.var 2)) (setAll [(1,pD s)] (aJ [fS (dR c c' P),fS (mR p q b c.f l)] [QI,QI,QH 0]))=QH (.sh,dK (gI c) (gF c P)):=mO (k:=.sh) rfl rfl rfl;let j:aa U_31.fn (.fld "begins" (.var 2)) (setAll [(1,pD s)] (aJ [fS (dR c c' P),fS (mR p q b c.f l)] [QI,QI,QH 0]))=QH (.sh,dN (dL c) (bF c c')):=mO (k:=.sh) rfl rfl rfl;show F9 (eB (oa rfl i)) λ_=>fA (eB (oa rfl j))
theorem u1(h:Ok c):Ae (dL c):=λp a=>by
 have:=h.bi;have:=h.bm;unfold dL at a
 rcases NH.mp a with z|z<;>obtain⟨k,b,rfl⟩:=mK_mem.mp z
 ·show⟨0,c.ins+k,by decide,by lia,rfl⟩
 ·show⟨1,c.ins+k,by decide,by lia,rfl⟩
theorem zP{c c':Ci}(h:Ok c){P:Nat}(s:P<c.n){p q:Int×Int}{b:Bool}{l:List Nat}(o:p∈uL c)(hq:q∈uL c)(t:∀x,Cn c P (dL c) [p,q] x->x∈gI c)(v:p=q\/p∈dL c/\q∈dL c):Jj [dR c c' P,mR p q b c.f l]=QH (.sh,.bl (decide (bF c c' p=bF c c' q))):=by
 let A:=h.bm
 obtain⟨r,F,y,j,u,g,_⟩:=iF .tup (.inr rfl) h s (n:=0) (bF c c') (by decide) (zH c) (u1 h) (by unfold dL mK;simp;lia) (λx e=>by
  simp only[NB,NQ,or_false] at e;rcases e with rfl|rfl
  ·show o
  ·show hq) (by simp) t
 let a:∀x∈[p,q],x∈dL c++r:=λx e=>by
  by_cases z:x∈dL c
  ·show NG _ z
  ·show Nx _ ((u x).mpr (.base e z))
 unfold Jj;show fB rfl ?_;unfold L3;show aw (bA rfl (e4 rfl (mO (k:=.sh) rfl rfl rfl) (zB (xs:=[pD p,pD q,gH b c.f l,mQ]) rfl (by simp)) rfl) rfl rfl y rfl) rfl (by decide) ?_;let i:∀(n:Nat) d,[pD p,pD q,gH b c.f l,mQ][n]?=QH d->aa U_32.fn (.ix (.var 1) (.lit (.int (n:Int)))) [fS (dR c c' P),fS (mR p q b c.f l),bM (dN (dL c++r) F)]=QH (.sh,d):=λn d h=>bN (k:=.sh) rfl rfl (.inr rfl) rfl h;show bP (eB (n8 (lV (V:=λq=>iD (F q)) rfl (i 0 _ rfl) j (a p (by simp)) λ_=>rfl) (lV (V:=λq=>iD (F q)) rfl (i 1 _ rfl) j (a q (by simp)) λ_=>rfl))) rfl (eU rfl ?_);show zq (Pq.trans ?_);rcases v with rfl|⟨w,m⟩
 ·show⟨λ_=>rfl,λ_=>rfl⟩
 ·rw[g p w,g q m]
abbrev Dy(k:Nat):D:=.tup ([sp 0 k,sp 1 k].map pD)
noncomputable def wl(b:Bool):List Nat:=if b=QJ then [0,1] else [0]
def qw(b:Bool)(p:Nat):List (Int×Int):=(wl b).map λw=>sp w p
theorem om(h:q∈qw b p):∃w,w∈wl b/\q=sp w p:=by
 obtain⟨w,a,rfl⟩:=NR.mp h;show⟨w,a,rfl⟩
theorem Dz{w:Nat}(h:w∈wl b):w<2:=by
 cases b
 ·rw[NF.mp h];decide
 ·let h:w∈[0,1]:=h;simp only[NB,NQ,or_false] at h
  lia
theorem zQ(b:Bool)(p:Nat):(qw b p).Nodup:=by
 cases b
 ·show NU.mpr ⟨by simp,.nil⟩
 ·show Gs p
theorem u3(b:Bool)(p:Nat):(qw b p).length<=2:=by
 cases b
 ·show OP 1
 ·show Ny 2
structure Tab(b:Bool)(kk:List (Int×Int))(fr:List Nat):Prop where
 nd:kk.Nodup
 le:kk.length<=2*fr.length
 mem:∀q,q∈kk↔∃w p,w∈wl b/\p∈fr/\q=sp w p
theorem Tab.at{a:List (Int×Int)}{c:List Nat}(t:Tab b a c)(f:w∈wl b):sp w p∈a↔p∈c:=
 ⟨λh=>by
  obtain⟨g,i,_,d,e⟩:=(t.mem _).mp h;rw[(bR e).2];show d,λh=>(t.mem _).mpr ⟨w,p,f,h,rfl⟩⟩
theorem Tab.old{d:List Nat}{p:Nat}(t:Tab b kk d)(h:p∈d):Tab b kk (d++[p]):=by
 show⟨t.nd,by have:=t.le;simp;lia,λq=>(t.mem q).trans ⟨λ⟨w,f,c,a,e⟩=>⟨w,f,c,NG _ a,e⟩,λ⟨w,f,c,a,e⟩=>⟨w,f,c,?_,e⟩⟩⟩;rcases NH.mp a with z|z
 ·show z
 ·rw[NF.mp z];show h
theorem Tab.new{i:List (Int×Int)}{a:List Nat}{p:Nat}(t:Tab b i a)(h:p∉a):Tab b (i++qw b p) (a++[p]):=by
 show⟨Og.mpr ⟨t.nd,zQ b p,λx j y k e=>?_⟩,by have:=t.le;have:=u3 b p;rw[NK,NK];change _<=2*(a.length+1);lia,λq=>?_⟩
 ·obtain⟨w,f,rfl⟩:=om k;show h ((t.at f).mp (e▸j))
 ·rw[NH,t.mem];constructor
  ·rintro (⟨w,g,c,d,e⟩|z)
   ·show⟨w,g,c,NG _ d,e⟩
   ·obtain⟨w,f,e⟩:=om z;show⟨w,p,f,by simp,e⟩
  ·rintro ⟨w,g,c,d,rfl⟩
   rcases NH.mp d with z|z
   ·show .inl ⟨w,g,c,z,rfl⟩
   ·rw[NF.mp z];show .inr (NR.mpr ⟨w,c,rfl⟩)
theorem Tab.box{a:List Nat}(t:Tab b kk a)(h:∀p∈a,p<20):Ae kk:=λq hq=>by
 obtain⟨w,p,d,c,e⟩:=(t.mem q).mp hq;show⟨w,p,Dz d,h p c,e⟩
abbrev dG(B:List (Int×Int))(G:Int->Nat):D:=dN B λq=>G q.2
abbrev Kr(sL:List D)(fd:D)(n:Nat)(B:D)(R:Nat)(q x6 x7 x8 O:Option Sl):Ro:=[fS (.lst sL),fS fd,fS (iD (W n)),bM B,fS (iD R),q,x6,x7,x8,O]
theorem u4{o:List D}{g:List Nat}(P:g.length<=8)(hs:b=QJ->∀p∈g,o[nu f p]?=QH (Dy p)):∃a G c,GS [.lst o,gH b f g]=QH (.sh,.tup [dG a G,iD c])/\Tab b a g:=by
 suffices h:Wp (GS [.lst o,gH b f g]) λr=>∃a G c,r=(.sh,.tup [dG a G,iD c])/\Tab b a g by
  obtain⟨r,e,a,G,c,rfl,t⟩:=h;show⟨a,G,c,e,t⟩
 unfold GS;show n5 rfl ?_;unfold L8;let A:∀{x2 Y V C F B u j:Option Sl},aa U_15.fn (.blt "len" (.cons (.var 1) .nil)) [fS (.lst o),fS (gH b f g),x2,Y,V,C,F,B,u,j]=QH (.sh,iD g.length):=bd rfl (.inl rfl);show aw (bA rfl (e1 A) rfl rfl (jp P) rfl) rfl (by decide) ?_;show aw rfl rfl (by decide) ?_;show aw rfl rfl (by decide) ?_
 show qr rfl (λs Z=>∃a G c C F B u j,Z=Kr o (gH b f g) g.length (dG a G) c C F B u j/\Tab b a (g.take s)) ⟨[],λ_=>0,W g.length,QI,QI,QI,QI,QI,rfl,⟨.nil,by simp,λq=>⟨λz=>(nomatch z),λ⟨w,p,_,z,_⟩=>by rw[Pa] at z;cases z⟩⟩⟩ (λs p Z H l=>?_) λZ l=>?_
 ·obtain⟨a,G,c,C,F,B,u,j,rfl,T⟩:=l;let N:=(Nq.mp H).1;let I:=NO H;let K:=T.le;rw[N0] at K;show⟨[(5,iD s),(6,it b f p)],rfl,rfl,?_⟩;show aw (bA rfl (e2 rfl A) rfl rfl (wt P N) rfl) rfl (by decide) ?_;show aw (x:=(.sh,.tup ((qw b p).map pD))) ?_ rfl (by decide) ?_
  ·cases b with
   |true=>show Dh (qf (bA rfl (e1 rfl) rfl rfl (ql _) rfl)) (λ_=>bN (k:=.sh) rfl rfl (.inl rfl) rfl (hs rfl p I)) λe=>by cases e
   |false=>show Dh (qf (bA rfl (e1 rfl) rfl rfl (qm _) rfl)) (λe=>by cases e) λ_=>fC (kds:=[(.sh,pD (sp 0 p))]) (e1 rfl) ⟨rfl,by simp⟩
  generalize it b f p=tp;generalize gH b f g=fd;let y:=jr H;generalize Ge s g.length=col;by_cases m:p∈g.take s
  ·show gf (dI (jl (aQ rfl (lp rfl ⟨λ_ Z=>∃c j,Z=Kr o fd g.length (dG a G) c (fS (iD s)) (fS tp) (fS (iD col)) (fS (.tup ((qw b p).map pD))) j,⟨c,QI,rfl⟩,λi d Z n l=>?_,λZ l=>?_⟩))))
   ·obtain⟨c,j,rfl⟩:=l;obtain⟨q,hq,rfl⟩:=NR.mp (NO n);obtain⟨w,M,rfl⟩:=om hq;let hk:=(T.at M).mpr m;show⟨[(9,pD (sp w p))],rfl,rfl,?_⟩;change Wp (aD _ _ _ [] (Kr o fd g.length (dG a G) c (fS (iD s)) (fS tp) (fS (iD col)) (fS (.tup ((qw b p).map pD))) (fS (pD (sp w p))))) _;show jT (by rw[oa rfl rfl,decide_eq_true hk]) (λ_=>?_) λe=>by cases e
    show IW rfl (cJ (a6 (a6 (aQ rfl (wv (lV rfl rfl T.nd hk λ_=>rfl) (jo (aQ rfl (jo ⟨by decide,⟨iD (c &&& (W g.length ^^^ G p ^^^ col)),?_,a8 (eh (a8 ⟨_,.inl rfl,_,_,rfl⟩))⟩⟩))))))));change QH (D.int _)=QH (D.int _);rw[og]
   ·obtain⟨c,j,rfl⟩:=l;show a8 ⟨_,.inl rfl,a,G,c,_,_,_,_,_,rfl,by rw[y];show T.old m⟩
  ·generalize v:(λz:Int=>if z=(p:Int) then col else G z)=G'
   let g1:G' (p:Int)=col:=by rw[<- v];show if_pos rfl
   let U:(a.map λq=>iD (G q.2))=a.map λq=>iD (G' q.2):=Oc λq hq=>by
    obtain⟨w,E,_,X,rfl⟩:=(T.mem q).mp hq;rw[<- v]
    change iD (G E)=iD (if(E:Int)=(p:Int) then col else G E)
    rw[if_neg λz:(E:Int)=(p:Int)=>m ((show E=p by lia)▸X)]
   let L:dG a G=dG (a++(qw b p).take 0) G':=by
    unfold dG dN dK;rw[U,Pa,N9]
   rw[L];show gf (dI (jl (aQ rfl (lp rfl ⟨λi Z=>∃j,Z=Kr o fd g.length (dG (a++(qw b p).take i) G') c (fS (iD s)) (fS tp) (fS (iD col)) (fS (.tup ((qw b p).map pD))) j,⟨QI,rfl⟩,λi d Z n l=>?_,λZ l=>?_⟩))))
   ·obtain⟨j,rfl⟩:=l;let n:((qw b p).map pD)[i]?=QH d:=n;rw[Nu] at n
    cases e:(qw b p)[i]? with
    |none=>rw[e] at n;cases n
    |some q=>
     rw[e] at n;cases n;obtain⟨w,M,rfl⟩:=om (NO e);let R:=jr e
     let Q:sp w p∉a++(qw b p).take i:=λz=>by
      rcases NH.mp z with z|z
      ·show m ((T.at M).mp z)
      ·let S:=(zQ b p).sublist (PM (i+1) _);rw[R] at S;show(Og.mp S).2.2 _ z _ (by simp) rfl
     let lv:(a++(qw b p).take i).length<=100:=by have:=u3 b p;rw[NK,N0];lia
     show⟨[(9,pD (sp w p))],rfl,rfl,?_⟩;generalize O:a++(qw b p).take i=fk at *;show jT (by rw[oa rfl rfl,decide_eq_false Q]) (λe=>by cases e) λ_=>?_;show zo rfl rfl rfl rfl Q (by rw[Nt];lia) rfl ?_;show a8 (eh (a8 ⟨_,.inl rfl,fS (pD (sp w p)),?_⟩));rw[R,<- Of,O];unfold dG dN dK;rw[NM,PC,show(λq:Int×Int=>G' q.2) (sp w p)=col from g1];rfl
   ·obtain⟨j,rfl⟩:=l;rw[show((qw b p).map pD).length=(qw b p).length from Nt _,Oh];show a8 ⟨_,.inl rfl,_,G',c,_,_,_,_,_,rfl,by rw[y];show T.new m⟩
 ·obtain⟨a,G,c,C,F,B,u,j,rfl,T⟩:=l;rw[Oh] at T;show eA (gE (di (ge rfl (wv (e1 rfl) (fv rfl ⟨rfl,_,rfl,a,G,c,rfl,T⟩)))))
theorem DA{a ws:List (Int×Int)}(h:∀q∈ws,q∈a)(z:Cn c P a ws q):False:=by
 induction z with
 |base e b=>show b (h _ e)
 |step _ _ _ _ d=>show d
theorem lA(hd:Hd)(i:hd=.lst\/hd=.tup){c c':Ci}(h:Ok c){P:Nat}(f:P<c.n){a ws:List (Int×Int)}{n:Nat}(F:Int×Int->Nat)(b:n<=8)(j:a.Nodup)(o:Ae a)(l:a.length<=100)(g:∀q∈ws,q∈uL c)(p:ws.length<=20)(hk:∀q∈ws,q∈a):B0 [dR c c' P,dN a F,.nd hd (ws.map pD),iD (W n)]=QH (.fr k0,dN a F):=by
 obtain⟨r,s,e,_,k,d,_⟩:=iF hd i h f F b j o l g p λq z=>(DA hk z).elim;let m:r=[]:=List.eq_nil_iff_forall_not_mem.mpr λq hq=>DA hk ((k q).mp hq);rw[e,m,N9];unfold dN dK;rw[Oc λq hq=>by rw[d q hq]]
theorem jv(F:Int×Int->Nat):∀ks:List (Int×Int),gx (ks.map λq=>iD (F q)) [] .fz=QJ
 |[]=>rfl
 |q::ks=>by
  change(QJ&&gx (ks.map λq=>iD (F q)) [] .fz)=QJ;rw[jv F ks];rfl
abbrev u5(G S R O:D)(B W q:Option Sl):Ro:=[fS G,fS S,fS mQ,fS R,fS O,B,QI,QI,QI,W,q]
noncomputable abbrev Ca:D:=.nd (.dic 0 []) []
theorem zR{c c':Ci}(h:Ok c){P:Nat}(o:P<c.n){a:List (Int×Int)}{n:Nat}(F:Int×Int->Nat)(b:n<=8)(j:a.Nodup)(l:Ae a)(t:a.length<=100):Ke [dR c c' P,S,mQ,dN a F,iD (W n)]=QH (.fr k0,dN a F):=by
 let e:=lA .lst (.inl rfl) (c':=c') h o (ws:=[]) F b j l t (λ_ h=>nomatch h) (by simp) (λ_ h=>nomatch h)
 generalize dR c c' P=G at *;generalize m:iD (W n)=wd at *;let g:=u0 (vs:=a.map λq=>iD (F q)) (k:=.sh) j l (by rw[Nt];lia) rfl;generalize f:dN a F=kd at *
 let s0:aD U_19 1000 (bh FW 2) [] (u5 G S kd wd QI QI QI)=QH (.nx (u5 G S kd wd (bM Ca) QI QI)):=by
  show qe ?_;unfold FW bh bh bh;show aw rfl rfl (by decide) ?_;show gf (dI (jl (aQ rfl (fu rfl ⟨λ_ Z=>Z=u5 G S kd wd (bM Ca) QI QI,rfl,λi d Z p _=>by simp at p,λZ s=>?_⟩))));subst s;show a8 rfl
 let s1:FY (u5 G S kd wd (bM Ca) QI QI)=QH (.nx (u5 G S kd wd (bM Ca) (bM kd) QI)):=by
  let e2:Bc B0 [(.sh,G),(.sh,kd),(.fr k0,.lst []),(.sh,wd)]=QH (.fr k0,kd):=qe (uI ⟨_,e,rfl,.inl rfl,rfl⟩);change ff [] 9 (wJ (Bc B0 [(.sh,G),(.sh,kd),(.fr k0,.lst []),(.sh,wd)]) (u5 G S kd wd (bM Ca) QI QI))=_;rw[e2];rfl
 let s2:FZ (u5 G S kd wd (bM Ca) (bM kd) QI)=QH (.nx (u5 G S kd wd (bM Ca) (bM kd) (bM kd))):=by
  change ff [] 10 (wJ (pZ (QH (.sh,kd))) (u5 G S kd wd (bM Ca) (bM kd) QI))=_;rw[<- f,g];rfl
 let s3:F5 (u5 G S kd wd (bM Ca) (bM kd) (bM kd))=QH (.nx (u5 G S kd wd QI (bM kd) (bM kd))):=rfl;let s4:Wp (aD U_19 1000 (bj FW 5) [] (u5 G S kd wd QI (bM kd) (bM kd))) λr=>Wp (fj (QH r)) λx=>x=(.fr k0,kd):=eA (ge rfl ⟨rfl,gg rfl rfl⟩);obtain⟨r,e,x,u,rfl⟩:=s4;unfold Ke jS;rw[if_pos (by rfl)];change fj (wj (u5 G S kd wd QI QI QI))=_
 let v:wj (u5 G S kd wd QI QI QI)=QH r:=by
  unfold wj;rw[s0];dsimp only[cg];rw[s1];dsimp only;rw[s2];dsimp only;rw[s3];dsimp only;rw[e]
 rw[v,u]
theorem mT{c c':Ci}(h:Ok c){P:Nat}(u:P<c.n){k:List D}{b:Bool}{f:Nat}{a:List Nat}{g j ks:List (Int×Int)}{F F':Int×Int->Nat}{l:Nat}(t:a.length<=8)(p:GS [.lst k,gH b f a]=QH (.sh,.tup [dN g F,iD l]))(y:g.Nodup)(C:Ae g)(B:g.length<=100)(E:ks.length<=20)
  (h33:B0 [dR c c' P,dN g F,.lst (ks.map pD),iD (W a.length)]=QH (.fr k0,dN j F')) (ha:∀s∈ks,s∈j):Kf [dR c c' P,.lst k,gH b f a,mQ,.lst (ks.map pD)]=QH (.sh,.tup [dN j F',iD l]):=by
 let w:=λS=>zR (c':=c') h u (S:=S) F t y C B;let r:kM (.fr k0) (dN j F')=QJ:=jv F' j;generalize dR c c' P=G at *;let o:∀{Z:Ro},aa U_20.fn (.var 2) Z=QH (.sh,gH b f a)->aa U_20.fn (.blt "len" (.cons (.var 2) .nil)) Z=QH (.sh,iD a.length):=λz=>bd z (.inl rfl);generalize gH b f a=fd at *;generalize A:dN g F=kd at *;unfold Kf;show aL (n5 rfl ?_);unfold L7;show aw (bA rfl (e1 (o rfl)) rfl rfl (jp t) rfl) rfl (by decide) ?_;show eC (bA rfl (e2 rfl rfl) rfl rfl p rfl) ⟨rfl,rfl⟩ ?_;show aw (bA rfl (qe (aC (wv rfl (wv (e4 rfl rfl rfl rfl) rfl)))) rfl rfl (w _) rfl) rfl (by decide) ?_;show aw (aL (eO (aC (wv rfl (ba (qt (.inl rfl))))))) rfl (by decide) ?_;show gf (dI (jl (aQ rfl (fu rfl ⟨λ_ Z=>Z=[fS G,fS (.lst k),fS fd,fS mQ,fS (.lst (ks.map pD)),fS (iD (W a.length)),fS kd,fS (iD l),bM kd,bM (.lst (ks.map pD)),QI,QI,QI,QI],rfl,λi d Z m _=>by simp at m,λZ q=>?_⟩))));subst q;show aw (gh rfl (e4 rfl rfl rfl rfl) r rfl h33 rfl) rfl (by decide) ?_;show eR (x:=(.sh,.non)) (c9 (Dg (iB (.inl rfl) rfl rfl (by lia) (λ_=>rfl) λs v=>eB ?_))) (λe=>by cases e) λ_=>?_
 ·rw[oa rfl rfl,decide_eq_true (ha s v)]
 show gf (dI (jl (aQ rfl (fu rfl ⟨λ_ Z=>Z=[fS G,fS (.lst k),fS fd,fS mQ,fS (.lst (ks.map pD)),fS (iD (W a.length)),fS kd,fS (iD l),bM kd,bM (.lst (ks.map pD)),QI,bM (dN j F'),QI,QI],rfl,λi d Z m _=>by simp at m,λZ q=>?_⟩))));subst q;show eA (gE (di (ge rfl (wv (e1 rfl) (fv rfl ⟨rfl,_,rfl,rfl⟩)))))
theorem u6{d:List (Int×Int)}{F:Int×Int->Nat}(h:aa U f Z=QH (kf,dN d F))(c:∀n,mn kf n=.sh)(k:aa U a Z=QH (ka,pD p))(l:aa U b Z=QH (kb,pD q))(hk:aa U kx Z=QH (kk,iD kp))(g:d.Nodup)(j:p∈d)(i:q∈d)(e:F p=F q) :
  aa U (.cmp .Eq (.bin .BitAnd (.bin .BitXor (.ix f a) (.ix f b)) kx) (.lit (.int 0))) Z=QH (.sh,.bl QJ):=by
 let e:aa U (.bin .BitAnd (.bin .BitXor (.ix f a) (.ix f b)) kx) Z=QH (.sh,iD 0):=aL (a6 (a6 (wv (lV h k g j c) (wv (lV h l g i c) (jo (wv hk (zu (by rw[e,Nat.xor_self,Nat.zero_and]))))))));show eB (cb e rfl rfl)
theorem JN{c:Ci}{a:Nat}(h:a<c.n):∀q∈[sp 0 a,sp 1 a],q∈uL c:=λq hq=>by
 obtain⟨w,b,rfl⟩:=fx hq;show jL b h
theorem Gu{c c':Ci}(h:Ok c){P:Nat}(E:P<c.n){v:List D}(A:∀p,p<c.n->v[nu c.f p]?=QH (Dy p)){k:Nat}{g:Nat×List Nat}(l:c.gates[k]?=QH g):Kg [dR c c' P,.lst v,ox c.f (Do c k g.2)]=QH (.sh,.bl QJ):=by
 let hk:=(Nq.mp l).1;let N:=h.bn;obtain⟨X,y⟩:=h.g k g l;let m:c.f+k<c.n:=by unfold Ci.n;lia
 obtain⟨u,G,Q,B,T⟩:=u4 (b:=QJ) (by lia) λ_ p i=>A p (O8 (y p i) m);let hBq:=T.box λp i=>by have:=y p i;lia
 let R:=T.le;let o:∀w,w<2->∀p∈g.2,sp w p∈u:=λw a p i=>(T.at (show w∈[0,1] by simp;lia)).mpr i
 obtain⟨r,F,O,W,U,K,f2⟩:=iF .lst (.inl rfl) h E (n:=g.2.length) (λq=>G q.2) (by lia) T.nd hBq (by lia) (JN m) (by simp) λq hq=>by
  have:q∈[sp 0 (c.f+k),sp 1 (c.f+k)]:=by
   induction hq with
   |base h _=>show h
   |step _ _ H M V=>
    obtain⟨w,a,rfl⟩:=fx V;rw[mS a l] at H;obtain⟨p,i,rfl⟩:=NR.mp H;show absurd (o w a p i) M
  obtain⟨w,a,rfl⟩:=fx this;show Dv a l
 let t:∀w,w<2->sp w (c.f+k)∈r:=λw a=>(U _).mpr (.base (by
  have:w=0\/w=1:=by lia
  rcases this with rfl|rfl<;>simp) λz=>by
   obtain⟨Y,p,_,i,e⟩:=(T.mem _).mp z;have:=(bR e).2;have:=y p i
   lia)
 let I:∀w,w<2->F (sp w (c.f+k))=tv g.1 (g.2.map λ(p:Nat)=>G p) g.2.length:=λw a=>by
  rw[f2 _ (t w a),mS a l,show tb c (sp w (c.f+k))=g.1 by unfold tb;rw[if_neg (Kq a),sI l],NN];congr 1;show Oc λp i=>K _ (o w a p i)
 let j:∀w,w<2->sp w (c.f+k)∈u++r:=λw a=>Nx _ (t w a)
 let C:=mT h E (by lia) B T.nd hBq (by lia) (by simp) O λs A=>by
  obtain⟨w,a,rfl⟩:=fx A;show j w a
 unfold Kg;show fB rfl ?_;unfold L4;generalize dR c c' P=Gd at *;generalize L:ox c.f (Do c k g.2)=S;change Wp (aD _ _ _ [] [fS Gd,fS (.lst v),fS S,QI,QI,QI,QI,QI,QI,QI]) _;show eC (ds:=[pD (sp 0 (c.f+k)),pD (sp 1 (c.f+k)),gH QJ c.f g.2,mQ]) (by rw[<- L];rfl) ⟨rfl,rfl⟩ ?_;generalize gH QJ c.f g.2=fd at *;show aw (bA rfl (qe (aC (wv rfl (wv (e4 rfl rfl rfl (gq (e2 rfl rfl) ⟨rfl,by simp⟩)) rfl)))) rfl rfl C rfl) rfl (by decide) ?_;show eR (x:=(.sh,.bl QL)) (uU (d:=.tup [dN (u++r) F,iD Q]) rfl) (λe=>by cases e) λ_=>?_;show eC rfl ⟨rfl,rfl⟩ ?_;show bP (u6 rfl (λ_=>rfl) rfl rfl rfl W (j 0 (by decide)) (j 1 (by decide)) (by rw[I 0 (by decide),I 1 (by decide)])) rfl (eU rfl rfl)
theorem zS{e:Ro->Option Bool}{c:Ro->Option KD}{Q:Option KD->Prop}(h1:pc tg d=QH ps)(h2:bL ps Z0=QJ)(h:Wp (e (setAll ps Z0)) λb=>(b=QJ->Wp (c (setAll ps Z0)) λx=>Q (QH x))/\(b=QL->Q QI)):Wp (dv tg e c Z0 d) Q:=by
 obtain⟨b,a,g,f⟩:=h
 cases b with
 |true=>show pW h1 h2 a (g rfl)
 |false=>show⟨QI,by unfold dv;rw[h1];dsimp only;rw[if_pos h2,a],f rfl⟩
theorem u7{α:Type}{f g:α->D}{P:α->Bool}{d:D->Option (Option KD)}:∀{l:List α},(∀a∈l,Wp (d (f a)) λo=>(P a=QJ->∃c,o=QH (c,g a)/\bK r (c,g a)=QJ)/\(P a=QL->o=QI))->Wp (aO r d (l.map f)) λys=>ys=(l.filter P).map g
 |[],_=>⟨[],rfl,rfl⟩
 |a::l,h=>by
  obtain⟨ys,e1,rfl⟩:=u7 λx k=>h x (NE _ k);obtain⟨o,e2,j,e⟩:=h a NJ
  cases b:P a with
  |true=>
   obtain⟨c,rfl,i⟩:=j b;show⟨g a::(l.filter P).map g,by simp[aO,e1,e2,i],by rw[List.filter_cons_of_pos b];rfl⟩
  |false=>
   obtain rfl:=e b;show⟨(l.filter P).map g,by simp[aO,e1,e2],by rw[List.filter_cons_of_neg (by rw[b];decide)]⟩
theorem Gv{α:Type}{l:List α}{f g:α->D}(T:α->Bool)(q:hd=.lst\/hd=.tup)(p:aa U a Z=QH (k,.nd hd (l.map f)))(i:dY k (l.map f)=QJ)(m:l.length<=100000)(s:∀d,bL [(1,d)] (aJ Z cap)=QJ)(o:∀a∈l,aK U t (setAll [(1,f a)] (aJ Z cap))=QH (T a))(h:∀a∈l,Wp (aa U elt (setAll [(1,f a)] (aJ Z cap))) λx=>x.2=g a/\bK r (x.1,g a)=QJ):aa U (.comp r cap (.nm 1) (.e a) (.som t) elt) Z=QH (.fr (.own [] r),.lst ((l.filter T).map g)):=by
 let b:Wp (aO r (dv (.nm 1) (cK U (.som t)) (aa U elt) (aJ Z cap)) (l.map f)) λc=>c=(l.filter T).map g:=u7 λx j=>zS rfl (s _) (wv (o x j) ⟨λe=>(h x j).mono λy n=>⟨λ_=>⟨y.1,by obtain⟨u,v⟩:=y;cases n.1;rfl,n.2⟩,λz=>absurd (e.symm.trans z) (by decide)⟩,λe=>⟨λz=>absurd (z.symm.trans e) (by decide),λ_=>rfl⟩⟩);show aL (dH (jl (wv p ?_)));rcases q with rfl|rfl
 ·show fu i ⟨by simpa using m,b.mono λc e=>by rw[e]⟩
 ·show lp i ⟨by simpa using m,b.mono λc e=>by rw[e]⟩
theorem u8{f:D->Option (Option (D×D))}{V:Int×Int->D}:∀{l a:List (Int×Int)},(a++l).Nodup->(∀q∈l,f (pD q)=QH (QH (pD q,V q)))->ef 1 f (l.map pD) (a.map pk,a.map V)=QH ((a++l).map pk,(a++l).map V)
 |[],a,_,_=>by rw[N9];rfl
 |q::l,a,nd,h=>by
  let hq:q∉a:=λz=>(Og.mp nd).2.2 q z q NJ rfl;rw[List.append_cons] at nd⊢;rw[NS,ef,h q NJ];dsimp only
  let c:yG 1 (a.map pk,a.map V) (pD q) (V q)=QH ((a++[q]).map pk,(a++[q]).map V):=by
   change(match aR (a.map pk) (pk q) with|some j=>if(a.map pk).Nodup then QH (a.map pk,(a.map V).set j (V q)) else QI|none=>QH (a.map pk++[pk q],a.map V++[V q]))=_
   rw[qk hq,NM,NM];rfl
  rw[c];show u8 nd λp b=>h p (NE _ b)
abbrev Ks(G S st fd:D)(p q:Int×Int)(x7 x8 W B O R:Option Sl):Ro:=[fS G,fS S,fS st,fS (pD p),fS (pD q),fS fd,fS mQ,x7,x8,W,B,O,R]
theorem u9{c c':Ci}(h:Ok c){P:Nat}(M:P<c.n){sL:List D}{b:Bool}{j:List Nat}{p q:Int×Int}(I:j.length<=8)(N:∀p∈j,p<c.n)(hs:b=QJ->∀p∈j,sL[nu c.f p]?=QH (Dy p))(hp:p∈uL c)(hq:q∈uL c)
  (hg:∀x,Cn c P [] [p,q] x->x∈gI c\/x∈dL c) (hn:∀x,x∈dL c->Cn c P [] [p,q] x->∃w a,w∈wl b/\a∈j/\aF c x=sp w a) (o:p=q\/p∈dL c/\q∈dL c/\(aF c p).2=(aF c q).2):F7 [dR c c' P,.lst sL,mR p q b c.f j]=QH (.sh,.bl QJ):=by
 let hv:=h.bn
 let C:∀x∈[p,q],x∈uL c:=λx i=>by
  simp only[NB,NQ,or_false] at i;rcases i with rfl|rfl
  ·show hp
  ·show hq
 obtain⟨r,hj,R,rl,ru⟩:=ju .lst (.inl rfl) h M [] C (by simp);obtain⟨W,G,k,Y,T⟩:=u4 I hs;let hBq:=T.box λp hp=>by have:=N p hp;lia
 let hu:=T.le;generalize A:r.filter (λx=>decide (x∈dL c))=ml
 let l:∀x,x∈ml↔x∈dL c/\Cn c P [] [p,q] x:=λx=>by
  rw[<- A,Po,R.mem,decide_eq_true_eq];show And.comm
 let u:ml.Nodup:=by rw[<- A];show R.nd.sublist List.filter_sublist
 let hr:ml.length<=16:=NT (List.Nodup.length_le_of_subset u λx i=>((l x).mp i).1) (by have:=h.bm;unfold dL mK;simp;lia);let H:Ae ml:=λx i=>u1 h x ((l x).mp i).1
 let nk:∀x∈ml,aF c x∈W/\aF c x∈uL c:=λx i=>by
  obtain⟨w,a,hw,ha,e⟩:=hn x ((l x).mp i).1 ((l x).mp i).2;rw[e];show⟨(T.at hw).mpr ha,jL (Dz hw) (N a ha)⟩
 let v:∀y∈ml.map (aF c),y∈W/\y∈uL c:=λy s=>by
  obtain⟨x,i,rfl⟩:=NR.mp s;show nk x i
 let hm:=lA .lst (.inl rfl) (c':=c') h M (λq=>G q.2) I T.nd hBq (by lia) (λy s=>(v y s).2) (by rw[Nt];lia) λy s=>(v y s).1;let hd:=mT h M I Y T.nd hBq (by lia) (by rw[Nt];lia) hm λy s=>(v y s).1;generalize K:(λq=>G (aF c q).2)=F0;let Q:∀x,Cn c P ml [p,q] x->x∈gI c:=λx i=>(hg x i.less).elim id λz=>absurd ((l x).mpr ⟨z,i.less⟩) i.no;obtain⟨r2,F,X,hh,U,f1,_⟩:=iF .lst (.inl rfl) h M F0 I u H (by lia) C (by simp) Q
 let B:∀x∈[p,q],x∈ml++r2:=λx i=>by
  by_cases z:x∈ml
  ·show NG _ z
  ·show Nx _ ((U x).mpr (.base i z))
 let hc:F p=F q:=by
  rcases o with rfl|⟨h1,h2,e⟩
  ·rfl
  ·rw[f1 p ((l p).mpr ⟨h1,.base (by simp) (by simp)⟩),f1 q ((l q).mpr ⟨h2,.base (by simp) (by simp)⟩),<- K];dsimp only;rw[e]
 let L:∀{Z:Ro} {e:IE},aa U_16.fn e Z=QH (.sh,dR c c' P)->aa U_16.fn (.fld "afters" e) Z=QH (.sh,dK (dL c) (λq=>pD (aF c q))):=λo=>mO o rfl rfl;let m:∀{Z:Ro} {e b:IE} {kb:Kd} {x:Int×Int},x∈ml->aa U_16.fn e Z=QH (.sh,dR c c' P)->aa U_16.fn b Z=QH (kb,pD x)->aa U_16.fn (.ix (.fld "afters" e) b) Z=QH (.sh,pD (aF c x)):=λ{Z e b kb x} i o hb=>lV (V:=λq=>pD (aF c q)) (L o) hb (zH c) ((l x).mp i).1 λ_=>rfl;let ht:(r.map pD).length<=100:=by rw[Nt];lia
 generalize dR c c' P=Gd at *;generalize ho:mR p q b c.f j=st;let hi:∀{Z:Ro},aa U_16.fn (.var 5) Z=QH (.sh,gH b c.f j)->aa U_16.fn (.blt "len" (.cons (.var 5) .nil)) Z=QH (.sh,iD j.length):=λo=>bd o (.inl rfl);let E:st=.tup [pD p,pD q,gH b c.f j,mQ]:=ho.symm;generalize gH b c.f j=fd at *;generalize hS:D.lst sL=S at *;generalize O:dN W (λq=>G q.2)=kd at *
 let s0:aD U_16 1000 (bh C9 5) [] [fS Gd,fS S,fS st,QI,QI,QI,QI,QI,QI,QI,QI,QI,QI]=QH (.nx (Ks Gd S st fd p q (bM (.lst (ml.map pD))) (fS (.tup [kd,iD k])) (fS kd) (fS (iD k)) QI QI)):=by
  show qe ?_;unfold C9 bh bh bh bh bh bh;show eC (by rw[E];rfl) ⟨rfl,rfl⟩ ?_;show aw ((Gv (g:=pD) (λx=>decide (x∈dL c)) (.inl rfl) (bA rfl (e3 rfl rfl (gq (e2 rfl rfl) ⟨rfl,by simp⟩)) rfl rfl hj rfl) rfl (by lia) (λ_=>rfl) (λx i=>oa rfl (L rfl)) λx i=>wv rfl ⟨rfl,rfl⟩).trans (by rw[A])) rfl (by decide) ?_;show aw (bA rfl (qe (aC (wv rfl (wv (e4 (t:=(.fr k0,.lst ((ml.map (aF c)).map pD))) rfl rfl rfl ((lS (.inl rfl) rfl rfl (by lia) λx i=>wo rfl (wv (m i rfl rfl) ⟨_,rfl,rfl⟩)).trans (by rw[NN];rfl))) rfl)))) rfl rfl hd rfl) rfl (by decide) ?_;show eR (x:=(.sh,.bl QL)) (uU (d:=.tup [kd,iD k]) rfl) (λe=>by cases e) λ_=>?_;show eC rfl ⟨rfl,rfl⟩ ?_;show a8 rfl
 let s1:F6 (Ks Gd S st fd p q (bM (.lst (ml.map pD))) (fS (.tup [kd,iD k])) (fS kd) (fS (iD k)) QI QI)=QH (.nx (Ks Gd S st fd p q (bM (.lst (ml.map pD))) (fS (.tup [kd,iD k])) (fS kd) (fS (iD k)) (bM (dN ml F0)) QI)):=by
  let N:∀x∈ml,gC (.nm 1) (λ_=>QH QJ) (aa U_16.fn (.var 1)) (aa U_16.fn (.ix (.var 2) (.ix (.fld "afters" (.var 3)) (.var 1)))) [QI,QI,fS kd,fS Gd] (pD x)=QH (QH (pD x,iD (F0 x))):=λx i=>by
   let e:aa U_16.fn (.ix (.var 2) (.ix (.fld "afters" (.var 3)) (.var 1))) [QI,fS (pD x),fS kd,fS Gd]=QH (.sh,iD (F0 x)):=by
    rw[<- K,<- O];show lV (V:=λq=>iD (G q.2)) rfl (m i rfl rfl) T.nd (nk x i).1 λ_=>rfl
   change(match aa U_16.fn (.ix (.var 2) (.ix (.fld "afters" (.var 3)) (.var 1))) [QI,fS (pD x),fS kd,fS Gd] with|some y=>if q0 y.1 y.2=QJ then QH (QH (pD x,y.2)) else QI|none=>QI)=_
   rw[e];rfl
  let e:eN 1 (QH ([7],ml.map pD)) (gC (.nm 1) (λ_=>QH QJ) (aa U_16.fn (.var 1)) (aa U_16.fn (.ix (.var 2) (.ix (.fld "afters" (.var 3)) (.var 1)))) [QI,QI,fS kd,fS Gd])=QH (.fr k0,dN ml F0):=by
   unfold eN;dsimp only;rw[if_pos (by rw[Nt];lia),show(([],[]):List DK×List D)=(([]:List (Int×Int)).map pk,([]:List (Int×Int)).map λq=>iD (F0 q)) from rfl,u8 (a:=[]) u N];rfl
  change ff [] 11 (wJ (eN 1 (QH ([7],ml.map pD)) (gC (.nm 1) (λ_=>QH QJ) (aa U_16.fn (.var 1)) (aa U_16.fn (.ix (.var 2) (.ix (.fld "afters" (.var 3)) (.var 1)))) [QI,QI,fS kd,fS Gd])) _)=_;rw[e];rfl
 let s2:Wp (aD U_16 1000 (bj C9 6) [] (Ks Gd S st fd p q (bM (.lst (ml.map pD))) (fS (.tup [kd,iD k])) (fS kd) (fS (iD k)) (bM (dN ml F0)) QI)) λr=>Wp (fj (QH r)) λx=>x=(.sh,.bl QJ):=by
  unfold C9 bj bj bj bj bj bj bj;show aw (gh (p:=(.fr k0,dN (ml++r2) F)) rfl (e4 rfl rfl (gq (e2 rfl rfl) ⟨rfl,by simp⟩) (bA rfl (e1 (hi rfl)) rfl rfl (jp I) rfl)) (jv F _) rfl X rfl) rfl (by decide) ?_;show bP (u6 rfl (λ_=>rfl) rfl rfl rfl hh (B p (by simp)) (B q (by simp)) hc) rfl (eU rfl rfl)
 obtain⟨r,e,x,ex,rfl⟩:=s2;unfold F7 jS;rw[if_pos (by rfl)];change fj (wk [fS Gd,fS S,fS st,QI,QI,QI,QI,QI,QI,QI,QI,QI,QI])=_
 let eb:wk [fS Gd,fS S,fS st,QI,QI,QI,QI,QI,QI,QI,QI,QI,QI]=QH r:=by
  unfold wk;rw[s0];dsimp only[cg];rw[s1];dsimp only;rw[e]
 rw[eb,ex]
theorem zT{α:Type}(l:List α)(f:α->D):pb (QH (.sh,.lst (l.map f))) (QH (.sh,.lst (l.map f)))=QH ([],l.map λa=>.tup [f a,f a]):=by
 change QH (([]:List Nat),vX (l.map f) (l.map f))=_;unfold vX;rw[List.zipWith_map,List.zipWith_self]
def GX(c:Ci)(s:Int×Int):List D:=(NP c.ins).map Dy++(lT c s++ww c).map λt=>.tup ([t.1,t.2.1].map pD)
theorem sO{c:Ci}(s:Int×Int){p:Nat}(h:p<c.n):(GX c s)[nu c.f p]?=QH (Dy p):=by
 let d:=sH c s;let g:=ly c;unfold GX nu;by_cases b:p<c.ins
 ·rw[if_neg (by unfold Ci.f;lia),Nat.add_zero,N7 (by simpa using b),Nu,Oo b];rfl
 ·rw[Oi (by simp;lia),Nu,Nt,Ox];by_cases a:p<c.f
  ·let hk:p-c.ins<c.mems.length:=by unfold Ci.f at a;lia
   rw[if_neg (by lia),Nat.add_zero,N7 (by lia)];unfold lT;rw[N7 (by simpa using hk),Nu,OC,NC hk];change QH (D.tup ([sp 0 (c.ins+(0+(p-c.ins))),sp 1 (c.ins+(0+(p-c.ins)))].map pD))=_;rw[show c.ins+(0+(p-c.ins))=p by lia]
  ·let hk:p-c.f<c.gates.length:=by unfold Ci.n at h;lia
   let e:p+1-c.ins-(lT c s).length=p-c.f:=by rw[d];unfold Ci.f;lia
   rw[if_pos (by lia),Oi (by rw[d];unfold Ci.f at a;lia),e];unfold ww;rw[Nu,OC,NC hk];change QH (D.tup ([sp 0 (c.f+(0+(p-c.f))),sp 1 (c.f+(0+(p-c.f)))].map pD))=_;rw[show c.f+(0+(p-c.f))=p by lia]
theorem ot(l:List Nat):dB 90 (.lst (l.map Dy))=QJ:=by
 change(decide (1<=90)&&gX 89 (l.map Dy))=QJ;rw[ir λd a=>?_]
 ·rfl
 ·obtain⟨p,_,rfl⟩:=NR.mp a;rfl
open Classical in
def hBq(c:Ci)(P:Nat)(t:St):Bool:=decide (∀x,Cn c P [] [t.1,t.2.1] x->x∈gI c\/x∈dL c)
open Classical in
theorem sP(c:Ci)(P:Nat)(t:St):hBq c P t=QJ↔∀x,Cn c P [] [t.1,t.2.1] x->x∈gI c\/x∈dL c:=decide_eq_true_iff
def tF(c c':Ci)(t:St):Bool:=decide (bF c c' t.1=bF c c' t.2.1)
theorem Cb{c c':Ci}(h:Ok c){P:Nat}(g:P<c.n){t:St}(d:t.1∈uL c)(hq:t.2.1∈uL c):Ji [dR c c' P,ox c.f t]=QH (.sh,.bl (hBq c P t)):=by
 obtain⟨r,b,e⟩:=zO h g d hq;show e.trans ?_;congr 3;rw[O6,N5,sP];constructor
 ·intro z x a;have:=z x ((b x).mpr a);rw[Op,decide_eq_true_eq,decide_eq_true_eq] at this;show this
 ·intro z x a;rw[Op,decide_eq_true_eq,decide_eq_true_eq];show z x ((b x).mp a)
theorem Mz{c:Ci}(h:Ok c){P:Nat}(a:P<c.n){t:St}(d:t∈lT c (dw b P)):t.1∈uL c/\t.2.1∈uL c:=by
 rcases lz d with⟨k,m,e,rfl⟩|rfl
 ·let hk:=(Nq.mp e).1;have:c.ins+k<c.n:=by unfold Ci.n Ci.f;lia
  show⟨jL (by decide) this,jL (by decide) this⟩
 ·show⟨zK (zC b a),zK (zC b a)⟩
theorem zU{c:Ci}(h:Ok c){P:Nat}(g:P<c.n):(lT c (dw b P)).all (hBq c P)=QJ↔Du c P:=by
 rw[N5];constructor
 ·intro z;have:=z (Gi c (dw b P)) (Nx _ (NF.mpr rfl));show JM ((sP _ _ _).mp this)
 ·intro d t i;show(sP _ _ _).mpr λx a=>?_;rcases lz i with⟨k,m,e,rfl⟩|rfl
  ·let hk:=(Nq.mp e).1;show .inr (ol (by lia) (by unfold Ci.f;lia) a).2
  ·show Dx h g d a
theorem va{c:Ci}{w k:Nat}{m:Bool×Nat}(a:c.mems[k]?=QH m):aF c (sp w (c.ins+k))=sp w m.2:=by
 unfold aF;rw[js a]
abbrev No(c c':Ci)(B q W R O:D)(x7 x8 x9:Option Sl):Ro:=[fS (cD c),fS (cD c'),fS B,fS O,fS q,fS W,fS R,x7,x8,x9]
theorem mU{c c':Ci}(h:Ok c)(t:Tw c c'){P:Nat}(r:P<c.n)(b:Bool):Db [cD c,cD c',iC c P (dw b P)]=QH (.sh,.bl ((lT c (dw b P)).all (hBq c P)&&(lT c (dw b P)).all (tF c c'))):=by
 let bi:=h.bi;let bm:=h.bm;let bg:=h.bg;let bo:=h.bo;let W:=zC b r;let A:=λt=>Mz h r (b:=b) (t:=t);let B:=zU h r (b:=b);let u:∀t∈lT c (dw b P),(∃k m,c.mems[k]?=QH m/\t=Ac c k m.2)\/t=Gi c (dw b P):=λt ht=>lz ht;let C:Du c P->∀{H:List (Int×Int)} {q:Int×Int},Cn c P H [dw b P,dw b P] q->q∈gI c\/q∈dL c:=λE {H q} hq=>Dx h r E hq;let S:∀{H:List (Int×Int)} {q:Int×Int},Cn c P H [dw b P,dw b P] q->q=sp 2 0\/∃p,Pl c P p/\q=sp 0 p:=λhq=>Dw hq;let U:=zD h t r W;let N:=wx h t P;let Y:=zK W;generalize dw b P=s at *;let K:=sH c s;let R:=ly c
 let two:∀{Z:Ro} {e O:IE} {k:Nat},aa U_33.fn e Z=QH (.sh,iD k)->aa U_33.fn O Z=QH (.sh,iD k)->aa U_33.fn (.tup .fz (.cons (.tup .fz (.cons (.lit (.int 0)) (.cons e .nil))) (.cons (.tup .fz (.cons (.lit (.int 1)) (.cons O .nil))) .nil))) Z=QH (.sh,Dy k):=λ{Z e O k} M Q=>
  fC (e2 (eQ rfl M) (eQ rfl Q)) ⟨rfl,by simp⟩
 unfold Db;show fB rfl ?_;unfold LX;change Wp (aD _ _ _ [] [fS (cD c),fS (cD c'),fS (iC c P s),QI,QI,QI,QI,QI,QI,QI]) _;let y:∀{Z:Ro} {e:IE} {c:Ci} (n:Nat) d,aa U_33.fn e Z=QH (.sh,cD c)->[iD c.ins,D.lst (c.mems.map bX),.lst (c.gates.map bp),.lst (c.outs.map iD)][n]?=QH d->aa U_33.fn (.ix e (.lit (.int (n:Int)))) Z=QH (.sh,d):=λn d M h=>bN M rfl (.inr rfl) rfl h;show eR (x:=(.sh,.bl QL)) (lR ((Js (y 0 _ rfl rfl) (y 0 _ rfl rfl)).trans (by rw[t.i,decide_eq_true rfl])) λ_=>fy ((Js (bd (y 3 _ rfl rfl) (.inl rfl)) (bd (y 3 _ rfl rfl) (.inl rfl))).trans (by rw[t.o,decide_eq_true rfl]))) (λe=>by cases e) λ_=>?_;show eR (x:=(.sh,.bl QL)) (c9 (qf (bA rfl (e3 rfl rfl rfl) rfl rfl U rfl))) (λe=>by cases e) λ_=>?_;show eC rfl ⟨rfl,rfl⟩ ?_;generalize iC c P s=pa;show aw (bA rfl (e3 rfl rfl rfl) rfl rfl N rfl) rfl (by decide) ?_;show aw (x:=(.fr k0,.lst (GX c s))) (uT ⟨rfl,rfl,by simp[K,R];lia⟩ (Gb (y 0 _ rfl rfl) (by lia) λi _=>wo rfl (wv (two rfl rfl) ⟨_,rfl,rfl⟩)) (lS (f:=ox c.f) (.inl rfl) ((uT ⟨rfl,rfl,by simp[K,R];lia⟩ rfl rfl).trans (by rw[NM])) rfl (by simp[K,R];lia) λq hq=>wo rfl (wv (zB rfl (by simp)) ⟨_,rfl,rfl⟩))) rfl (by decide) ?_;show aw (aL (dH (yN (wv (y 3 _ rfl rfl) (wv (y 3 _ rfl rfl) (wv ((congrArg (λl=>pb (QH (Kd.sh,D.lst (c.outs.map iD))) (QH (Kd.sh,D.lst (l.map iD)))) t.o).trans (zT c.outs iD)) ⟨by simp;lia,(lx λo X=>Kn rfl (wv (two rfl rfl) ⟨_,rfl,rfl⟩)).mono λys e=>by rw[e]⟩)))))) rfl (by decide) ?_
 show bP (cm (eB (cb (lS (.inl rfl) rfl rfl (by lia) λo X=>wo rfl (wv (bN rfl rfl (.inl rfl) rfl (sO s (h.o o X))) ⟨_,rfl,rfl⟩)) rfl ((if_pos ⟨ot _,ot _⟩).trans (congrArg QH (iq (ot _)))))) λ_=>cm (zN (hBq c P) (.inl rfl) rfl rfl (by lia) (λ_=>rfl) λp a=>?_) λV=>cm (zN (tF c c') (.inl rfl) rfl rfl (by lia) (λ_=>rfl) λp a=>?_) λ_=>cm (iB (.inl rfl) rfl rfl (by lia) (λ_=>rfl) λp a=>?_) λ_=>fA (iB (.inl rfl) rfl rfl (by lia) (λ_=>rfl) λp a=>?_)) rfl (eU rfl (by cases(lT c s).all (hBq c P)<;>cases(lT c s).all (tF c c')<;>rfl))
 ·show gh rfl (e2 rfl rfl) rfl rfl (Cb h r (A p a).1 (A p a).2) rfl
 ·let E:=B.mp V
  let L:Jj [dR c c' P,ox c.f p]=QH (.sh,.bl (tF c c' p)):=by
   show zP h r (A p a).1 (A p a).2 (λx j=>?_) ?_
   ·rcases u p a with⟨k,m,e,rfl⟩|rfl
    ·let hk:=(Nq.mp e).1;show absurd (ol (by lia) (by unfold Ci.f;lia) j).2 j.no
    ·show(C E j).elim id λz=>absurd z j.no
   ·rcases u p a with⟨k,m,e,rfl⟩|rfl
    ·let hk:=(Nq.mp e).1;let v:∀w,w<2->sp w (c.ins+k)∈dL c:=λw I=>mKs_mem.mpr ⟨I,by lia,by unfold Ci.f;lia⟩;show .inr ⟨v 0 (by decide),v 1 (by decide)⟩
    ·show .inl rfl
  show gh rfl (e2 rfl rfl) rfl rfl L rfl
 ·obtain⟨i,e⟩:=OI.mp a;obtain⟨g,hg,rfl⟩:=Dq e;show gh rfl (e3 rfl rfl rfl) rfl rfl (Gu h r (λp hp=>sO s hp) hg) rfl
 ·let E:=B.mp V
  let L:F7 [dR c c' P,.lst (GX c s),ox c.f p]=QH (.sh,.bl QJ):=by
   rcases u p a with⟨k,m,e,rfl⟩|rfl
   ·let hk:=(Nq.mp e).1;let F:=h.m m (NO e);let v:∀w,w<2->sp w (c.ins+k)∈dL c:=λw I=>mKs_mem.mpr ⟨I,by lia,by unfold Ci.f;lia⟩
    suffices key:F7 [dR c c' P,.lst (GX c s),mR (sp 0 (c.ins+k)) (sp 1 (c.ins+k)) QJ c.f [m.2]]=QH (.sh,.bl QJ) from key
    show u9 h r (by simp) (λq hq=>by rw[NF.mp hq];show F) (λ_ q hq=>sO s (by rw[NF.mp hq];show F)) (A _ a).1 (A _ a).2 (λx j=>.inr (ol (by lia) (by unfold Ci.f;lia) j).2) (λx j T=>?_) (.inr ⟨v 0 (by decide),v 1 (by decide),?_⟩)
    ·obtain⟨w,I,rfl⟩:=fx (ol (by lia) (by unfold Ci.f;lia) T).1;show⟨w,m.2,show w∈[0,1] by simp;lia,by simp,va e⟩
    ·change(aF c (sp 0 (c.ins+k))).2=(aF c (sp 1 (c.ins+k))).2;rw[va e,va e]
   ·suffices key:F7 [dR c c' P,.lst (GX c s),mR s s QL c.f (c.mems.map (·.2))]=QH (.sh,.bl QJ) from key
    show u9 h r (by rw[Nt];show bm) (λq hq=>?_) (λz=>by cases z) Y Y (λx j=>C E j) (λx j T=>?_) (.inl rfl)
    ·obtain⟨m,v,rfl⟩:=NR.mp hq;show h.m m v
    ·rcases S T with rfl|⟨p,_,rfl⟩
     ·show absurd (mKs_mem.mp j).1 (by decide)
     ·obtain⟨_,h1,h2⟩:=mKs_mem.mp j;let hk:p-c.ins<c.mems.length:=by unfold Ci.f at h2;lia
      let e:=NC hk;show⟨0,_,NF.mpr rfl,NR.mpr ⟨_,NO e,rfl⟩,?_⟩;have:=va (w:=0) e;rwa [show c.ins+(p-c.ins)=p by lia] at this
  show gh rfl (e3 rfl rfl rfl) rfl rfl L rfl
noncomputable abbrev kS:Ow:=.own [.own [] .fz] .fz
abbrev wy(ds:List Int)(t k:Int):D:=.lst [.lst (ds.map D.int),.int t,.int k]
structure Stt(n:Nat)(d:D):Prop where
 ex:∃(ds:List Int) (t k:Int),d=wy ds t k/\(∀x∈ds,0<=x)/\ds.length<=63/\0<=t/\t<1000000000000000009/\0<=k/\k<=n
theorem Stt.mono{n m:Nat}(h:Stt n d)(j:n<=m):Stt m d:=by
 obtain⟨b,t,k,e,c,a,f,g,i,l⟩:=h.ex;show⟨b,t,k,e,c,a,f,g,i,by lia⟩
abbrev sS(d:D):Option Sl:=QH ⟨QL,kS,d⟩
section
variable {U:Nat->Option Fn} {Z:Ro} {a b:IE} {k k':Kd} {i j:Int}
theorem iG(h:i.natAbs<lim/\j.natAbs<lim)(d:aa U a Z=QH (k,.int i))(c:aa U b Z=QH (k',.int j)):aa U (.bin .Mult a b) Z=QH (.sh,.int (i*j)):=aL (a6 (wv d (wv c (yP h rfl))))
theorem sQ(h:0<j/\j.natAbs<lim)(d:aa U a Z=QH (k,.int i))(c:aa U b Z=QH (k',.int j)):aa U (.bin .FloorDiv a b) Z=QH (.sh,.int (i / j)):=aL (a6 (wv d (wv c (uF h rfl))))
theorem bt(i:Int):aa U (.lit (.int i)) Z=QH (.sh,.int i):=rfl
end
theorem cu{z:Int}(h:z.natAbs<2^64):z.natAbs<lim:=O8 h (by unfold lim;decide)
theorem jw(z m:Int)(a:0<m):0<=z%m/\z%m<m:=⟨Int.emod_nonneg z (by lia),Qo z a⟩
theorem zV(t k:Int)(a:0<=k)(h1:k<=100000):∃z:Int,Jl [.int t,.int k]=QH (.sh,.int z):=by
 suffices h:Wp (Jl [.int t,.int k]) λr=>∃z:Int,r=(.sh,.int z) by
  obtain⟨r,e,z,rfl⟩:=h;show⟨z,e⟩
 unfold Jl;show n5 rfl ?_;unfold Mb;let i:k*k<=100000*100000:=Int.mul_le_mul h1 h1 a (by decide);let g:0<=k*k:=Int.mul_nonneg a a;let l:2*k*k=2*(k*k):=Int.mul_assoc 2 k k;obtain⟨m,o⟩:=jw t 2147483647 (by decide);show aw (iw (by decide) (bC (bC (iG ⟨cu (by lia),cu (by lia)⟩ (iw (by decide) rfl (bt 2147483647)) (bC (bt 48271) (iG ⟨cu (by lia),cu (by lia)⟩ (iG ⟨by decide,cu (by lia)⟩ (bt 2) rfl) rfl))) (iG ⟨by decide,cu (by lia)⟩ (bt 7919) rfl)) (bt 12345)) (bt 2147483629)) rfl (by decide) ?_;obtain⟨b0,b1⟩:=jw (t%2147483647*(48271+2*k*k)+7919*k+12345) 2147483629 (by decide);generalize (t%2147483647*(48271+2*k*k)+7919*k+12345)%2147483629=y at b0 b1⊢;show aw (sQ ⟨by decide,by decide⟩ (iw (by decide) (iG ⟨cu (by lia),cu (by lia)⟩ rfl rfl) (bt 2147483587)) (bt 3)) rfl (by decide) ?_;obtain⟨d,q⟩:=jw (y*y) 2147483587 (by decide);let b:0<=y*y%2147483587 / 3:=Int.ediv_nonneg d (by decide);let c:y*y%2147483587 / 3<2147483587:=by lia
 generalize y*y%2147483587 / 3=x at b c⊢;obtain⟨n,f⟩:=jw (x*69621+16807*k+1) 2147483579 (by decide);obtain⟨p,j⟩:=jw x 65521 (by decide);show bP (sQ ⟨by decide,by decide⟩ (iw (by decide) (iG ⟨cu (by lia),cu (by lia)⟩ (iw (by decide) (bC (bC (iG ⟨cu (by lia),by decide⟩ rfl (bt 69621)) (iG ⟨by decide,cu (by lia)⟩ (bt 16807) rfl)) (bt 1)) (bt 2147483579)) (bC (iw (by decide) rfl (bt 65521)) (bt 1))) (bt 2147483563)) (bt 5)) rfl (gg rfl ⟨_,rfl⟩)
theorem Cc{Q:Kd×D×Ro->Prop}(q:Q (.sh,.int x,sS (wy ds t k)::Z')):Wp (bf U (.mut "pop" (.ix (.nm 0) (.lit (.int 0))) (.cons (.lit (.int 0)) .nil)) (sS (wy (x::ds) t k)::Z')) Q:=by
 show⟨_,?_,q⟩;rw[j3,aW,aW,tQ];change ij "pop" 0 (rP U.fn (.ix (.nm 0) (.lit (.int 0))) (sS (wy (x::ds) t k)::Z')) (QH [(.sh,.int 0)]) (sS (wy (x::ds) t k)::Z')=_;let a:rP U.fn (.ix (.nm 0) (.lit (.int 0))) (sS (wy (x::ds) t k)::Z')=QH (k0,.lst ((x::ds).map D.int),λz=>.lst [z,.int t,.int k]):=rfl;rw[a];let b:seqIndex? 0 (D.int x::ds.map D.int).length=QH 0:=by unfold seqIndex?;simp
 have:jf "pop" [] .fz (.int x::ds.map D.int) [(.sh,.int 0)]=QH (.int x,ds.map D.int):=by
  change(if eW (.own [] .fz)=QJ/\-(2^63)<=(0:Int)/\(0:Int)<2^63 then(match seqIndex? 0 (D.int x::ds.map D.int).length with|some j=>((D.int x::ds.map D.int)[j]?).map λy=>(y,(D.int x::ds.map D.int).eraseIdx j)|none=>QI) else QI)=_
  rw[if_pos ⟨rfl,by decide,by decide⟩,b];rfl
 unfold ij;dsimp only;rw[show jf "pop" [] .fz ((x::ds).map D.int) [(.sh,.int 0)]=QH (.int x,ds.map D.int) from this];rfl
theorem vb{n:Nat}{d:D}{m:Nat}{Q:Kd×D×List (Option kX)->Prop}(h:Stt n d)(O:n<=1000)(S:0<m)(C:m<2^64)(q:∀(r:Nat) d',r<m->Stt (n+1) d'->Q (.sh,iD r,[QH (kS,d'),QI])):Wp (GU [(kS,d),(.fz,iD m)]) Q:=by
 let M:((m:Nat):Int).natAbs<lim:=by
  rw[Qm];show O8 C (by unfold lim;decide)
 let H:∀z:Int,∃r:Nat,z%(m:Int)=(r:Int)/\r<m:=λz=>by
  let P:=Int.emod_nonneg z (show(m:Int)≠0 by lia);let R:=Qo z (show(0:Int)<(m:Int) by lia);show⟨(z%(m:Int)).toNat,by lia,by lia⟩
 obtain⟨a,t,k,rfl,l,u,F,I,E,T⟩:=h.ex;unfold GU;show BR rfl ?_;unfold Jd;show zm (λj Z=>∃a:List Int,a.length=j/\(∀x∈a,0<=x)/\a.length<=63/\Z=[sS (wy a t k),fS (iD m),QI]) (by lia) ⟨a,rfl,l,u,rfl⟩ λj Z L=>?_;obtain⟨a,rfl,l,u,rfl⟩:=L;let p:∀{a:List Int} {g:Option Sl},aa U_22.fn (.ix (.var 0) (.lit (.int 0))) [sS (wy a t k),fS (iD m),g]=QH (.bo 0 k0,.lst (a.map D.int)):=λ{a g}=>bN (k:=.bo 0 kS) (n:=0) rfl rfl (.inl rfl) rfl rfl
 let b:∀{a:List Int} {g:Option Sl},aK U_22.fn (.cmp .Gt (.blt "len" (.cons (.ix (.var 0) (.lit (.int 0))) .nil)) (.lit (.int 0))) [sS (wy a t k),fS (iD m),g]=QH (decide (0<a.length)):=λ{a g}=>by
  rw[F8 (mJ p (congrArg QH (Nt _))) (bt 0)];congr 1;show decide_eq_decide.mpr (by lia)
 let c:∀{x:Int} {a:List Int} {g:Option Sl},aa U_22.fn (.ix (.ix (.var 0) (.lit (.int 0))) (.lit (.int 0))) [sS (wy (x::a) t k),fS (iD m),g]=QH (.sh,.int x):=λ{x a g}=>bN p rfl (.inl rfl) rfl rfl
 -- behind the loop
 let f:(a=[]\/∃x r,a=x::r/\x≠0)->Wp (aD U_22 1000 (bj Jd 1) [0] [sS (wy a t k),fS (iD m),QI]) λr=>Wp (il 2 [0] (QH r)) Q:=λN=>by
  unfold Jd bj bj;rcases N with rfl|⟨x,a,rfl,s⟩
  ·show jT b (λe=>by cases e) λ_=>gm ?_;show pT (cJ (wv (bC (bN rfl rfl (.inl rfl) rfl rfl) rfl) (yU rfl (a9 (lq rfl rfl rfl (lr rfl ?_))))));obtain⟨z,K⟩:=zV t (k+1) (by lia) (by lia);obtain⟨r,e,v⟩:=H z;show bP (iw (by lia) (bA rfl (e2 (bN rfl rfl (.inl rfl) rfl rfl) (bN rfl rfl (.inl rfl) rfl rfl)) rfl rfl K rfl) rfl) rfl (pX rfl ?_);rw[e]
   show q r _ v ⟨[],t,k+1,rfl,λx l=>(nomatch l),by simp,F,I,by lia,by lia⟩
  ·show jT (b.trans (by rw[decide_eq_true (by simp)])) (λ_=>?_) λe=>by cases e
   obtain⟨r,e,v⟩:=H x;let A:=l x NJ;let B:∀y∈a,0<=y:=λy i=>l y (NE _ i);let w:0<=x / (m:Int):=Int.ediv_nonneg A (by lia);let o:=iw (by lia) (c) (show aa U_22.fn (.var 1) [sS (wy (x::a) t k),fS (iD m),QI]=QH (.sh,.int m) from rfl);rw[e] at o;show aw o rfl (by decide) ?_;show pT (cJ (wv (sQ ⟨by lia,M⟩ c rfl) (yU rfl (a9 (lq rfl rfl rfl (lr (r:=(.lst,.int (x / (m:Int))::a.map D.int)) ?_ ?_))))))
   ·change(match jN ((x::a).map D.int).length 0 with|some j=>if bK .fz (.sh,.int (x / (m:Int)))=QJ then QH (Hd.lst,((x::a).map D.int).set j (.int (x / (m:Int)))) else QI|none=>QI)=_
    rw[uG (by decide) (by simp)];rfl
   ·change Wp (aD _ _ _ [0] [sS (wy (x / (m:Int)::a) t k),fS (iD m),fS (iD r)]) _;show bP rfl rfl (uN (pX rfl (q r _ v ⟨x / (m:Int)::a,t,k,rfl,λy i=>?_,u,F,I,E,by lia⟩)));rcases NB.mp i with rfl|i
    ·show w
    ·show B y i
 rcases a with _|⟨x,a⟩
 ·show jK (wv (uV (y:=QJ) b λe=>by cases e) ⟨λ_=>f (.inl rfl),λe=>by cases e⟩)
 ·by_cases s:x=0
  ·show jK (wv (uV (b.trans (by rw[decide_eq_true (by simp)])) λ_=>fy ((n8 c (bt 0)).trans (by rw[decide_eq_true s]))) ⟨λe=>(by cases e),λ_=>?_⟩);show mF (Cc (a8 (.inl ⟨_,a.length,.inl rfl,by simp,a,rfl,λy i=>l y (NE _ i),by simp at u;lia,rfl⟩)))
  ·show jK (wv (uV (b.trans (by rw[decide_eq_true (by simp)])) λ_=>fy ((n8 c (bt 0)).trans (by rw[decide_eq_false s]))) ⟨λ_=>f (.inr ⟨x,a,rfl,s⟩),λe=>by cases e⟩)
theorem jx{U:GG}{Z:Ro}{i m n:Nat}{Q:Kd×D×Ro->Prop}(f:U.fm 23=QH GU)(b:Z[i]?=QH (sS d))(h:Stt n d)(g:n<=1000)(l:aa U.fn e Z=QH (.sh,iD m))(j:0<m)(a:m<2^64)(q:∀(r:Nat) d',r<m->Stt (n+1) d'->Q (.sh,iD r,Z.set i (sS d'))):Wp (bf U (.io 23 (.ref i (.val (.p e) .nil))) Z) Q:=by
 show uJ f (lm b (eP (cJ (wv l ?_))));show⟨rfl,lj ⟨by simp[cC],[(kS,d),(.fz,iD m)],?_,vb h g j a λr d' o c=>⟨rfl,rfl,q r d' o c⟩⟩⟩
 change(match Z[i]?,QH [((.fz:Ow),iD m)] with|some (QH ⟨QL,k,d⟩),QH ks=>QH ((k,d)::ks)|_,_=>QI)=_
 rw[b]
theorem DB{f:D->Option (Option KD)}(P:D->Prop):∀{ds:List D},(∀d∈ds,Wp (f d) λo=>o=QI\/∃a,o=QH a/\bK r a=QJ/\P a.2)->Wp (aO r f ds) λys=>ys.length<=ds.length/\∀y∈ys,P y
 |[],_=>⟨[],rfl,Ny _,λy b=>by simp at b⟩
 |d::ds,h=>by
  obtain⟨ys,e1,k,c⟩:=DB P λx j=>h x (NE _ j);obtain⟨o,e2,g⟩:=h d NJ;rcases g with rfl|⟨a,rfl,i,e⟩
  ·show⟨ys,by simp[aO,e1,e2],by simp;lia,c⟩
  ·show⟨a.2::ys,by simp[aO,e1,e2,i],by simp;lia,λy b=>?_⟩;rcases NB.mp b with rfl|b
   ·show e
   ·show c y b
theorem zW{Q:KD->Prop}{i:Int}(q:Q (.sh,.int (if i<0 then -i else i))):Wp (eJ "abs" [(k,.int i)]) Q:=⟨_,rfl,q⟩
theorem vc:∀{ys:List D},(∀y∈ys,∃z:Int,y=.int z/\0<=z)->∃zs:List Int,ys=zs.map D.int/\∀z∈zs,0<=z
 |[],_=>⟨[],rfl,λz a=>by simp at a⟩
 |y::ys,h=>by
  obtain⟨zs,rfl,a⟩:=vc λx b=>h x (NE _ b);obtain⟨z,rfl,c⟩:=h y NJ;show⟨z::zs,rfl,λx b=>(NB.mp b).elim (λe=>e▸c) (a x)⟩
theorem vd:aa U (.bin .Pow (.lit (.int 10)) (.lit (.int 18))) Z=QH (.sh,.int 1000000000000000000):=aL (a6 (a9 (a9 (yQ (by decide) rfl))))
theorem zX{ns:List Int}(n:ns.length<=63){Q:KD->Prop}(q:∀d,Stt 0 d->Q (.fr kS,d)):Wp (Ki [.scr ns]) Q:=by
 unfold Ki;show n5 rfl ?_;unfold Mc;show aw (bt 0) rfl (by decide) ?_;show gf (dI (jl (aQ rfl (yS ⟨λs Z=>∃(t:Int) (c:Option Sl),Z=[fS (.scr ns),fS (.int t),c]/\0<=t/\t<1000000000000000009,⟨0,QI,rfl,by decide,by decide⟩,λs d Z a b=>?_,λZ b=>?_⟩))))
 ·obtain⟨t,c,rfl,g,f⟩:=b;let a:(ns.map D.int)[s]?=QH d:=a;rw[Nu] at a
  cases e:ns[s]? with
  |none=>rw[e] at a;cases a
  |some z=>
   rw[e] at a;cases a;show⟨[(2,.int z)],rfl,rfl,?_⟩;change Wp (aD _ _ _ [] [fS (.scr ns),fS (.int t),fS (.int z)]) _;obtain⟨l,k⟩:=jw (t*31+z) 1000000000000000009 (by decide);show aw (iw (by decide) (bC (iG ⟨cu (by lia),by decide⟩ rfl (bt 31)) rfl) (bC vd (bt 9))) rfl (by decide) (a8 ⟨_,.inl rfl,_,_,rfl,l,k⟩)
 ·obtain⟨t,c,rfl,g,f⟩:=b;show eA (cJ (sd (aC (dH (jl (aQ rfl (yS ⟨by rw[Nt];lia,(DB (λy=>∃z:Int,y=.int z/\0<=z) λd a=>?_).mono λm h=>?_⟩)))))))
  ·obtain⟨z,_,rfl⟩:=NR.mp a;show zS rfl rfl (si (eO (aC (aQ rfl (ba (zW (wv vd (CV ⟨λ_=>eO (aC (aQ rfl (ba (zW (.inr ⟨_,rfl,rfl,_,rfl,?_⟩))))),λ_=>.inl rfl⟩))))))))
   split<;>lia
  ·obtain⟨i,rfl,j⟩:=vc h.2;rw[Nt,Nt] at h;show aC (aQ rfl (aC (a9 (ba (sA rfl ⟨rfl,gg rfl (q _ ⟨i,t,0,rfl,j,by lia,g,f,by decide,by decide⟩)⟩)))))
theorem MA:∀n,n<=3->[iD 2,iD 4,iD 16,iD 256][n]?=QH (iD (2^2^n))/\2^2^n<=256
 |0,_=>⟨rfl,by decide⟩
 |1,_=>⟨rfl,by decide⟩
 |2,_=>⟨rfl,by decide⟩
 |3,_=>⟨rfl,by decide⟩
 |n+4,h=>by lia
theorem gr(m:Nat):(dP 0 (m:Int)).length=m:=by rw[n9,Nt,Ox]
theorem qx{n m f k:Nat}{d:D}{s2 s3 s6:Option Sl}{Q:Kd×D×Ro->Prop}(h:Stt n d)(y:n+3<=1000)(A:m<=3)(v:0<m->0<f+k)(w:f+k<=1000)(q:∀(ps:List Nat) d',ps.length=m->(∀p∈ps,p<f+k)->Stt (n+m) d'->Q (.fr k0,.lst (ps.map iD),[sS d',fS (iD f),s2,s3,fS (iD k),fS (iD m),s6])) :
  Wp (bf U_23 (.comp .fz [QI,QI,QI,QH 1,QH 4,QH 0] (.nm 1) (.p (.rng (.lit (.int 0)) (.var 5))) .non (.io 23 (.ref 5 (.val (.p (.bin .Add (.var 3) (.var 4))) .nil)))) [sS d,fS (iD f),s2,s3,fS (iD k),fS (iD m),s6]) Q:=by
 show n4 (dI (jm (a9 (aQ rfl (ln (dq (by lia) (by lia) (by lia) (by lia) (by lia)) ⟨rfl,?_,?_⟩)))))
 ·change(dP 0 (m:Int)).length<=_;rw[gr];lia
 show yT (λi o Z=>∃(ps:List Nat) (d:D),o=ps.map iD/\ps.length=i/\i<=m/\(∀p∈ps,p<f+k)/\Stt (n+i) d/\Z=[QI,QI,QI,fS (iD f),fS (iD k),sS d]) ⟨[],d,rfl,rfl,NZ _,λp b=>(nomatch b),h,rfl⟩ (λi x o Z e j=>?_) λo Z j=>?_
 ·obtain⟨ps,d,rfl,c,l,b,a,rfl⟩:=j;obtain⟨rfl,t⟩:=ip e;show sw rfl ⟨rfl,rfl⟩ rfl ?_;show jx rfl rfl a (by lia) ((bC rfl rfl).trans rfl) (v (by lia)) (by lia) λr d' u s=>⟨_,rfl,rfl,ps++[r],d',by rw[NM];rfl,by simp;lia,by lia,λp g=>(NH.mp g).elim (b p) λz=>by rw[NF.mp z];show u,s,rfl⟩
 ·obtain⟨ps,d,rfl,c,l,b,a,rfl⟩:=j;let c:ps.length=(dP 0 (m:Int)).length:=c;rw[gr] at c;let a:Stt (n+(dP 0 (m:Int)).length) d:=a;rw[gr] at a;show⟨rfl,q ps d c b a⟩
def Gw(f:Nat)(q:List (Nat×List Nat)):Prop:=∀(k:Nat) g,q[k]?=QH g->g.2.length<=3/\∀p∈g.2,p<f+k
theorem zY{n f a:Nat}{d:D}{Q:Kd×D×List (Option kX)->Prop}(h:Stt n d)(O:n+5*a+5<=900)(P:f<=100)(S:a<=50)(q:∀b d',b.length=a->Gw f b->Stt (n+5*a) d'->Q (.fr k0,.lst (b.map bp),[QH (kS,d'),QI,QI])):Wp (Kj [(kS,d),(.fz,iD f),(.fz,iD a)]) Q:=by
 unfold Kj;show BR rfl ?_;unfold GP;show aw rfl rfl (by decide) ?_;show gf (dI (jm (a9 (aQ rfl (ln (dq (by lia) (by lia) (by lia) (by lia) (by lia)) ⟨λs Z=>∃(d:D) (b:List (Nat×List Nat)) (p t u:Option Sl),Z=[sS d,fS (iD f),fS (iD a),bM (.lst (b.map bp)),p,t,u]/\Stt (n+5*s) d/\b.length=s/\s<=a/\Gw f b,⟨d,[],QI,QI,QI,rfl,h,rfl,NZ _,λk g e=>by simp at e⟩,λs x Z H B=>?_,λZ B=>?_⟩)))))
 ·obtain⟨d,b,p,t,u,rfl,j,l,K,z⟩:=B;obtain⟨rfl,R⟩:=ip H;rw[Int.zero_add];show⟨[(4,iD s)],rfl,rfl,?_⟩;change Wp (aD _ _ _ [0] [sS d,fS (iD f),fS (iD a),bM (.lst (b.map bp)),fS (iD s),QI,QI]) _
  let c:∀(m:Nat) (d:D),m<=3->(0<m->0<f+s)->Stt (n+5*s+1) d->Wp (aD U_23 1000 (match GP with|.cons _ (.cons (.fo _ _ _ (.cons _ (.cons _ r))) _)=>r|r=>r) [0] [sS d,fS (iD f),fS (iD a),bM (.lst (b.map bp)),fS (iD s),fS (iD m),QI]) λr=>∃C,(r=.nx C\/r=.ct C)/\∃(d:D) (b:List (Nat×List Nat)) (p t u:Option Sl),C=[sS d,fS (iD f),fS (iD a),bM (.lst (b.map bp)),p,t,u]/\Stt (n+5*(s+1)) d/\b.length=s+1/\s+1<=a/\Gw f b:=by
   intro m d o A j;unfold GP;obtain⟨L,N⟩:=MA m o;show dJ (jx rfl rfl j (by lia) (bN (k:=.fr k0) rfl rfl (.inl rfl) rfl L) (P4 _) (by lia) λr d' I i=>⟨⟨rfl,by decide⟩,?_⟩);show mF (FI rfl (gE (ci (cJ (wv rfl ⟨rfl,di (yR (di (qx i (by lia) o A (by lia) λE F M y w=>ba (pS rfl (ba (fv rfl ⟨[],.fz,_,rfl,⟨NZ _,rfl,by rw[Nt];lia⟩,a8 ⟨_,.inl rfl,F,b++[(r,E)],fS (iD s),fS (iD m),fS (iD r),?_,w.mono (by lia),by simp;lia,by lia,λk g e=>?_⟩⟩))))))⟩)))))
   ·change [sS F,fS (iD f),fS (iD a),bM (.lst (b.map bp++[bp (r,E)])),fS (iD s),fS (iD m),fS (iD r)]=_;rw[NM];rfl
   ·by_cases hk:k<b.length
    ·rw[N7 hk] at e;show z k g e
    ·let v:k=s:=by
      have:=(Nq.mp e).1;simp at this
      lia
     subst v;rw[Oi (by lia),l,PY] at e;cases e;show⟨by change E.length<=3;lia,y⟩
  unfold GP at c;show dJ (jx (m:=4) rfl rfl j (by lia) rfl (by decide) (by decide) λr d' I i=>⟨⟨rfl,by decide⟩,?_⟩);show jT (n8 (bC rfl rfl) (bt 0)) (λe=>?_) λe=>gm (c r d' (by lia) (λ_=>?_) i)
  ·show aw (bt 0) rfl (by decide) (gm (c 0 d' (by decide) (λh=>absurd h (by decide)) i))
  ·have:=of_decide_eq_false e
   lia
 ·obtain⟨d,b,p,t,u,rfl,j,l,K,z⟩:=B;let l:b.length=(dP 0 (a:Int)).length:=l;let j:Stt (n+5*(dP 0 (a:Int)).length) d:=j;rw[gr] at l j;show eA (ge rfl ⟨rfl,pX rfl (q b d l z j)⟩)
theorem zZ{r:Nat}(h:r<2):∃b:Bool,bD b=iD r:=by
 match r,h with
 |0,_=>show⟨QL,rfl⟩
 |1,_=>show⟨QJ,rfl⟩
theorem wz{n m t:Nat}{d:D}{s1 s3 s4 s5 s6 s8 s9:Option Sl}{Q:Kd×D×Ro->Prop}(h:Stt n d)(H:n+2*m+5<=1000)(I:m<=50)(E:0<m->0<t)(F:t<=1000)(q:∀(a:List (Bool×Nat)) d',a.length=m->(∀p∈a,p.2<t)->Stt (n+2*m) d'->Q (.fr k0,.lst (a.map bX),[sS d',s1,fS (iD m),s3,s4,s5,s6,fS (iD t),s8,s9])) :
  Wp (bf U_24 (.comp .fz [QI,QI,QI,QH 0,QH 7] (.nm 1) (.p (.rng (.lit (.int 0)) (.var 2))) .non (.tup .fz (.cons (.io 23 (.ref 3 (.val (.p (.lit (.int 2))) .nil))) (.fin (.io 23 (.ref 3 (.val (.p (.var 4)) .nil))) .nil)))) [sS d,s1,fS (iD m),s3,s4,s5,s6,fS (iD t),s8,s9]) Q:=by
 show n4 (dI (jm (a9 (aQ rfl (ln (dq (by lia) (by lia) (by lia) (by lia) (by lia)) ⟨rfl,?_,?_⟩)))))
 ·change(dP 0 (m:Int)).length<=_;rw[gr];lia
 show yT (λi u Z=>∃(a:List (Bool×Nat)) (d:D),u=a.map bX/\a.length=i/\i<=m/\(∀p∈a,p.2<t)/\Stt (n+2*i) d/\Z=[QI,QI,QI,sS d,fS (iD t)]) ⟨[],d,rfl,rfl,NZ _,λp f=>(nomatch f),h,rfl⟩ (λi x u Z e l=>?_) λu Z l=>?_
 ·obtain⟨a,d,rfl,g,o,f,c,rfl⟩:=l;obtain⟨rfl,A⟩:=ip e;show sw rfl ⟨rfl,rfl⟩ rfl ?_;show gE (ci (jx rfl rfl c (by lia) rfl (by decide) (by decide) λr d' C y=>⟨rfl,di (jx rfl rfl y (by lia) rfl (E (by lia)) (by lia) λs B v j=>ba (fv rfl ?_))⟩));obtain⟨b,w⟩:=zZ C;show⟨_,rfl,rfl,a++[(b,s)],B,?_,by simp;lia,by lia,λp k=>(NH.mp k).elim (f p) λz=>by rw[NF.mp z];show v,j.mono (by lia),rfl⟩;rw[NM];change a.map bX++[.tup [iD r,iD s]]=a.map bX++[.tup [bD b,iD s]];rw[w]
 ·obtain⟨a,d,rfl,g,o,f,c,rfl⟩:=l;let g:a.length=(dP 0 (m:Int)).length:=g;rw[gr] at g;let c:Stt (n+2*(dP 0 (m:Int)).length) d:=c;rw[gr] at c;show⟨rfl,q a d g f c⟩
theorem wB{n m t:Nat}{d:D}{s1 s2 s3 s5 s6 s8 s9:Option Sl}{Q:Kd×D×Ro->Prop}(h:Stt n d)(y:n+m+5<=1000)(A:m<=50)(v:0<t)(w:t<=1000)(q:∀(a:List Nat) d',a.length=m->(∀p∈a,p<t)->Stt (n+m) d'->Q (.fr k0,.lst (a.map iD),[sS d',s1,s2,s3,fS (iD m),s5,s6,fS (iD t),s8,s9])) :
  Wp (bf U_24 (.comp .fz [QI,QI,QI,QH 0,QH 7] (.nm 1) (.p (.rng (.lit (.int 0)) (.var 4))) .non (.io 23 (.ref 3 (.val (.p (.var 4)) .nil)))) [sS d,s1,s2,s3,fS (iD m),s5,s6,fS (iD t),s8,s9]) Q:=by
 show n4 (dI (jm (a9 (aQ rfl (ln (dq (by lia) (by lia) (by lia) (by lia) (by lia)) ⟨rfl,?_,?_⟩)))))
 ·change(dP 0 (m:Int)).length<=_;rw[gr];lia
 show yT (λi l Z=>∃(a:List Nat) (d:D),l=a.map iD/\a.length=i/\i<=m/\(∀p∈a,p<t)/\Stt (n+i) d/\Z=[QI,QI,QI,sS d,fS (iD t)]) ⟨[],d,rfl,rfl,NZ _,λp c=>(nomatch c),h,rfl⟩ (λi x l Z e j=>?_) λl Z j=>?_
 ·obtain⟨a,d,rfl,f,k,c,b,rfl⟩:=j;obtain⟨rfl,s⟩:=ip e;show sw rfl ⟨rfl,rfl⟩ rfl ?_;show jx rfl rfl b (by lia) rfl v (by lia) λr d' u o=>⟨_,rfl,rfl,a++[r],d',by rw[NM];rfl,by simp;lia,by lia,λp g=>(NH.mp g).elim (c p) λz=>by rw[NF.mp z];show u,o,rfl⟩
 ·obtain⟨a,d,rfl,f,k,c,b,rfl⟩:=j;let f:a.length=(dP 0 (m:Int)).length:=f;rw[gr] at f;let b:Stt (n+(dP 0 (m:Int)).length) d:=b;rw[gr] at b;show⟨rfl,q a d f c b⟩
theorem sR{n a p outs:Nat}{Q:Kd×D×List (Option kX)->Prop}(h:Stt n d)(N:n<=100)(O:0<p)(h1:a<=3)(h2:p<=8)(R:outs<=3)(q:∀c d',Ok c->c.ins=a->c.mems.length=p->c.gates.length<=8->Stt (n+100) d'->Q (.sh,cD c,[QH (kS,d'),QI,QI,QI,QI])):Wp (Kl [(kS,d),(.fz,iD a),(.fz,iD p),(.fz,iD 8),(.fz,iD outs)]) Q:=by
 unfold Kl;show BR rfl ?_;unfold Md;show dJ (jx (m:=9) rfl rfl h (by lia) (bC (i:=8) (j:=1) rfl rfl) (by decide) (by decide) λb I S w=>⟨⟨rfl,by decide⟩,?_⟩);show dJ (uJ rfl (lm rfl (eP (cJ (wv (bC rfl rfl) ⟨rfl,eP (cJ (wv rfl ⟨rfl,lj ⟨by simp[cC],[(kS,I),(.fz,iD (a+p)),(.fz,iD b)],rfl,zY w (by lia) (by lia) (by lia) λr P t v u=>⟨rfl,rfl,⟨rfl,by decide⟩,?_⟩⟩⟩))⟩)))));show aw (bC (j:=(b:Int)) (bC (i:=(a:Int)) (j:=(p:Int)) rfl rfl) rfl) rfl (by decide) ?_;show dJ (wz u (by lia) (by lia) (λz=>by lia) (by lia) λs M l B C=>⟨⟨rfl,by decide⟩,?_⟩);show aw rfl rfl (by decide) ?_;show jT ((F8 rfl (bt 0)).trans (by rw[decide_eq_true (by change(0:Int)<((a+p+b:Nat):Int);lia)])) (λ_=>?_) λe=>by cases e
 show dJ (wB C (by lia) (by lia) (by lia) (by lia) λy H F A x=>⟨⟨rfl,by decide⟩,gm ?_⟩)
 let L:Ok ⟨a,s,r,y⟩:=by
  show⟨λk g e=>?_,λm E=>?_,λo K=>?_,by change a<=3;lia,by change s.length<=8;lia,by change r.length<=8;lia,by change y.length<=3;lia⟩
  ·have:=v k g e;unfold Ci.f;rw[l];show this
  ·change m.2<a+s.length+r.length;rw[l,t];show B m E
  ·change o<a+s.length+r.length;rw[l,t];show A o K
 show eA (gE (ci (cJ (wv rfl ⟨rfl,ci (ge rfl ⟨rfl,ci (ge rfl ⟨rfl,di (ge rfl (ba (fv rfl ⟨rfl,pX rfl (q ⟨a,s,r,y⟩ H L rfl l (by change r.length<=8;lia) (x.mono (by lia)))⟩)))⟩)⟩)⟩))))
theorem JO{U:GG}{Z:Ro}{i:Nat}{Q:Kd×D×Ro->Prop}(j:U.fm 23=QH GU)(p:Z[i]?=QH (QH s))(h:Wp (bf U a Z) λx=>∃m n d,x.1=.sh/\x.2.1=iD m/\x.2.2[i]?=QH (sS d)/\Stt n d/\n<=1000/\0<m/\m<2^64/\∀(r:Nat) d',r<m->Stt (n+1) d'->Q (.sh,iD r,x.2.2.set i (sS d'))):Wp (bf U (.io 23 (.ref i (.val a .nil))) Z) Q:=by
 show uJ j (lm p (eP (h.mono λx t=>?_)));obtain⟨w,v,e⟩:=x;obtain⟨m,n,d,rfl,rfl,c,f,l,o,b,q⟩:=t;let c:e[i]?=QH (sS d):=c;show⟨rfl,lj ⟨by simp[cC],[(kS,d),(.fz,iD m)],?_,vb f l o b λr d' u g=>⟨rfl,rfl,q r d' u g⟩⟩⟩
 change(match e[i]?,QH [((.fz:Ow),iD m)] with|some (QH ⟨QL,k,d⟩),QH ks=>QH ((k,d)::ks)|_,_=>QI)=_
 rw[c]
theorem dS{p q:Nat}(d:aa U a Z=QH (k,iD p))(c:aa U b Z=QH (k',iD q)):aa U (.bin .Add a b) Z=QH (.sh,iD (p+q)):=bC d c
theorem Cd{ns:List Int}(I:ns.length<=63):∃c P b x,Ok c/\P<c.n/\x<c.mems.length/\GW [.scr ns]=QH (.sh,.tup [cD c,iD P,bD b,iD x]):=by
 suffices w:Wp (GW [.scr ns]) λr=>∃c P b x,Ok c/\P<c.n/\x<c.mems.length/\r=(.sh,.tup [cD c,iD P,bD b,iD x]) by
  obtain⟨r,e,c,P,b,x,F,L,O,rfl⟩:=w;show⟨c,P,b,x,F,L,O,e⟩
 unfold GW;show n5 rfl ?_;unfold Mf;show dJ (cJ (yM rfl (wv (e1 rfl) (uI (zX I λd v=>⟨rfl,.inl rfl,⟨rfl,by decide⟩,?_⟩)))));show dJ (jx (m:=4) rfl rfl v (by lia) rfl (by decide) (by decide) λi Y hi g=>⟨⟨rfl,by decide⟩,?_⟩);show dJ (ss (ci (cJ (wv rfl ⟨rfl,di (JO rfl rfl ?_)⟩))));show CZ (ci (cJ (wv rfl ⟨rfl,di (ss (di ?_))⟩)));show jx (m:=8) rfl rfl g (by lia) rfl (by decide) (by decide) λy H W a=>aC (a9 (ba ⟨_,_,rfl,uF ⟨by decide,by decide⟩ (ba ⟨_,_,rfl,?_⟩)⟩))
 obtain⟨z,T,hq,s⟩:∃z:Nat,(z=3\/z=8)/\((y:Int) / 7=((y / 7:Nat):Int))/\[iD 3,iD 8][y / 7]?=QH (iD z):=by
  have:y / 7=0\/y / 7=1:=by lia
  rcases this with e|e
  ·show⟨3,.inl rfl,by lia,by rw[e];rfl⟩
  ·show⟨8,.inr rfl,by lia,by rw[e];rfl⟩
 show wv (De (.inl rfl) (Df hq (Nq.mp s).1) s) ⟨z,_,H,rfl,rfl,rfl,a,by lia,by lia,by lia,λo U ho p=>ba ⟨_,_,rfl,wv rfl ⟨⟨rfl,by decide⟩,?_⟩⟩⟩;show dJ (uJ rfl (lm rfl (eP (cJ (wv rfl ⟨rfl,eP (cJ (wv rfl ⟨rfl,eP (cJ (wv rfl ⟨rfl,eP (jx (m:=4) rfl rfl p (by lia) rfl (by decide) (by decide) λN D u h=>⟨rfl,lj ⟨by simp[cC],[(kS,D),(.fz,iD i),(.fz,iD (1+o)),(.fz,iD 8),(.fz,iD N)],rfl,sR h (by lia) (by lia) (by lia) (by lia) (by lia) λc Q t S M C j=>⟨rfl,rfl,⟨rfl,by decide⟩,?_⟩⟩⟩)⟩))⟩))⟩)))));change Wp (aD _ _ _ [] [fS (.scr ns),sS Q,fS (iD i),fS (iD (1+o)),fS (cD c),QI]) _;let V:=t.bn;let B:i+(1+o)+c.gates.length=c.n:=by unfold Ci.n Ci.f;lia
 show aw (dS (dS rfl rfl) (bd (bN rfl rfl (.inr rfl) rfl rfl) (.inl rfl))) rfl (by decide) ?_;rw[B];show eA (gE (ci (cJ (wv rfl ⟨rfl,ci (jx rfl rfl j (by lia) rfl (by lia) (by lia) λP Z A k=>⟨rfl,ci (jx rfl rfl k (by lia) rfl (by decide) (by decide) λb d7 K q=>⟨rfl,di (jx rfl rfl q (by lia) rfl (by lia) (by lia) λx X hx R=>ba (fv rfl ⟨rfl,gg rfl ?_⟩))⟩)⟩)⟩))));obtain⟨E,l⟩:=zZ K;show⟨c,P,E,x,t,A,by lia,by rw[l];rfl⟩
theorem DC{U:GG}{N:Nat}{pn:List Nat}{Z:Ro}{Q:Res->Prop}{rest:bB}{a:List Nat}{s:IS}(h:Wp (aD U N (.cons s rest) pn (frzN a Z)) Q):Wp (aD U N (.cons (.pre a s) rest) pn Z) Q:=by
 rw[aD] at h⊢;rw[BL];show h
section
variable {U:Nat->Option Fn} {Z:Ro} {a b c:IE}
theorem jM{w p:Nat}(a:aa U b Z=QH (.sh,iD p)):aa U (.tup .fz (.cons (.lit (.int (w:Int))) (.cons b .nil))) Z=QH (.sh,pD (sp w p)):=eQ rfl a
theorem DD(g:aa U a Z=QH (.sh,pD p))(d:aa U b Z=QH (.sh,pD q))(e:aa U c Z=QH (.fr kc,gH x f l)):aa U (.tup .fz (.cons a (.cons b (.cons c (.cons (.lst (.own [] .fz) .nil) .nil))))) Z=QH (.sh,mR p q x f l):=
 fC (kds:=[(.sh,pD p),(.sh,pD q),(.fr kc,gH x f l),(.fr k0,mQ)]) (e4 g d e rfl) ⟨rfl,by simp⟩
end
theorem JP(c:aa U a Z=QH (.sh,iD p))(d:aa U b Z=QH (.sh,iD f)):aa U (.bin .Add a (.blt "int" (.cons (.cmp .GtE a b) .nil))) Z=QH (.sh,iD (nu f p)):=by
 show((bC (k:=.sh) (k':=.sh) (i:=(p:Int)) (j:=if decide ((f:Int)<=p) then 1 else 0) c (aL (eO (aC (wv (eB (Jr (k:=.sh) (k':=.sh) (i:=(p:Int)) (j:=(f:Int)) c d)) (ba ⟨_,rfl,rfl⟩)))))).trans ?_)
 unfold nu;by_cases e:f<=p
 ·rw[decide_eq_true (Qp.mpr e),if_pos rfl,if_pos e];rfl
 ·rw[decide_eq_false (λz=>e (Qp.mp z)),if_neg (by decide),if_neg e];rfl
abbrev wL(c:Ci):D:=.lst ((NP c.n).map λp=>iD (nu c.f p))
theorem z4{c:Ci}{p:Nat}(hk:∀n,mn k n=.sh)(g:aa U a Z=QH (k,wL c))(e:aa U b Z=QH (.sh,iD p))(h:p<c.n):aa U (.ix a b) Z=QH (.sh,it QJ c.f p):=by
 rw[bN (n:=p) (d:=iD (nu c.f p)) g e (.inl rfl) rfl (by rw[Nu,Oo h];rfl),hk];rfl
abbrev z5(c:Ci)(P:Nat)(b:Bool)(x8 x9 B R W q O:Option Sl):Ro:=[fS (cD c),fS (iD P),fS (bD b),fS (iD c.ins),fS (.lst (c.mems.map bX)),fS (.lst (c.gates.map bp)),fS (.lst (c.outs.map iD)),fS (iD c.f),x8,x9,B,R,W,q,O]
theorem Gx{c:Ci}(h:Ok c)(P:Nat)(b:Bool):Jm [cD c,iD P,bD b]=QH (.sh,iC c P (dw b P)):=by
 let F:=h.bn;let H:=h.bm;let I:=h.bg;let K:=h.bo;unfold Jm;show fB rfl ?_;unfold Mg;change Wp (aD _ _ _ [] [fS (cD c),fS (iD P),fS (bD b),QI,QI,QI,QI,QI,QI,QI,QI,QI,QI,QI,QI]) _;show eC (ds:=[iD c.ins,.lst (c.mems.map bX),.lst (c.gates.map bp),.lst (c.outs.map iD)]) rfl ⟨rfl,rfl⟩ ?_;show aw (x:=(.sh,iD c.f)) (dS (k:=.sh) (k':=.sh) (p:=c.ins) rfl (bd (l:=c.mems) (f:=bX) (k:=.sh) rfl (.inl rfl))) rfl (by decide) ?_;change Wp (aD _ _ _ [] (z5 c P b QI QI QI QI QI QI QI)) _;show aw (x:=(.fr k0,wL c)) (Gb (n:=c.n) (g:=λp=>iD (nu c.f p)) (dS (p:=c.f) (k:=.sh) (k':=.sh) rfl (bd (l:=c.gates) (f:=bp) (k:=.sh) rfl (.inl rfl))) (by lia) λp _=>wo rfl (wv (JP rfl rfl) ⟨_,rfl,rfl⟩)) rfl (by decide) ?_;change Wp (aD _ _ _ [] (z5 c P b (bM (wL c)) QI QI QI QI QI QI)) _;show aw (Gf (k:=.sh) (l:=c.mems) (f:=bX) (g:=λp=>ox c.f (Ac c p.2 p.1.2)) rfl rfl (by lia) λi m B=>Kn rfl (wv (DD (x:=QJ) (f:=c.f) (l:=[m.2]) (jM (w:=0) (dS (k:=.sh) (k':=.sh) (p:=c.ins) (q:=i) rfl rfl)) (jM (w:=1) (dS (k:=.sh) (k':=.sh) (p:=c.ins) (q:=i) rfl rfl)) (gq (kds:=[(.sh,it QJ c.f m.2)]) (e1 (z4 (c:=c) (k:=.bo 4 k0) (λ_=>rfl) rfl (bN (k:=.sh) (k':=.sh) (n:=1) (hd:=.tup) (xs:=[bD m.1,iD m.2]) rfl rfl (.inr rfl) rfl rfl) (h.m m (NO B)))) ⟨rfl,by simp⟩)) ⟨_,rfl,rfl⟩)) rfl (by decide) ?_;generalize d:c.mems.zipIdx.map (λp=>ox c.f (Ac c p.2 p.1.2))=ks;change Wp (aD _ _ _ [] (z5 c P b (bM (wL c)) QI (bM (.lst ks)) QI QI QI QI)) _;show aw (x:=(.sh,pD (dw b P))) ?_ rfl (by decide) ?_
 ·let A:aa U_27.fn (.lst (.own [] .fz) (.cons (.tup .fz (.cons (.lit (.int 0)) (.cons (.var 1) .nil))) (.cons (.tup .fz (.cons (.lit (.int 2)) (.cons (.lit (.int 0)) .nil))) .nil))) (z5 c P b (bM (wL c)) QI (bM (.lst ks)) QI QI QI QI)=QH (.fr k0,.lst [pD (sp 0 P),pD (sp 2 0)]):=gq (kds:=[(.sh,pD (sp 0 P)),(.sh,pD (sp 2 0))]) (e2 (jM (w:=0) rfl) (jM (w:=2) (p:=0) rfl)) ⟨rfl,by simp⟩;cases b
  ·show bN (k:=.fr k0) (k':=.sh) (n:=0) A rfl (.inl rfl) rfl rfl
  ·show bN (k:=.fr k0) (k':=.sh) (n:=1) A rfl (.inl rfl) rfl rfl
 change Wp (aD _ _ _ [] (z5 c P b (bM (wL c)) QI (bM (.lst ks)) (fS (pD (dw b P))) QI QI QI)) _;show aw (x:=(.fr k0,gH QL c.f (c.mems.map (·.2)))) ((lS (k:=.sh) (hd:=.lst) (l:=c.mems) (f:=bX) (g:=λm=>pD (sp 0 m.2)) (.inl rfl) rfl rfl (by lia) λm _=>wo rfl (wv (jM (w:=0) (bN (k:=.sh) (k':=.sh) (n:=1) (hd:=.tup) (xs:=[bD m.1,iD m.2]) rfl rfl (.inr rfl) rfl rfl)) ⟨_,rfl,rfl⟩)).trans (by unfold gH;rw[NN];rfl)) rfl (by decide) ?_;show aw (x:=(.fr k0,.lst [])) rfl rfl (by decide) ?_;change Wp (aD _ _ _ [] (z5 c P b (bM (wL c)) QI (bM (.lst ks)) (fS (pD (dw b P))) (bM (gH QL c.f (c.mems.map (·.2)))) (bM (.lst [])) QI)) _;generalize t:gH QL c.f (c.mems.map (·.2))=fr;show qr (l:=c.gates) (f:=bp) rfl (λi Z=>i<=c.gates.length/\∃z a,Z=z5 c P b (bM (wL c)) z (bM (.lst ks)) (fS (pD (dw b P))) (bM fr) (bM (.lst (((ww c).take i).map (ox c.f)))) a) ⟨NZ _,QI,QI,by rw[Pa];rfl⟩ (λi g Z r v=>?_) λZ v=>?_
 ·obtain⟨_,z,a,rfl⟩:=v;let E:=(Nq.mp r).1;obtain⟨L,D⟩:=h.g i g r
  let u:∀p∈g.2,p<c.n:=λp j=>by
   have:=D p j;unfold Ci.n
   lia
  show⟨[(9,iD i),(14,bp g)],rfl,rfl,?_⟩;change Wp (aD _ _ _ _ (z5 c P b (bM (wL c)) (fS (iD i)) (bM (.lst ks)) (fS (pD (dw b P))) (bM fr) (bM (.lst (((ww c).take i).map (ox c.f)))) (fS (bp g)))) _
  let s:(ww c)[i]?=QH (Do c i g.2):=by
   unfold ww;rw[Nu,OC,r];change QH (Do c (0+i) g.2)=_;rw[Qk]
  let y:aa U_27.fn (.tup .fz (.cons (.tup .fz (.cons (.lit (.int 0)) (.cons (.bin .Add (.var 7) (.var 9)) .nil))) (.cons (.tup .fz (.cons (.lit (.int 1)) (.cons (.bin .Add (.var 7) (.var 9)) .nil))) (.cons (.comp .fz [QI,QI,QH 8] (.nm 1) (.e (.ix (.var 14) (.lit (.int 1)))) .non (.ix (.var 2) (.var 1))) (.cons (.lst (.own [] .fz) .nil) .nil))))) (z5 c P b (bM (wL c)) (fS (iD i)) (bM (.lst ks)) (fS (pD (dw b P))) (bM fr) (bM (.lst (((ww c).take i).map (ox c.f)))) (fS (bp g)))=QH (.sh,ox c.f (Do c i g.2)):=
   DD (x:=QJ) (f:=c.f) (l:=g.2) (jM (w:=0) (dS (k:=.sh) (k':=.sh) (p:=c.f) (q:=i) rfl rfl)) (jM (w:=1) (dS (k:=.sh) (k':=.sh) (p:=c.f) (q:=i) rfl rfl)) (lS (k:=.sh) (hd:=.tup) (l:=g.2) (f:=iD) (g:=it QJ c.f) (.inr rfl) (bN (k:=.sh) (k':=.sh) (n:=1) (hd:=.tup) (xs:=[iD g.1,.tup (g.2.map iD)]) rfl rfl (.inr rfl) rfl rfl) rfl (by lia) λp j=>wo rfl (wv (z4 (c:=c) (k:=.bo 2 k0) (λ_=>rfl) rfl rfl (u p j)) ⟨_,rfl,rfl⟩))
  show mF (uM (wv y ⟨_,_,_,rfl,⟨NZ _,rfl,by rw[Nt,N0];have:=ly c;lia⟩,a8 ⟨_,.inl rfl,E,fS (iD i),fS (bp g),?_⟩⟩));rw[jr s,NM];rfl
 ·obtain⟨_,z,a,rfl⟩:=v;rw[<- ly c,Oh];change Wp (aD _ _ _ _ (z5 c P b (bM (wL c)) QI (bM (.lst ks)) (fS (pD (dw b P))) (bM fr) (bM (lD c)) QI)) _;show DC ?_;change Wp (aD _ _ _ _ (z5 c P b (bM (wL c)) QI (fS (.lst ks)) (fS (pD (dw b P))) (fS fr) (fS (lD c)) QI)) _;show bP (x:=(.sh,iC c P (dw b P))) (fC (kds:=[(.fr k0,Gj P),(.fr k0,hD c (dw b P)),(.sh,lD c),(.fr k0,nD c)]) (e4 (gq (kds:=[(.sh,wK P)]) (e1 (fC (kds:=[(.sh,iD 1),(.sh,.tup [pD (sp 0 P)])]) (e2 rfl (fC (kds:=[(.sh,pD (sp 0 P))]) (e1 (jM (w:=0) rfl)) ⟨rfl,by simp⟩)) ⟨rfl,by simp⟩)) ⟨rfl,by simp⟩) ((uT (k:=.sh) (k':=.fr k0) (xs:=ks) (ys:=[ox c.f (Gi c (dw b P))]) ⟨rfl,rfl,by rw[<- d];simp;lia⟩ rfl (gq (kds:=[(.sh,ox c.f (Gi c (dw b P)))]) (e1 (fC (kds:=[(.sh,pD (dw b P)),(.sh,pD (dw b P)),(.sh,fr),(.fr k0,mQ)]) (e4 rfl rfl rfl rfl) ⟨rfl,by simp⟩ |>.trans (by rw[<- t];rfl))) ⟨rfl,by simp⟩)).trans (by rw[<- d];unfold hD lT;rw[NM,NN];rfl)) rfl (lS (k:=.sh) (hd:=.lst) (l:=c.outs) (f:=iD) (g:=it QJ c.f) (.inl rfl) rfl rfl (by lia) λo C=>wo rfl (wv (z4 (c:=c) (k:=.bo 2 k0) (λ_=>rfl) rfl rfl (h.o o C)) ⟨_,rfl,rfl⟩))) ⟨rfl,by simp⟩) rfl (eU rfl rfl)
theorem z6(x:Nat)(l:List Nat):((l.map iD).any λz=>vQ z (iD x))=decide (x∈l):=by
 rw[List.any_map,O6,List.any_eq_true,decide_eq_true_eq];constructor
 ·rintro ⟨y,a,e⟩
  let e:vQ (iD y) (iD x)=QJ:=e;rw[nZ] at e;rw[<- Pq.mp (of_decide_eq_true e)];show a
 ·show λh=>⟨x,h,iq (n:=90) rfl⟩
theorem z7(x:Nat)(l:List Nat):cH .NotIn (iD x) (.lst (l.map iD))=QH (!decide (x∈l)):=by
 change(if dB 90 (iD x)=QJ/\gX 90 (l.map iD)=QJ then QH (!(l.map iD).any λz=>vQ z (iD x)) else QI)=_
 rw[if_pos ⟨rfl,ir λd a=>by obtain⟨k,_,rfl⟩:=NR.mp a;rfl⟩,z6]
abbrev Af(c:Ci)(P:Nat)(L:List Nat)(i:Nat):Ro:=[fS (cD c),fS (iD P),fS (iD c.f),bM (.lst (L.map iD)),fS (iD i)]
theorem sT{c:Ci}(h:Ok c){P:Nat}(hP:P<c.n):∃L:List Nat,GV [cD c,iD P]=QH (.fr k0,.lst (L.map iD))/\(∀p,p∈L↔Pl c P p)/\L.length<=100:=by
 let hn:=h.bn
 suffices w:Wp (GV [cD c,iD P]) λr=>∃L:List Nat,r=(.fr k0,.lst (L.map iD))/\(∀p,p∈L↔Pl c P p)/\L.length<=100 by
  obtain⟨r,e,L,rfl,q⟩:=w;show⟨L,e,q⟩
 unfold GV;show n5 rfl ?_;unfold Me;let V:∀{Z:Ro} (n:Nat) d,aa U_25.fn (.var 0) Z=QH (.sh,cD c)->[iD c.ins,D.lst (c.mems.map bX),.lst (c.gates.map bp),.lst (c.outs.map iD)][n]?=QH d->aa U_25.fn (.ix (.var 0) (.lit (.int (n:Int)))) Z=QH (.sh,d):=λn d he h=>bN he rfl (.inr rfl) rfl h;show aw (dS (V 0 _ rfl rfl) (bd (V 1 _ rfl rfl) (.inl rfl))) rfl (by decide) ?_;show aw (gq (e1 rfl) ⟨rfl,by simp⟩) rfl (by decide) ?_;show aw (bt 0) rfl (by decide) ?_;let hf:(NP c.n).countP (λq=>decide (q∉[P]))<=19:=NT Qb (by rw[Ox];lia);show zm (λm Z=>∃(L:List Nat) (i:Nat),Z=Af c P L i/\i<=L.length/\m=4*(NP c.n).countP (λq=>decide (q∉L))+(L.length-i)/\4*(NP c.n).countP (λq=>decide (q∉L))+L.length<=80/\P∈L/\(∀p∈L,Pl c P p)/\∀j,j<i->∀k g,L[j]?=QH (c.f+k)->c.gates[k]?=QH g->∀p∈g.2,p∈L) (by change 4*_+1<1000;lia) ⟨[P],0,rfl,NZ _,rfl,by change 4*_+1<=80;lia,by simp,(λp l=>by rw[NF.mp l];show .base),(λj H=>by lia)⟩ λm Z hI=>?_;obtain⟨L,i,rfl,hc,rfl,hb,v,u,C⟩:=hI;let ll:L.length<=80:=by lia
 let ht:aK U_25.fn (.cmp .Lt (.var 4) (.blt "len" (.cons (.var 3) .nil))) (Af c P L i)=QH (decide (i<L.length)):=(Jq rfl (bd rfl (.inl rfl))).trans (congrArg QH (decide_eq_decide.mpr Ql));show jK (wv ht ⟨λe=>?_,λe=>?_⟩)
 ·let e:i=L.length:=by have:=of_decide_eq_false e;lia
  subst e;show eA (ge rfl ⟨rfl,gg rfl ⟨L,rfl,λp=>⟨u p,λl=>?_⟩,by lia⟩⟩)
  induction l with
  |base=>show v
  |step _ A hm ih=>
   obtain⟨j,H⟩:=OI.mp ih;show C j (Nq.mp H).1 _ _ H A _ hm
 ·let e:i<L.length:=of_decide_eq_true e;let hq:=NC e;generalize L[i]=q at hq;let F:=NO hq;let R:=(u q F).lt h hP;let M:aa U_25.fn (.ix (.var 3) (.var 4)) (Af c P L i)=QH (.sh,iD q):=bN (k:=.bo 3 k0) rfl rfl (.inl rfl) rfl (by rw[Nu,hq];rfl);let I:∀(Q:List Nat),Wp (aD U_25 1000 (.cons (.asg 4 (.p (.bin .Add (.var 4) (.lit (.int 1))))) .nil) [] (Af c P Q i)) λr=>r=.nx (Af c P Q (i+1)):=λQ=>aw (dS rfl rfl) rfl (by decide) (a8 rfl);show jT (z:=decide (c.f<=q)) ((Jr M rfl).trans (congrArg QH (decide_eq_decide.mpr Qp))) (λz=>?_) λz=>gm ?_
  ·let z:c.f<=q:=of_decide_eq_true z;obtain⟨k,rfl⟩:∃k,q=c.f+k:=⟨q-c.f,by lia⟩;let hk:k<c.gates.length:=by unfold Ci.n at R;lia
   let A:=NC hk;generalize c.gates[k]=g at A;obtain⟨g3,gp⟩:=h.g k g A;let S:aa U_25.fn (.ix (.ix (.ix (.var 0) (.lit (.int 2))) (.bin .Sub (.ix (.var 3) (.var 4)) (.var 2))) (.lit (.int 1))) (Af c P L i)=QH (.sh,.tup (g.2.map iD)):=bN (bN (n:=k) (V 2 _ rfl rfl) (Jp M rfl) (.inl rfl) (by lia) (by rw[Nu,A];rfl)) rfl (.inr rfl) rfl rfl;let o:=Gv (r:=.fz) (cap:=[QI,QI,QH 3]) (t:=.cmp .NotIn (.var 1) (.var 2)) (elt:=.var 1) (λp=>!decide (p∈L)) (.inr rfl) S rfl (by lia) (λ_=>rfl) (λp l=>cb rfl rfl (z7 p L)) λp l=>wv rfl ⟨rfl,rfl⟩;generalize Y:g.2.filter (λp=>!decide (p∈L))=N at o;let hd:N.length<=3:=by rw[<- Y];show NT (List.length_filter_le _ _) g3
   let B:∀p,p∈N↔p∈g.2/\p∉L:=λp=>by rw[<- Y,Po];simp
   show mF (zJ rfl o ⟨rfl,rfl⟩ (.inl rfl) (by rw[Nt,Nt];lia) (gm ?_))
   let e3:(Af c P L i).set 3 (QH ⟨QL,k0,.lst (L.map iD++N.map iD)⟩)=Af c P (L++N) i:=by
    unfold Af;rw[NM];rfl
   change Wp (aD _ _ _ _ ((Af c P L i).set 3 (QH ⟨QL,k0,.lst (L.map iD++N.map iD)⟩))) _;rw[e3]
   let X:4*(NP c.n).countP (λq=>decide (q∉L++N))+N.length<=4*(NP c.n).countP (λq=>decide (q∉L)):=by
    let K:∀x∈NP c.n,decide (x∉L++N)=QJ->decide (x∉L)=QJ:=λx _ y=>decide_eq_true λw=>(of_decide_eq_true y) (NG _ w)
    cases E:N with
    |nil=>rw[N9];show Ny _
    |cons a N'=>
     rw[<- E];let W:=(B a).mp (by rw[E];show NJ);have:=sJ K (Od.mpr (by have:=gp a W.1;lia)) (decide_eq_true W.2) (decide_eq_false λw=>w (Nx _ (by rw[E];show NJ)))
     lia
   show(I _).mono λr e=>.inl ⟨_,_,.inl e,?_,L++N,i+1,rfl,by rw[NK];lia,rfl,by rw[NK];lia,NG _ v,λp l=>?_,λj H O T b s p l=>?_⟩
   ·rw[NK]
    lia
   ·rcases NH.mp l with w|w
    ·show u p w
    ·show .step (u _ F) A ((B p).mp w).1
   ·rw[N7 (by lia)] at b;by_cases w:j=i
    ·subst w;rw[hq] at b;let U:k=O:=by have:=Option.some.inj b;lia
     subst U;rw[A] at s;rw[<- Option.some.inj s] at l;by_cases y:p∈L
     ·show NG _ y
     ·show Nx _ ((B p).mpr ⟨l,y⟩)
    ·show NG _ (C j (by lia) O T b s p l)
  ·let z:¬c.f<=q:=of_decide_eq_false z;show(I _).mono λr e=>.inl ⟨_,_,.inl e,?_,L,i+1,rfl,by lia,rfl,hb,v,u,λj H O T b s p l=>?_⟩
   ·lia
   ·by_cases w:j=i
    ·subst w;rw[hq] at b;have:=Option.some.inj b
     lia
    ·show C j (by lia) O T b s p l
theorem Ce{n:Nat}{ds:List D}(h:∀d∈ds,dB n d=QJ):dB (n+1) (.lst ds)=QJ:=by
 change(decide (1<=n+1)&&gX (n+1-1) ds)=QJ;rw[decide_eq_true (by lia),PD,ir h];rfl
theorem cY{n:Nat}{ds:List D}(h:∀d∈ds,dB n d=QJ):dB (n+1) (.tup ds)=QJ:=by
 change(decide (1<=n+1)&&gX (n+1-1) ds)=QJ;rw[decide_eq_true (by lia),PD,ir h];rfl
theorem cZ{n:Nat}{α:Type}{l:List α}{f:α->D}(h:∀a,dB n (f a)=QJ):dB (n+1) (.lst (l.map f))=QJ:=Ce λd b=>by
 obtain⟨a,_,rfl⟩:=NR.mp b;show h a
theorem c4:dB n (.int k)=QJ:=by unfold dB;rfl
theorem ou{n:Nat}(p:Int×Int):dB (n+1) (pD p)=QJ:=cY λd a=>by
 simp only[NB,NQ,or_false] at a
 rcases a with rfl|rfl<;>show c4
theorem z8{n:Nat}(b:Bool)(f p:Nat):dB (n+1) (it b f p)=QJ:=by
 cases b
 ·show ou _
 ·show c4
theorem ve(f:Nat)(t:St):dB 88 (ox f t)=QJ:=cY (n:=87) λd b=>by
 simp only[NB,NQ,or_false] at b;rcases b with rfl|rfl|rfl|rfl
 ·show ou (n:=86) _
 ·show ou (n:=86) _
 ·show cZ (n:=86) λa=>z8 (n:=85) _ _ _
 ·show cZ (n:=86) λa=>c4
theorem Gy(P:Nat):dB 88 (wK P)=QJ:=cY (n:=87) λd b=>by
 simp only[NB,NQ,or_false] at b;rcases b with rfl|rfl
 ·show c4
 ·show cY (n:=86) λd b=>by
   obtain⟨a,_,rfl⟩:=NR.mp b;show ou (n:=85) _
theorem Cf(c:Ci)(P:Nat)(s:Int×Int):dB 90 (iC c P s)=QJ:=cY (n:=89) λd b=>by
 simp only[NB,NQ,or_false] at b;rcases b with rfl|rfl|rfl|rfl
 ·show cZ (n:=88) λa=>Gy a
 ·show cZ (n:=88) λt=>ve _ t
 ·show cZ (n:=88) λt=>ve _ t
 ·show cZ (n:=88) λa=>z8 (n:=87) _ _ _
theorem JQ(c:Ci):dB 90 (cD c)=QJ:=cY (n:=89) λd b=>by
 simp only[NB,NQ,or_false] at b;rcases b with rfl|rfl|rfl|rfl
 ·show c4
 ·show cZ (n:=88) λm=>cY (n:=87) λd b=>by
   simp only[NB,NQ,or_false] at b
   rcases b with rfl|rfl<;>show c4
 ·show cZ (n:=88) λg=>cY (n:=87) λd b=>by
   simp only[NB,NQ,or_false] at b;rcases b with rfl|rfl
   ·show c4
   ·show cY (n:=86) λd b=>by
     obtain⟨a,_,rfl⟩:=NR.mp b;show c4
 ·show cZ (n:=88) λa=>c4
theorem vf(h:dB 90 d=QJ):cH .NotEq d d=QH QL:=(if_pos ⟨h,h⟩).trans (by rw[iq h];rfl)
theorem vg(h:dB 90 d=QJ):cH .Eq d d=QH QJ:=(if_pos ⟨h,h⟩).trans (by rw[iq h])
theorem JR{α β:Type}(l:List α)(F:α->β){γ:Type}(G:β×Nat->γ):(l.map F).zipIdx.map G=l.zipIdx.map λp=>G (F p.1,p.2):=by
 rw[QF,NN];rfl
theorem Tw.he(t:Tw c c')(s:Int×Int):lT c' s=lT c s:=by
 let e:∀c:Ci,(c.mems.zipIdx.map λp=>Ac c p.2 p.1.2)=(c.mems.map (·.2)).zipIdx.map λp=>Ac c p.2 p.1:=λc=>(JR c.mems (·.2) λp=>Ac c p.2 p.1).symm;unfold lT;rw[e,e,t.m];unfold Gi Ac;rw[t.m,t.i]
theorem Tw.pap(t:Tw c c')(P:Nat)(s:Int×Int):iC c' P s=iC c P s:=by
 unfold iC hD lD nD ww Do;rw[t.he s,t.f,t.g,t.o]
theorem Tw.pl(t:Tw c c')(h:Pl c P p):Pl c' P p:=by
 induction h with
 |base=>show .base
 |step _ b d a=>show .step (by rw[t.f];show a) (by rw[t.g];show b) d
theorem Tw.du(t:Tw c c'):Du c' P↔Du c P:=
 ⟨λh p a=>by rw[<- t.i];show h p (t.pl a),λh p a=>by rw[t.i];show h p (t.symm.pl a)⟩
noncomputable def Cg(c:Ci)(x:Nat):Ci:=⟨c.ins,c.mems.zipIdx.map λp=>(xor p.1.1 (decide (p.2=x)),p.1.2),c.gates,c.outs⟩
theorem JS(c:Ci)(x:Nat):Tw c (Cg c x):=⟨rfl,rfl,rfl,by
 change(c.mems.zipIdx.map λp=>(xor p.1.1 (decide (p.2=x)),p.1.2)).map (·.2)=c.mems.map (·.2);show OL λi=>?_;rw[Nu,Nu,Nu,OC]
 cases c.mems[i]?<;>rfl⟩
theorem vh{c c':Ci}(t:Tw c c'){w k:Nat}(d:c.mems[k]?=QH m)(a:c'.mems[k]?=QH m'):bF c c' (sp w (c.ins+k))=(if w=0 then m else m').1.toNat:=by
 unfold bF;by_cases b:w=0
 ·subst b;rw[if_pos (show(sp 0 (c.ins+k)).1=0 from rfl),if_pos rfl,js d]
 ·rw[if_neg (show ¬((w:Nat):Int)=0 by lia),if_neg b,<- t.i,js a]
theorem mV{c:Ci}(h:Ok c){P:Nat}(a:P<c.n)(b d:Bool)(hd:d=QJ↔Du c P):Db [cD c,cD c,iC c P (dw b P)]=QH (.sh,.bl d):=by
 rw[mU h (Tw.refl c) a b,show(lT c (dw b P)).all (hBq c P)=d by rw[O6,zU h a,hd],show(lT c (dw b P)).all (tF c c)=QJ from N5.mpr λt f=>decide_eq_true ?_,Bool.and_true];rcases lz f with⟨k,m,e,rfl⟩|rfl
 ·change bF c c (sp 0 (c.ins+k))=bF c c (sp 1 (c.ins+k));rw[vh (Tw.refl c) e e,vh (Tw.refl c) e e,if_pos rfl,if_neg (by decide)]
 ·rfl
theorem vi{c c':Ci}(h:Ok c)(t:Tw c c'){P:Nat}(g:P<c.n)(b:Bool){x:Nat}{m d:Bool×Nat}(e:c.mems[x]?=QH m)(a:c'.mems[x]?=QH d)(f:m.1≠d.1):Db [cD c,cD c',iC c P (dw b P)]=QH (.sh,.bl QL):=by
 rw[mU h t g b,show(lT c (dw b P)).all (tF c c')=QL from ?_,Pv];rw[Qs];show⟨Ac c x m.2,NG _ (NR.mpr ⟨(m,x),OY.mpr e,rfl⟩),λz=>f ?_⟩;let z:bF c c' (sp 0 (c.ins+x))=bF c c' (sp 1 (c.ins+x)):=of_decide_eq_true z;rw[vh t e a,vh t e a,if_pos rfl,if_neg (by decide)] at z
 cases e1:m.1<;>cases e2:d.1<;>rw[e1,e2] at z<;>first|rfl|cases z
theorem ow{U:GG}(f:U.fn 10=QH Db)(e:aa U.fn a Z=QH (.sh,x))(c:aa U.fn b Z=QH (.sh,y))(hd:aa U.fn d Z=QH (.sh,z))(h:Db [x,y,z]=QH (.sh,.bl r)):aa U.fn (.fn 10 (.cons a (.cons b (.cons d .nil)))) Z=QH (.sh,.bl r):=bA f (e3 e c hd) rfl rfl h rfl
theorem Ch(a b:Bool):a.toNat ^^^ b.toNat=(xor a b).toNat:=by cases a<;>cases b<;>rfl
abbrev JT(ns:List Int)(c:Ci)(P:Nat)(b:Bool)(x:Nat)(W:D)(d f:Bool)(x8 x9 B O R q:Option Sl):Ro:=[fS (.scr ns),fS (cD c),fS (iD P),fS (bD b),fS (iD x),fS W,fS (.bl d),fS (.bl f),x8,x9,B,O,R,q]
theorem z9(ns:List Int)(U:ns.length<=63):Jn [.scr ns]=QH (.sh,.bl QJ):=by
 obtain⟨c,P,b,x,h,C,hx,F⟩:=Cd U;let bm:=h.bm;let W:=Gx h P b;obtain⟨L,E,I,X⟩:=sT h C;let o:=NC hx;generalize c.mems[x]=m at o;let t:=JS c x
 let w:(Cg c x).mems[x]?=QH (!m.1,m.2):=by
  change(c.mems.zipIdx.map _)[x]?=_;rw[Nu,OC,o];change QH (xor m.1 (decide (0+x=x)),m.2)=_;rw[Qk,decide_eq_true rfl,Bool.xor_true]
 let K:m.1≠!m.1:=by cases m.1<;>decide
 generalize hd:decide (((L.filter λp=>decide (p<c.ins)).length:Int)=0)=d
 let M:d=QJ↔Du c P:=by
  rw[<- hd,decide_eq_true_eq];constructor
  ·intro z p u;let z:(L.filter λp=>decide (p<c.ins)).length=0:=by lia
   let e:L.filter (λp=>decide (p<c.ins))=[]:=OT.mp z;have:=Pf.mp e p ((I p).mpr u);rw[decide_eq_true_eq] at this
   lia
  ·intro z;rw[show L.filter (λp=>decide (p<c.ins))=[] from Pf.mpr λp u=>by have:=z p ((I p).mp u);rw[decide_eq_true_eq];lia];rfl
 let R:=mV h C b d M;let l2:=vi h t C b o w K;let Q:=vi (t.ok h) t.symm (by rw[t.n];show C) b w o K.symm;let N:=mV (t.ok h) (by rw[t.n];show C) b d (M.trans t.du.symm);rw[t.pap] at Q N;let y:=Cf c P (dw b P);generalize iC c P (dw b P)=pa at *;unfold Jn;show fB rfl ?_;unfold Mh;change Wp (aD _ _ _ [] [fS (.scr ns),QI,QI,QI,QI,QI,QI,QI,QI,QI,QI,QI,QI,QI]) _
 let A:∀{Z:Ro} {s:List (Option Sl)},Z=fS (.scr ns)::s->aa U_28.fn (.fn 27 (.cons (.var 0) .nil)) Z=QH (.sh,.tup [cD c,iD P,bD b,iD x]):=λ{Z s} e=>by
  subst e;show bA (B:=GW) (ds:=[.scr ns]) rfl (e1 (p:=(.sh,.scr ns)) rfl) rfl rfl F rfl
 let v:∀{Z:Ro},aa U_28.fn (.var 1) Z=QH (.sh,cD c)->aa U_28.fn (.var 2) Z=QH (.sh,iD P)->aa U_28.fn (.var 3) Z=QH (.sh,bD b)->aa U_28.fn (.fn 28 (.cons (.var 1) (.cons (.var 2) (.cons (.var 3) .nil)))) Z=QH (.sh,pa):=λT V h3=>bA (B:=Jm) (ds:=[cD c,iD P,bD b]) rfl (e3 T V h3) rfl rfl W rfl;show eC (ds:=[cD c,iD P,bD b,iD x]) (A rfl) ⟨rfl,rfl⟩ ?_;show aw (v rfl rfl rfl) rfl (by decide) ?_;change Wp (aD _ _ _ [] [fS (.scr ns),fS (cD c),fS (iD P),fS (bD b),fS (iD x),fS pa,QI,QI,QI,QI,QI,QI,QI,QI]) _;let Y:∀{Z:Ro} {e:IE} (n:Nat) d,aa U_28.fn e Z=QH (.sh,cD c)->[iD c.ins,D.lst (c.mems.map bX),.lst (c.gates.map bp),.lst (c.outs.map iD)][n]?=QH d->aa U_28.fn (.ix e (.lit (.int (n:Int)))) Z=QH (.sh,d):=λn d S h=>bN (k:=.sh) (k':=.sh) (n:=n) S rfl (.inr rfl) rfl h;show aw (x:=(.sh,.bl d)) ((eB (n8 (k:=.sh) (k':=.sh) (i:=((L.filter λp=>decide (p<c.ins)).length:Int)) (bd (l:=L.filter λp=>decide (p<c.ins)) (f:=iD) (k:=.fr k0) (hd:=.lst) (Gv (r:=.fz) (l:=L) (f:=iD) (g:=iD) (k:=.fr k0) (hd:=.lst) (λp=>decide (p<c.ins)) (.inl rfl) (bA (B:=GV) (ds:=[cD c,iD P]) rfl (e2 (p:=(.sh,cD c)) (q:=(.sh,iD P)) rfl rfl) rfl rfl E rfl) rfl (by lia) (λ_=>rfl) (λp u=>(Jq (k:=.sh) (k':=.sh) (i:=(p:Int)) (j:=(c.ins:Int)) rfl (Y 0 _ rfl rfl)).trans (congrArg QH (decide_eq_decide.mpr Ql))) λp u=>wv (r:=(.sh,iD p)) rfl ⟨rfl,rfl⟩) (.inl rfl)) (bt 0))).trans (by rw[hd])) rfl (by decide) ?_;show aw (x:=(.sh,.bl d)) (ow rfl rfl rfl rfl R) rfl (by decide) ?_;change Wp (aD _ _ _ [] (JT ns c P b x pa d d QI QI QI QI QI QI)) _;let O:nE "bool" (.bl d)=QH QJ:=rfl;show eR (z:=QL||false) (x:=(.sh,.bl QL)) (lR (c9 (x:=QJ) (qg (k:=.sh) (d:=.bl d) rfl O)) λ_=>fy (cb (k:=.sh) (k':=.sh) (d:=.bl d) (d':=.bl d) rfl rfl (vf rfl))) (λe=>by cases e) λ_=>?_;show eC (ds:=[iD c.ins,.lst (c.mems.map bX),.lst (c.gates.map bp),.lst (c.outs.map iD)]) rfl ⟨rfl,rfl⟩ ?_;change Wp (aD _ _ _ [] (JT ns c P b x pa d d (fS (iD c.ins)) (fS (.lst (c.mems.map bX))) (fS (.lst (c.gates.map bp))) (fS (.lst (c.outs.map iD))) QI QI)) _;show aw (x:=(.fr k0,.lst ((Cg c x).mems.map bX))) ?_ rfl (by decide) ?_
 ·let H:aa U_28.fn _ (JT ns c P b x pa d d (fS (iD c.ins)) (fS (.lst (c.mems.map bX))) (fS (.lst (c.gates.map bp))) (fS (.lst (c.outs.map iD))) QI QI)=QH (.fr k0,.lst (c.mems.zipIdx.map λp=>bX (xor p.1.1 (decide (p.2=x)),p.1.2))):=
   Gf (k:=.sh) (l:=c.mems) (f:=bX) (r:=.fz) (cap:=[QI,QI,QI,QI,QI,QH 9,QH 4]) (tg:=.tp [.nm 1,.tp [.nm 2,.nm 3]]) (a:=.var 9) (elt:=.tup .fz (.cons (.bin .BitXor (.var 2) (.blt "int" (.cons (.cmp .Eq (.var 1) (.var 6)) .nil))) (.cons (.ix (.ix (.var 5) (.var 1)) (.lit (.int 1))) .nil))) (g:=λp=>bX (xor p.1.1 (decide (p.2=x)),p.1.2)) rfl rfl (by lia) λi m o=>pW (ps:=[(1,iD i),(2,bD m.1),(3,iD m.2)]) rfl rfl rfl (wv (r:=(.sh,bX (xor m.1 (decide (i=x)),m.2))) (fC (kds:=[(.sh,bD (xor m.1 (decide (i=x)))),(.sh,iD m.2)]) (e2 (aL (a6 (wv (r:=(.sh,iD m.1.toNat)) rfl (wv (r:=(.sh,iD (decide (i=x)).toNat)) (aL (eO (aC (wv (eB ((n8 (k:=.sh) (k':=.sh) (i:=(i:Int)) (j:=(x:Int)) rfl rfl).trans (congrArg QH (decide_eq_decide.mpr Pq)))) (ba ⟨_,rfl,by cases decide (i=x)<;>rfl⟩))))) (jo (by rw[Ch])))))) (bN (k:=.sh) (k':=.sh) (n:=1) (hd:=.tup) (xs:=[bD m.1,iD m.2]) (bN (k:=.sh) (k':=.sh) (n:=i) (hd:=.lst) (xs:=c.mems.map bX) rfl rfl (.inl rfl) rfl (by rw[Nu,o];rfl)) rfl (.inr rfl) rfl rfl)) ⟨rfl,by simp⟩) ⟨_,rfl,rfl⟩)
  show H.trans ?_;change _=QH (Kd.fr k0,D.lst ((c.mems.zipIdx.map _).map bX));rw[NN];rfl
 show DC ?_;show aw (x:=(.sh,cD (Cg c x))) (fC (kds:=[(.sh,iD c.ins),(.sh,.lst ((Cg c x).mems.map bX)),(.sh,.lst (c.gates.map bp)),(.sh,.lst (c.outs.map iD))]) (e4 rfl rfl rfl rfl) ⟨rfl,by simp⟩) rfl (by decide) ?_;change Wp (aD _ _ _ [] (JT ns c P b x pa d d (fS (iD c.ins)) (fS (.lst (c.mems.map bX))) (fS (.lst (c.gates.map bp))) (fS (.lst (c.outs.map iD))) (fS (.lst ((Cg c x).mems.map bX))) (fS (cD (Cg c x))))) _;show eR (z:=QL||false) (x:=(.sh,.bl QL)) (lR (cb (ow rfl rfl rfl rfl l2) rfl rfl) λ_=>fy (cb (ow rfl rfl rfl rfl Q) rfl rfl)) (λe=>by cases e) λ_=>?_;show aw (x:=(.sh,.bl d)) (ow rfl rfl rfl rfl N) rfl (by decide) ?_;change Wp (aD _ _ _ [] (JT ns c P b x pa d d (fS (iD c.ins)) (fS (.lst (c.mems.map bX))) (fS (.lst (c.gates.map bp))) (fS (.lst (c.outs.map iD))) (fS (.lst ((Cg c x).mems.map bX))) (fS (cD (Cg c x))))) _;show eR (z:=QL||false) (x:=(.sh,.bl QL)) (lR (c9 (x:=QJ) (qg (k:=.sh) (d:=.bl d) rfl O)) λ_=>fy (cb (k:=.sh) (k':=.sh) (d:=.bl d) (d':=.bl d) rfl rfl (vf rfl))) (λe=>by cases e) λ_=>?_;show bP (x:=(.sh,.bl (QJ&&QJ))) (cm (eB (cb (k:=.sh) (k':=.sh) (d:=pa) (d':=pa) rfl (v rfl rfl rfl) (vg y))) λ_=>fA (eB (cb (k:=.sh) (d:=cD c) rfl (bN (k:=.sh) (k':=.sh) (n:=0) (hd:=.tup) (xs:=[cD c,iD P,bD b,iD x]) (A rfl) rfl (.inr rfl) rfl rfl) (vg (JQ c))))) rfl (eU rfl rfl)
abbrev Gz:Pos:=match ze with|.FunctionDef _ _ _ _ _ _ _ _ _ p=>p|_=>⟨0,0,0,0⟩
noncomputable abbrev sv(x:String)(t:Tok):QK:=.str (Str.ofString x) t
noncomputable abbrev E(P:Params)(x:String)(t:Tok)(v:QK):DictEntry:=⟨PyData.keyHash P (Str.ofString x),.str (Str.ofString x) t,v⟩
abbrev fO(x:String)(st:QV)(m:QK)(c:QO):Obj:=⟨.type "function",QI,.func (Oq (Str.ofString x) (Str.ofString x) (bZ st) (aB st) (ab st) .none .none .none m QI (.ref c) .none),#[]⟩
abbrev fQ(x y:String)(st:QV)(m:QK)(c:QO):Obj:=⟨.type "function",QI,.func (Oq (Str.ofString x) (Str.ofString y) (bZ st) (aB st) (ab st) .none .none .none m QI (.ref c) .none),#[]⟩
abbrev mL:QK:=sv "law_gatepapers_k44_held_ones_begin_alike" 438
abbrev cO(x:String)(t:Nat)(l n:Int)(r:QO)(b:Bool)(q:QO)(A B C:QK)(s:QO)(u:Nat):Obj:=⟨.type "code",QI,.fields #[sv x t,sv x (t+1),sv "/claim/cut.py" (t+2),.int l 0,.int n 0,.int 0 0,.int 0 0,.int 3 0,.ref r,.bool b,.int 181 0,.ref q,A,B,C,.ref s,.int u 0,.int l 0,sv "/claim/cut.py" (u+1)],#[]⟩
abbrev GY:QK:=sv "gatepapers.bits" 187
abbrev Ku:QK:=sv "gatepapers.circuits" 222
abbrev GZ:QK:=sv "gatepapers.columns" 239
abbrev lC:QK:=sv "gatepapers.papers" 334
abbrev Aa:QK:=sv "gatepapers.spots" 265
def KK(P:Params):Np:=[(3,⟨(.type "dict"),QI,(.dict #[E P "__name__" 165 mL,E P "__doc__" 166 .none,E P "__package__" 167 .none,E P "__loader__" 168 (.builtin "__main__.__loader__#opaque"),E P "__spec__" 169 .none,E P "__annotations__" 170 (.ref 6),E P "__builtins__" 171 (.ref 4),E P "__file__" 173 (sv "/claim/cut.py" 172),E P "__cached__" 174 .none,E P "is_whole" 195 (.ref 21),E P "is_below" 203 (.ref 28),E P "bits_of" 209 (.ref 33),E P "MOST_PLACES" 213 (.int 3 212),E P "is_table" 221 (.ref 40),E P "is_tuple" 231 (.ref 47),E P "places_in" 238 (.ref 54),E P "all_trials" 247 (.ref 61),E P "column_of" 258 (.ref 68),E P "column_told" 264 (.ref 73),E P "is_spot" 274 (.ref 80),E P "Ground" 333 (.ref 114),E P "MOST_FREE" 337 (.int 8 336),E P "looked" 343 (.ref 123),E P "is_paper" 349 (.ref 128),E P "is_helper" 355 (.ref 133),E P "is_statement" 361 (.ref 138),E P "hangs_on_no_in" 367 (.ref 143),E P "holds_first" 376 (.ref 150),E P "holds_now" 392 (.ref 157),E P "holds_next" 398 (.ref 162),E P "trials_by" 404 (.ref 167),E P "bits_by_free" 420 (.ref 174),E P "bits_by_given" 437 (.ref 181),E P "_law_mixed" 448 (.ref 188),E P "_law_state" 454 (.ref 193),E P "_law_take" 463 (.ref 200),E P "_law_gates" 469 (.ref 205),E P "_law_circuit" 475 (.ref 210),E P "_law_beneath" 481 (.ref 215),E P "_law_case" 493 (.ref 222),E P "_law_paper" 499 (.ref 227),E P "law" 505 (.ref 232)] 42),#[]⟩),
 (21,fO "is_whole" s0 GY 20),
 (20,cO "is_whole" 189 2 1 15 QJ 16 .none (.ref 17) (.ref 18) 19 193),
 (28,fO "is_below" s1 GY 27),
 (27,cO "is_below" 196 4 2 22 QJ 23 .none (.ref 24) (.ref 25) 26 201),
 (33,fO "bits_of" s2 GY 32),
 (32,cO "bits_of" 204 6 2 29 QJ 30 .none .none .none 31 207),
 (40,fO "is_table" s3 (sv "gatepapers.tables" 210) 39),
 (39,cO "is_table" 214 10 2 34 QJ 35 .none (.ref 36) (.ref 37) 38 219),
 (47,fO "is_tuple" s4 Ku 46),
 (46,cO "is_tuple" 224 17 2 41 QJ 42 .none (.ref 43) (.ref 44) 45 229),
 (54,fO "places_in" s5 Ku 53),
 (53,cO "places_in" 232 19 1 48 QJ 49 .none (.ref 50) (.ref 51) 52 236),
 (61,fO "all_trials" s6 GZ 60),
 (60,cO "all_trials" 241 22 1 55 QJ 56 .none (.ref 57) (.ref 58) 59 245),
 (68,fO "column_of" s7 GZ 67),
 (67,cO "column_of" 248 24 2 62 QJ 63 .none (.ref 64) (.ref 65) 66 256),
 (73,fO "column_told" s8 GZ 72),
 (72,cO "column_told" 259 32 3 69 QJ 70 .none .none .none 71 262),
 (80,fO "is_spot" s9 Aa 79),
 (79,cO "is_spot" 267 38 2 74 QJ 75 .none (.ref 76) (.ref 77) 78 272),
 (123,fO "looked" ML lC 122),
 (122,cO "looked" 338 81 3 119 QJ 120 .none .none .none 121 341),
 (128,fO "is_paper" MM lC 127),
 (127,cO "is_paper" 344 91 3 124 QJ 125 .none .none .none 126 347),
 (133,fO "is_helper" MN lC 132),
 (132,cO "is_helper" 350 99 2 129 QJ 130 .none .none .none 131 353),
 (138,fO "is_statement" s13 lC 137),
 (137,cO "is_statement" 356 103 3 134 QJ 135 .none .none .none 136 359),
 (143,fO "hangs_on_no_in" MP lC 142),
 (142,cO "hangs_on_no_in" 362 110 2 139 QJ 140 .none .none .none 141 365),
 (150,fO "holds_first" MQ lC 149),
 (149,cO "holds_first" 368 112 2 144 QJ 145 .none (.ref 146) (.ref 147) 148 374),
 (157,fO "holds_now" MS lC 156),
 (156,cO "holds_now" 377 115 3 151 QJ 152 .none (.ref 153) (.ref 154) 155 390),
 (162,fO "holds_next" mI lC 161),
 (161,cO "holds_next" 393 122 3 158 QJ 159 .none .none .none 160 396),
 (167,fO "trials_by" MU lC 166),
 (166,cO "trials_by" 399 132 5 163 QJ 164 .none .none .none 165 402),
 (174,fO "bits_by_free" MV lC 173),
 (173,cO "bits_by_free" 405 146 2 168 QJ 169 .none (.ref 170) (.ref 171) 172 418),
 (181,fO "bits_by_given" sC lC 180),
 (180,cO "bits_by_given" 421 159 5 175 QJ 176 .none (.ref 177) (.ref 178) 179 435),
 (188,fO "_law_mixed" MW mL 187),
 (187,cO "_law_mixed" 440 172 2 182 QJ 183 .none (.ref 184) (.ref 185) 186 446),
 (193,fO "_law_state" MX mL 192),
 (192,cO "_law_state" 449 176 1 189 QJ 190 .none .none .none 191 452),
 (200,fO "_law_take" rF mL 199),
 (199,cO "_law_take" 455 181 2 194 QJ 195 .none (.ref 196) (.ref 197) 198 461),
 (205,fO "_law_gates" GJ mL 204),
 (204,cO "_law_gates" 464 190 3 201 QJ 202 .none .none .none 203 467),
 (210,fO "_law_circuit" GO mL 209),
 (209,cO "_law_circuit" 470 199 5 206 QJ 207 .none .none .none 208 473),
 (215,fO "_law_beneath" MY mL 214),
 (214,cO "_law_beneath" 476 208 2 211 QJ 212 .none .none .none 213 479),
 (222,fO "_law_case" MZ mL 221),
 (221,cO "_law_case" 482 217 1 216 QJ 217 .none (.ref 218) (.ref 219) 220 491),
 (227,fO "_law_paper" M0 mL 226),
 (226,cO "_law_paper" 494 224 3 223 QJ 224 .none .none .none 225 497),
 (232,fO "law" ze mL 231),
 (231,cO "law" 500 235 1 228 QJ 229 .none .none .none 230 503),
 (99,fQ "put_circuit" "Ground.put_circuit" Jf Aa 98),
 (98,⟨(.type "code"),QI,(.fields #[(sv "put_circuit" 299),(sv "Ground.put_circuit" 300),(sv "/claim/cut.py" 301),(.int 51 0),(.int 3 0),(.int 0 0),(.int 0 0),(.int 3 0),(.ref 95),(.bool QJ),(.int 181 0),(.ref 96),.none,.none,.none,(.ref 97),(.int 302 0),(.int 51 0),(sv "/claim/cut.py" 303)]),#[]⟩),
 (106,fQ "all_below" "Ground.all_below" zf Aa 105),
 (105,⟨(.type "code"),QI,(.fields #[(sv "all_below" 305),(sv "Ground.all_below" 306),(sv "/claim/cut.py" 307),(.int 59 0),(.int 3 0),(.int 0 0),(.int 0 0),(.int 3 0),(.ref 100),(.bool QJ),(.int 181 0),(.ref 101),.none,(.ref 102),(.ref 103),(.ref 104),(.int 314 0),(.int 59 0),(sv "/claim/cut.py" 315)]),#[]⟩),
 (111,fQ "reckoned" "Ground.reckoned" zg Aa 110),
 (110,⟨(.type "code"),QI,(.fields #[(sv "reckoned" 317),(sv "Ground.reckoned" 318),(sv "/claim/cut.py" 319),(.int 70 0),(.int 4 0),(.int 0 0),(.int 0 0),(.int 3 0),(.ref 107),(.bool QJ),(.int 181 0),(.ref 108),.none,.none,.none,(.ref 109),(.int 320 0),(.int 70 0),(sv "/claim/cut.py" 321)]),#[]⟩),
 (114,⟨.type "type",QI,.cls ⟨Str.ofString "Ground",[.type "object"],[.ref 114,.type "object"],113,Str.ofString "Ground",QJ,[],[],QL,QI,QL⟩,#[QI,QI,(QH (sv "Ground" 275)),(QH (sv "Ground" 283)),(QH (.builtin "object.__new__")),(QH (.bool QJ))]⟩),
 (113,⟨(.type "dict"),QI,(.dict #[E P "__module__" 282 Aa,E P "__firstlineno__" 286 (.int 40 285),E P "__init__" 298 (.ref 94),E P "put_circuit" 304 (.ref 99),E P "all_below" 316 (.ref 106),E P "reckoned" 322 (.ref 111),E P "__static_attributes__" 326 (.ref 112),E P "__dict__" 328 (.ref 115),E P "__weakref__" 330 (.ref 116),E P "__doc__" 331 .none] 4),#[]⟩),
 (94,fQ "__init__" "Ground.__init__" uS Aa 93),
 (93,⟨(.type "code"),QI,(.fields #[(sv "__init__" 287),(sv "Ground.__init__" 288),(sv "/claim/cut.py" 289),(.int 42 0),(.int 4 0),(.int 0 0),(.int 0 0),(.int 3 0),(.ref 88),(.bool QJ),(.int 181 0),(.ref 89),.none,(.ref 90),(.ref 91),(.ref 92),(.int 296 0),(.int 42 0),(sv "/claim/cut.py" 297)]),#[]⟩)]
def HH:PySem.W.Hook:=PySem.W.kHook KK [3,21,20,28,27,33,32,40,39,47,46,54,53,61,60,68,67,73,72,80,79,123,122,128,127,133,132,138,137,143,142,150,149,157,156,162,161,167,166,174,173,181,180,188,187,193,192,200,199,205,204,210,209,215,214,222,221,227,226,232,231,99,98,106,105,111,110,114,113,94,93] (λ_=>rfl)
noncomputable def qv:QT:=PySem.W.view PySem.Challenge.pw_gatepapers_k44_held_ones_begin_alike [39]
noncomputable def lo:List Str:=(["__name__","is_whole","is_below","bits_of","MOST_PLACES","is_table","is_tuple","places_in","all_trials","column_of","column_told","is_spot","Ground","MOST_FREE","looked","is_paper","is_helper","is_statement","hangs_on_no_in","holds_first","holds_now","holds_next","trials_by","bits_by_free","bits_by_given","_law_mixed","_law_state","_law_take","_law_gates","_law_circuit","_law_beneath","_law_case","_law_paper"]:List String).map Str.ofString
theorem left:PySem.W.LeftO (PySem.Challenge.rw_gatepapers_k44_held_ones_begin_alike).row.toRowW.prog qv lo (λs=>PySem.W.xlAt qv [] s&&PySem.W.recOk (PySem.W.RowW.records (PySem.Challenge.rw_gatepapers_k44_held_ones_begin_alike).row.toRowW) s) (PySem.W.Hook.obs HH) (PySem.W.Hook.val HH) 20000:=λw=>by kernel_rfl
theorem wD{P:Params}{h:QY}{mg:Str->Option QK}(X:(KK P).In h)(G:h.Ns QZ mg){x:Str}{v:QK}(e:Oa (KK P) QZ x=QH (QH v)):mg x=QH v:=PySem.W.mg_of X G e
theorem fm{P:Params}(x:String)(st:QV)(f:QO)(m:QK)(c:QO)(h:(KK P).lookup f=QH (fO x st m c):=by kernel_rfl)(k:O9 (KK P) (.ref c) (Str.ofString x)=QJ:=by kernel_rfl)(j:Om (KK P) (.ref f)=QJ:=by kernel_rfl):Fun (KK P) (Str.ofString x) (Str.ofString x) st f (Oq (Str.ofString x) (Str.ofString x) (bZ st) (aB st) (ab st) .none .none .none m QI (.ref c) .none):=kq h k j
abbrev Pk(P:Params)(mg:Str->Option QK)(i:Nat)(x:Str)(st:QV)(f:QO)(fd:Q3)(N:List Str)(n:Nat)(b:bB):Prop:=Fun (KK P) x x st f fd/\aY N (N.take n) (ab st)/\mg x=QH (.ref f)/\Binds (KK P) fd (N.take n) []/\(x==("__debug__":Str)||qz x)=QL/\fns.fns[i]?=QH x/\pN fns an 60 N st=QH b
section
variable {P:Params} {mg:Str->Option QK}
theorem jy{h:QY}(X:(KK P).In h)(G:h.Ns QZ mg)(i:Nat)(x:String)(st:QV)(f c:QO)(m:QK)(N:List Str)(n:Nat)(b:bB)(h1:(KK P).lookup f=QH (fO x st m c):=by kernel_rfl)(h2:O9 (KK P) (.ref c) (Str.ofString x)=QJ:=by kernel_rfl)(e:Om (KK P) (.ref f)=QJ:=by kernel_rfl)(g:Oa (KK P) QZ (Str.ofString x)=QH (QH (.ref f)):=by kernel_rfl)(j:∀(kV a k:QK) (an:Option QO) (d o:QK) (us:List QK),us.length=(N.take n).length->bindArgs (Oq (Str.ofString x) (Str.ofString x) (bZ st) (aB st) (ab st) .none kV a k an d o) ⟨us,[]⟩=pure ((N.take n).zip us):=by walk_at "bnd")(S:aY N (N.take n) (ab st):=by walk_at "fsc")(l:pN fns an 60 N st=QH b:=by rfl)(hd:(Str.ofString x==("__debug__":Str)||qz (Str.ofString x))=QL:=by rfl)(hi:fns.fns[i]?=QH (Str.ofString x):=by rfl):Pk P mg i (Str.ofString x) st f (Oq (Str.ofString x) (Str.ofString x) (bZ st) (aB st) (ab st) .none .none .none m QI (.ref c) .none) N n b:=⟨fm x st f m c h1 h2 e,S,wD X G g,(fm x st f m c h1 h2 e).binds j,hd,hi,l⟩
variable {l:PySem.W.OpenLaw} {w:QW} {base:QY} {U:GG} {k i n:Nat} {x:Str} {st:QV} {f:QO} {fd:Q3} {N:List Str} {b:bB} (T:TabF l.prog w (KK P) mg base (a5 fns U) k)
include T
theorem aI(ψ:Fn)(q:Pk P mg i x st f fd N n b)(e:∀ds,Le (ψ ds) (bQ U 1000 (N.take n).length N.length b ds):=by show λ_=>Le.refl _):TabF l.prog w (KK P) mg base (a5 fns (U.addI i ψ)) (k+1):=T.addI q.1 q.2.1 q.2.2.1 q.2.2.2.1 q.2.2.2.2.1 q.2.2.2.2.2.1 q.2.2.2.2.2.2 e
theorem aM(ψ:Fm)(q:Pk P mg i x st f fd N n b)(e:∀ds,Le (ψ ds) (la U 1000 (N.take n).length N.length [0] b ds):=by show λ_=>Le.refl _):TabF l.prog w (KK P) mg base (a5 fns (U.addM i ψ)) (k+1):=T.addM q.1 q.2.1 q.2.2.1 q.2.2.2.1 q.2.2.2.2.1 q.2.2.2.2.2.1 q.2.2.2.2.2.2 e
end
theorem GA{l:PySem.W.OpenLaw}{w:QW}{P:Params}{h:QY}{mg:Str->Option QK}{fa:QO}(X:(KK P).In h)(G:h.Ns QZ mg)(hn:mg "law" = QH (.ref fa)):∃fd:Q3,(∀(s:QP) (v:QK),BindsTo s fd ⟨[v],[]⟩ [("_law_script",v)])/\∀base:QY,(KK P).In base->base.Ns QZ mg->FnOk l.prog w (KK P) mg base iO 35 fa fd ["_law_script"] (nB (KK P) Jn):=by
 let e:=hn.symm.trans (wD X G (v:=.ref 232) (by kernel_rfl));cases e;let r:=fm (P:=P) "holds_next" mI 162 lC 161;let R:=r.binds (ps:=["ground","statements","statement"]) λ_ _ _ _ _ _=>IV (λ_ _ _=>rfl);let m:=fm (P:=P) "bits_by_given" sC 181 lC 180;let hw:=m.binds (ps:=["ground","statements","given","bits","whole"]) λ_ _ _ _ _ _=>MJ (λ_ _ _ _ _=>rfl);let u:=fm (P:=P) "law" ze 232 mL 231;let h1:=u.binds (ps:=["_law_script"]) λ_ _ _ _ _ _=>LP (λ_=>rfl);let o:=kq (K:=KK P) (x:="put_circuit") (qual:="Ground.put_circuit") (st:=Jf) (f:=99) (show(KK P).lookup 99=QH (fQ "put_circuit" "Ground.put_circuit" Jf Aa 98) by kernel_rfl) (by kernel_rfl) (by kernel_rfl);let hu:=o.binds (ps:=["self","which","circuit"]) λ_ _ _ _ _ _=>IV (λ_ _ _=>rfl);let p:=kq (K:=KK P) (x:="all_below") (qual:="Ground.all_below") (st:=zf) (f:=106) (show(KK P).lookup 106=QH (fQ "all_below" "Ground.all_below" zf Aa 105) by kernel_rfl) (by kernel_rfl) (by kernel_rfl);let T:=p.binds (ps:=["self","known","wanted"]) λ_ _ _ _ _ _=>IV (λ_ _ _=>rfl);let j:=kq (K:=KK P) (x:="reckoned") (qual:="Ground.reckoned") (st:=zg) (f:=111) (show(KK P).lookup 111=QH (fQ "reckoned" "Ground.reckoned" zg Aa 110) by kernel_rfl) (by kernel_rfl) (by kernel_rfl);let ht:=j.binds (ps:=["self","known","wanted","whole"]) λ_ _ _ _ _ _=>J6 (λ_ _ _ _=>rfl);let I:=kq (K:=KK P) (x:="__init__") (qual:="Ground.__init__") (st:=uS) (f:=94) (show(KK P).lookup 94=QH (fQ "__init__" "Ground.__init__" uS Aa 93) by kernel_rfl) (by kernel_rfl) (by kernel_rfl);let hi:=I.binds (ps:=["self","one","other","helpers"]) λ_ _ _ _ _ _=>J6 (λ_ _ _ _=>rfl);show⟨Oq "law" "law" (bZ ze) (aB ze) (ab ze) .none .none .none mL QI (.ref 231) .none,λs v=>.of_eq rfl,λbase _ _=>?_⟩;let y:Cls (KK P) 114:=⟨by kernel_rfl,by kernel_rfl,by kernel_rfl,by kernel_rfl⟩;let hC:Oa (KK P) QZ "Ground" = QH (QH (.ref 114)):=by kernel_rfl
 let cf:∀c fs C,([("Ground",["gates","begins","afters"])]:List (Str×List Str)).lookup c=QH fs->Oa (KK P) QZ c=QH (QH (.ref C))->Cls (KK P) C/\∀a∈fs,NoAttr (KK P) C a:=λc fs C L h=>by
  simp only[Ou] at L;split at L
  ·ext e;let e:=eq_of_beq e;subst e;cases L;cases hC.symm.trans h;show⟨y,λa ha=>by (simp only[NB,NQ,or_false] at ha;rcases ha with rfl|rfl|rfl<;>(change Ol (KK P) (.ref 114) _=QH QI;kernel_rfl))⟩
  ·cases L
 let T0:TabF l.prog w (KK P) mg base (a5 fns U0) 0:=⟨λx B b=>by (have b:(aZ x fns.fns).bind U0.fn=QH B:=b;cases q:aZ x fns.fns<;>rw[q] at b<;>cases b),cf,λx B b=>by (have b:(aZ x fns.fns).bind (λi=>(U0.fm i).map λB=>λK=>v3 K B)=QH B:=b;cases q:aZ x fns.fns<;>rw[q] at b<;>cases b),(λx b=>by
  simp only[aE,NB,NQ,or_false] at b;rcases b with rfl|rfl|rfl|rfl|rfl|rfl|rfl|rfl|rfl|rfl|rfl|rfl|rfl|rfl|rfl|rfl|rfl|rfl|rfl|rfl|rfl
  all_goals show PySem.W.mg_none_of X G (by kernel_rfl)),λx d b=>by
  let b:Ou x fns.cs=QH d:=b;simp only[fns,Ou] at b;split at b
  ·ext e;let e:=eq_of_beq e;subst e;cases b;show⟨_,.int 3,wD X G (v:=(.int 3 212)) (by kernel_rfl),⟨_,rfl⟩,λH S=>(by unfold Rp;rfl),by decide⟩
  ·split at b
   ·ext e;let e:=eq_of_beq e;subst e;cases b;show⟨_,.int 8,wD X G (v:=(.int 8 336)) (by kernel_rfl),⟨_,rfl⟩,λH S=>(by unfold Rp;rfl),by decide⟩
   ·cases b⟩
 let T1:=aI T0 ψ0 (jy X G 0 "is_whole" s0 21 20 GY ["thing"] 1 b0);let T2:=aI T1 ψ1 (jy X G 1 "is_below" s1 28 27 GY ["thing","bound"] 2 b1);let T3:=aI T2 ψ2 (jy X G 2 "bits_of" s2 33 32 GY ["number","width"] 2 b2);let T4:=aI T3 ψ3 (jy X G 3 "is_table" s3 40 39 (sv "gatepapers.tables" 210) ["thing","many"] 2 b3);let T5:=aI T4 ψ4 (jy X G 4 "is_tuple" s4 47 46 Ku ["thing","many"] 2 b4);let T6:=aI T5 ψ5 (jy X G 5 "places_in" s5 54 53 Ku ["circuit"] 1 b5);let T7:=aI T6 ψ6 (jy X G 6 "all_trials" s6 61 60 GZ ["many"] 1 b6);let T8:=aI T7 ψ7 (jy X G 7 "column_of" s7 68 67 GZ ["k","many","half","column","wide"] 2 b7);let T9:=aI T8 ψ8 (jy X G 8 "column_told" s8 73 72 GZ ["table","columns","whole","found","column"] 3 b8);let hj:=aI T9 ψ9 (jy X G 9 "is_spot" s9 80 79 Aa ["thing","sizes"] 2 b9);let Y:=aI hj Ka (jy X G 12 "is_helper" MN 133 132 lC ["thing","sizes"] 2 LZ);let hr:=aI Y Jh (jy X G 13 "is_statement" s13 138 137 lC ["thing","sizes","below","free","given"] 3 L0);let k:=aI hr Kb (jy X G 11 "is_paper" MM 128 127 lC ["one","other","thing","helpers","held","claims","ends","sizes","ahead","many"] 3 LY);let V:=k.addHX (z:="Ground.all_below") (C:=114) (i:=31) (ψ:=Kc) (nW p Mp k λX O g=>wm X O g) (by kernel_rfl) y ⟨by kernel_rfl,by kernel_rfl,by kernel_rfl⟩ T (by kernel_rfl) rfl λ_=>Le.refl _;let F:=aI V Ji (jy X G 14 "hangs_on_no_in" MP 143 142 lC ["ground","statement"] 2 L1);let hl:=F.addHX (z:="Ground.reckoned") (C:=114) (i:=32) (ψ:=B0) (nW j Mr F λX O g=>zj X O g) (by kernel_rfl) y ⟨by kernel_rfl,by kernel_rfl,by kernel_rfl⟩ ht (by kernel_rfl) rfl λ_=>Le.refl _;let ho:=aI hl Jj (jy X G 15 "holds_first" MQ 150 149 lC ["ground","statement","found"] 2 L3);let N:=aI ho GS (jy X G 19 "bits_by_free" MV 174 173 lC ["statements","free","whole","bits","kept","k","thing","column","spots","spot"] 2 L8);let hf:=N.addB (i:=20) (ψ:=Ke) m Ma (wD X G (v:=.ref 181) (by kernel_rfl)) hw rfl rfl (λX O g=>wn X O g) λ_=>Le.refl _;let Z:=aI hf Kf (jy X G 18 "trials_by" MU 167 166 lC ["ground","statements","free","given","wanted","whole","bits","kept","known","needed","number","found","first","second"] 5 L7);let hg:=aI Z Kg (jy X G 16 "holds_now" MS 157 156 lC ["ground","statements","statement","one","other","free","given","trials","found","kept"] 3 L4);let A:=hg.addB (i:=17) (ψ:=F7) r L6 (wD X G (v:=.ref 162) (by kernel_rfl)) R rfl rfl (λX O g=>zk X O g) λ_=>Le.refl _;let D:oH (KK P) 114 "put_circuit" 99:=⟨by kernel_rfl,by kernel_rfl,by kernel_rfl⟩;let hs:=uD (M:=1000) (n:=60) (an:=an) (pn:=[0]) o Mn A Mm;let t:=A.up;let hv:=t.addCX (i:=33) (ψ:=Kh) (es:=[]) (r0:=.own [] .fz) (zd I Mt t λX O g hX=>sD hC y D hs hu X O g hX) ⟨by kernel_rfl,by kernel_rfl,by kernel_rfl,by kernel_rfl⟩ y hC (wD X G (v:=.ref 114) (by kernel_rfl)) hi rfl rfl λ_=>Le.refl _;let U:=aI hv Db (jy X G 10 "looked" ML 123 122 lC ["one","other","paper","helpers","held","claims","ends","ground","statements","wanted"] 3 LX);let h0:=aI U Jl (jy X G 21 "_law_mixed" MW 188 187 mL ["_law_cell","_law_k","_law_number"] 2 Mb);let hy:=aI h0 Ki (jy X G 22 "_law_state" MX 193 192 mL ["_law_script","_law_total","_law_cell"] 1 Mc);let hd:=aM hy GU (jy X G 23 "_law_take" rF 200 199 mL ["_law_state_here","_law_many","_law_number"] 2 Jd);let hz:=aM hd Kj (jy X G 24 "_law_gates" GJ 205 204 mL ["_law_state_here","_law_first","_law_many","_law_gates_here","_law_k","_law_size","_law_table"] 3 GP);let he:=aM hz Kl (jy X G 25 "_law_circuit" GO 210 209 mL ["_law_state_here","_law_ins","_law_memories","_law_most","_law_outs","_law_many","_law_gates_here","_law_total","_law_kept","_law_ends"] 5 Md);let hb:=aI he GV (jy X G 26 "_law_beneath" MY 215 214 mL ["_law_circuit_here","_law_start","_law_first","_law_met","_law_at"] 2 Me);let hh:=aI hb GW (jy X G 27 "_law_case" MZ 222 221 mL ["_law_script","_law_state_here","_law_ins","_law_memories","_law_circuit_here","_law_total"] 1 Mf);let hm:=aI hh Jm (jy X G 28 "_law_paper" M0 227 226 mL ["_law_circuit_here","_law_place","_law_helped","_law_ins","_law_memories","_law_gates_here","_law_outs","_law_first","_law_numbers","_law_k","_law_kept","_law_spot","_law_free","_law_claims","_law_gate"] 3 Mg);show(uC (n:=60) (an:=an) u Mj hm Mi).imp λvs H Q E s=>nV (λ_=>Le.refl _) s
theorem MB{l:PySem.W.OpenLaw}{YP:QW->QY->Prop}{d:DefRec}{K:Params->Np}(i:l.most=QH 63)(c:d.params.defaults=[])(b:∀(w:QW) (h:QY),YP w h->(K w.params).In h)(F:∀(w:QW) (mg:Str->Option QK) (e:QO) (h:QY),(K w.params).In h->h.Ns QZ mg->mg d.name=QH (.ref e)->
   ∃fd:Q3,(∀(s:QP) (u:QK),BindsTo s fd ⟨[u],[]⟩ [("_law_script",u)])/\∀base:QY,(K w.params).In base->base.Ns QZ mg->FnOk l.prog w (K w.params) mg base iO 35 e fd ["_law_script"] (nB (K w.params) Jn)) :
  PySem.W.WalkO q loose XP YP l.row.toRowW d [] (λf j=>PySem.call f j):=
 L2.AH (n:=63) (k:=35) (x:="_law_script") (CX:=λ_=>iO) (sp:=λw=>nB (K w.params) Jn) i (by decide) c ⟨rfl,by decide,by decide,rfl⟩ b F (λ_ _ a ns m _ g=>Fx g (z9 ns m)) λ_ _ _ _ _ z=>z
end K44
open PySem PySem.W PyProof.Rows
set_option maxRecDepth 100000 in
set_option maxHeartbeats 0 in
theorem PySem.Challenge.cw_gatepapers_k44_held_ones_begin_alike_holds : PySem.Challenge.rw_gatepapers_k44_held_ones_begin_alike.Holds := by
 show holds_law W0w λsaid=>?_;show holds_open (d:=⟨"law",L2.bZ K44.ze,L2.aB K44.ze,L2.ab K44.ze,K44.Gz⟩) (kwd:=[]) (q:=K44.qv) (loose:=K44.lo) (XP:=XL K44.qv []) (YP:=Hook.says K44.HH) K44.left (Hook.of K44.HH) (Hook.keeps K44.HH) (λs e=>xl_of s (Qf.mp e).1) XL.keeps (by kernel_rfl) (by kernel_rfl) (by kernel_rfl) (λs e=>recFacts_of (Qf.mp e).2) (by kernel_rfl) said (by kernel_rfl) ⟨rfl,rfl,rfl,rfl,rfl,by kernel_rfl⟩ ?hw ?hc
 case hw=>w_witness2
 case hc=>
  show K44.MB (l:=PySem.Challenge.rw_gatepapers_k44_held_ones_begin_alike) rfl rfl (λw h Yq=>PySem.W.kIn_of Yq) ?F;intro w mg fa h KX G hmg;show K44.GA KX G hmg
end
