import PyProof.Rows.All
import Wide.All
import OpenK.AllK
import KE.KRevSl
import KE.KDictOf
import KE.KSortTup
import KE.KDictList
import KE.KPairComp
import KE.BitLaws
import PySem.Challenge.RW_gatepapers_k47_codes_by_helpers
set_option tactic.hygienic false
set_option linter.all false
set_option compiler.extract_closed false
set_option backward.eqns.nonrecursive false
set_option Elab.async false
set_option maxRecDepth 100000
set_option autoImplicit true
set_option relaxedAutoImplicit true
set_option genInjectivity false
set_option genSizeOf false
set_option bootstrap.genMatcherCode false
set_option maxHeartbeats 0
noncomputable section
open PySem.W renaming Frag->P9,nsIn->QX,findIn->Q6,keepIn->Q7,emptyDict->Q8,fnOf->Rb,instObj->Rm,kitOne->RH,codeIn->Sd,plainGet->Sk,kia_one->Sq,plainGet_of->SB,lookIn->SD,callWith_K->SJ,hasDictIn->SU,takerIn->S9,cellsFrom_some->Tf,isFn->TB,plainOver->TQ,handedIn->TW,makesIn->Ug
open List renaming length_map->Qa,getElem?_eq_some_iff->Qb,getElem?_map->Qc,mem_cons->Qf,mem_cons_of_mem->Qh,getElem?_eq_getElem->Qi,size_toArray->Qk,mem_append_right->Ql,range->Qo,mem_append->Qp,mem_range->Qq,mem_cons_self->Qr,mem_singleton->Qs,getD_eq_getElem?_getD->Qt,mem_map->Qv,not_mem_nil->Qw,map_append->Qy,length_append->Qz,map_map->QA,all_eq_true->QB,length_range->QC,mem_of_getElem?->QD,map_cons->QE,getElem?_set_self->QF,getElem?_set_ne->QH,length_cons->QI,lookup_cons->QJ,nodup_cons->QK,mem_append_left->QL,filterMap_cons->QN,length_take->QO,take_length->QQ,replicate->QR,findIdx?_cons->QS,getElem?_eq_none->QT,getElem?_range->QU,drop_eq_getElem_cons->QW,nodup_append->Q0,append_nil->Q1,all_cons->Q3,append_assoc->Q9,map_congr_left->Ra,lookup->Rf,replicate_succ->Rg,getElem?_append_right->Rj,getElem?_append_left->Rl,cons_append->Rs,length_set->Ru,length_singleton->Rv,nil_append->Rw,find?_cons->Rx,foldl_append->Rz,getElem?_eq_none_iff->RC,getElem?_cons_succ->RK,zip_cons_cons->RM,length_eq_one_iff->RP,findIdx?_map->RS,take_add_one->RU,ext_getElem?->RV,mem_iff_getElem?->RX,nodup_range->R1,mergeSort_perm->R7,mem_filter->R8,map->Sb,flatten_cons->Sf,drop_of_length_le->Si,filter->Sj,getElem?_zipWith->Sm,take_append_drop->Sn,eraseIdxIfInBounds_toArray->So,foldl_cons->Ss,map_nil->Su,length_nil->Sv,length->SG,mem_filterMap->SI,set_cons_succ->SK,any_cons->SS,take_sublist->SV,getElem?_take_of_lt->SX,getElem_mem->S0,map_zipWith->S6,getElem?_replicate->S7,length_eq_zero_iff->S8,of_mem_zip->Ta,range_succ->Te,length_replicate->Th,nodup_nil->Ti,drop_zero->Tj,dropLast_eq_take->Tk,take_zero->Tl,foldl->To,mem_iff_getElem->Tp,getElem?_zipIdx->Tq,length_zipWith->Tw,filter_eq_self->Tx,filter_sublist->Tz,zipWith->TF,map_singleton->TK,all_map->TL,any_eq_false->TN,getElem?_inj->TR,length_drop->TX,drop_length->Ua,getElem_map->Uc,countP_cons->Ue,zipWith_map->Uf
open Bool renaming and_eq_true->Qd,false_ne_true->Qx,and_eq_true_iff->QP,not_eq_true'->QZ,false_eq_true->Q2,false_and->Rk,or_eq_true->Rn,not_true->Ry,or_eq_false_iff->R0,true_and->R5,eq_iff_iff->R9,and_false->Se,xor_false->SF,or_false->SR,or_true->S5,false_or->Ts,and_true->Tt,xor_self->Tv,eq_false_iff->TV,true->Uj,false->Uk
open Nat renaming le_refl->Qe,lt_of_lt_of_le->Qn,ne_of_lt->Qu,le_trans->QG,zero_le->QM,lt_of_le_of_lt->Rc,lt_irrefl->Re,ne_of_gt->Rh,pow_le_pow_right->Rq,lt_succ_self->Rr,le_of_lt->Rt,add_comm->RI,add_sub_cancel_left->RL,le_succ->RN,le_succ_of_le->RQ,lt_succ_of_lt->RR,le_add_right->RY,add_assoc->R3,testBit_xor->Sa,sub_self->Sc,lt_trans->Sw,zero_add->Sz,min_eq_left->SA,add_le_add_left->SC,testBit_two_pow_sub_one->SN,add_sub_cancel->SO,le_of_succ_le->SW,mul_comm->SZ,lt_of_not_le->S1,pow_succ->S3,zero_testBit->S4,testBit_and->Tc,mul_assoc->Tu,sub_zero->TD,mul_zero->TJ,succ_le_succ->TY
open PySem.Heap renaming get?_push_of_some->Qg,lt_size->Qj,get?_push_size->Qm,size_push->RE,get?_update_other->RO,get?_update_self->RW,get?_push_ne->TU,size_update->Ud
open Int renaming toNat_natCast->QV,fdiv_eq_ediv_of_nonneg->SQ,lt_trans->S2,natCast_inj->Tb,natCast_mul->Td,natAbs_natCast->TH,emod_lt_of_pos->TM
open Option renaming bind_some->QY,isSome_map->Sh,map_some->Sy,getD_none->SY,map_eq_some_iff->Tg,isSome_some->TC,getD_some->TZ,some->B,none->L
open Array renaming getElem?_toList->Q4,getElem?_eq_none_iff->Q5,getElem?_eq_getElem->RD,length_toList->RJ,perm_iff_toList_perm->R4,getElem?_eq_some_iff->R6,forIn_toList->SH,getD_eq_getD_getElem?->SM,mem_toList_iff->Tn,toList_inj->Ub
open PySem renaming wpAny_bind->Ul,Value->Um,Expr->Uo,Addr->Up,Shared->Uq,wpAny_pure->Ur,wpAny->Us,model->Ut,Program->Uu,starEach->Uv,Stmt->Uw,World->Ux,Around->Uy,Heap->Uz,wpAny_newObj_type->UA,mainGlobals->UB,Scope->UC,Operator->UD,cellsFrom->UE,wpAny_holding->UF,wpAny_call_entry->UG,FuncData->UH,assignEach->UI,NameKind->UJ,wpAny_truthy_bool->UK,behindInMarks->UL,wpAny_passesOwn->UM,rawInt->UN,CmpOp->UO,wpAny_pyIter_list->UP
local macro_rules|`(tactic|let $d:letDecl)=>`(tactic|have $d:letDecl)|`(tactic|show $e)=>`(tactic|refine $e)|`(tactic|nofun)=>`(tactic|decide +kernel)|`(tactic|ext1 $[$x:ident]*)=>`(tactic|rename_i $[$x:ident]*)
local macro_rules|`(tactic|let⟨$[$x:ident],*⟩:=$e)=>`(tactic|obtain⟨$[$x:ident],*⟩:=$e)|`(tactic|symm)=>`(tactic|kernel_rfl)|`(∅)=>`(by lia)|`(⋯)=>`(by decide)|`(∎)=>`(by simp)|`(↥$x)=>`(by simpa using $x)|`(tactic|cbv$[$l:location]?)=>`(tactic|dsimp only$[$l:location]?)|`(tactic|dsimp[$x,*]$[$l:location]?)=>`(tactic|simp only[$x,*]$[$l:location]?)|`(#[$x,*])=>`(⟨$x,*⟩)|`(-$x:num)=>`(unop% Neg.neg $x:num)|`(-($a : $b))=>`(unop% Neg.neg ($a : $b))|`(-($a^$b))=>`(unop% Neg.neg ($a^$b))|`(-$a^$b)=>`(unop% Neg.neg ($a^$b))|`(-$x)=>`(List $x)|`(@&$x)=>`(Option $x)|`(tactic|rwa[$[$x:term],*])=>`(tactic|refine⟨$x,*⟩)|`(tactic|delta $f:ident at $h:ident)=>`(tactic|(unfold $f at $h:ident;ext $h $h))|`(#v[$x,*])=>`(by rw[$[$x:term],*])|`(⇑$x)=>`(Us (Ut ($x).prog ($x).w) ($x).A)|`(tactic|delta $f:ident)=>`(tactic|unfold $f)|`(tactic|ext $x:ident)=>`(tactic|cases $x:ident)|`(tactic|ext $x:ident $_:ident)=>`(tactic|set_option tactic.hygienic true in split at $x:ident)|`($x⁻¹)=>`(($x).heap.objs.size)|`(Σ $x,$p)=>`(∃ $x,$p)
local macro_rules|`(command|def $i:declId $b:bracketedBinder* : $t := by $s)=>`(command|theorem $i:declId $b:bracketedBinder* : $t := by $s)|`(command|meta def $i:declId $s:optDeclSig $v:declVal)=>`(command|noncomputable def $i:declId $s:optDeclSig $v:declVal)
theorem W0w:PySem.Challenge.rw_gatepapers_k47_codes_by_helpers.wellSaid=true:=by kernel_rfl
namespace PySem
open Sem (wp)
section
variable {prog:Uu} {w:Ux} {K:Type} [DecidableEq K] (knd:KeyKind prog w K)
inductive Its2 (h:Heap):Nat->-(K ⊕ -K)->-Value->Prop
 |nil {m:Nat}:Its2 h m [] []
 |key {m:Nat} {k:K} {v:Um} {xs:-(K ⊕ -K)} {vs:-Um}:m%2=0->knd.is k v=Uj->Its2 h (m / 2) xs vs->Its2 h m (.inl k::xs) (v::vs)
 |tup {m:Nat} {ks:-K} {b:Up} {xs:-(K ⊕ -K)} {vs:-Um}:m%2=1->IsTupleKey knd h ks b->Its2 h (m / 2) xs vs->Its2 h m (.inr ks::xs) (.ref b::vs)
def IsDeep(m:Nat)(h:Uz)(xs:-(K ⊕ -K))(a:Up):Prop:=Σo items n,h.get? a=B o/\o.cls=.type "tuple"/\o.data=.seq items n/\Its2 knd h m xs items.toList
meta def dq:K ⊕ -K->Int
 |.inl k=>knd.hash k
 |.inr ks=>tupleKeyHash knd ks
meta def cJ:K ⊕ -K->Nat
 |.inl _=>1
 |.inr ks=>ks.length+1
def kU(xs:-(K ⊕ -K)):Int:=reduceHash (Builtin.Tuple.tupleHashOf (xs.map (dq knd)))
variable {knd}
def Its2.inj(g:Its2 knd h m x vs)(d:Its2 knd h m y vs):x=y:=by
 induction g generalizing y with
 |nil=>ext d;rfl
 |key e c _ a=>
  cases d with
  |key _ b f=>rw[knd.inj _ _ _ c b,a f]
  |tup e2 _ _=>lia
 |tup e c _ a=>
  cases d with
  |key e2 _ _=>lia
  |tup _ b f=>rw[c.inj b,a f]
def Its2.keeps(k:∀ks b,IsTupleKey knd h ks b->IsTupleKey knd h' ks b)(d:Its2 knd h m x vs):Its2 knd h' m x vs:=by
 induction d with
 |nil=>show .nil
 |key e c _ a=>show .key e c a
 |tup e c _ a=>show .tup e (k _ _ c) a
def IsDeep.ty{s:Uq}(x:IsDeep knd m s.heap xs a):s.TypeIs (.ref a) "tuple":=by
 unfold IsDeep at x;rcases x with⟨o,_,_,g,c,_⟩;rwa[o,g,c]
def IsDeep.one(p:IsDeep knd m h x a)(q:IsDeep knd m h y a):x=y:=by
 unfold IsDeep at p q;rcases p with⟨o,i,n,g,_,d,r⟩;rcases q with⟨j,f,k,b,_,e,c⟩;cases g.symm.trans b;cases d.symm.trans e;show r.inj c
def IsDeep.stay{h h':Uz}{o:Obj}{es ep}(x:IsDeep knd m h xs a)(g:h.get? d=B o)(e:o.data=.dict es ep)(q:Heap.SameBut d h h'):IsDeep knd m h' xs a:=by
 unfold IsDeep at x⊢;rcases x with⟨k,i,n,f,c,j,r⟩;rwa[k,i,n,?_,c,j,r.keeps λl b z=>z.keeps g e q];show(q.2 a λz=>?_).trans f;rw[z,g] at f;ext f;rw[e] at j;ext j
variable {A:Uy} {E:Um->Uq->Prop} {s:Uq}
def hR{xs:-(K ⊕ -K)}{Q:Int->Uq->Prop}(U:A.units+8<cLine)(hk:IsDeep knd m s.heap xs a)(h:Q (kU knd xs) { s with toks:=s.toks+((xs.map cJ).sum+1) }) :
  Us (Ut prog w) A (pyHash (.ref a)) Q E s:=by
 let C:=hk.ty;let P:=F.slot_tuple_hash.lookup;rcases hk with⟨o,T,n,g,c,d,r⟩
 let t:∀(rest:-Um) (b:Array Int) (z:Uq) (v:Um),(Σf left l,xs=f++left/\Its2 knd s.heap l left (v::rest)/\b.toList=f.map (dq knd)/\z={ s with toks:=s.toks+(f.map cJ).sum })->
   Σi k,(∀(A:Uy) (R:Int->Uq->Prop),A.units<cLine->R i { z with toks:=z.toks+k }->Us (Ut prog w) A (pyHash v) R E z)/\Σf left l,xs=f++left/\Its2 knd s.heap l left rest/\(b.push i).toList=f.map (dq knd)/\{ z with toks:=z.toks+k }={ s with toks:=s.toks+(f.map cJ).sum }:=by
  rintro rest b z v ⟨f,left,l,e,it,D,rfl⟩
  cases it with
  |@key _ k _ j _ _ H p=>
   rwa[knd.hash k,1,λA R Z q=>knd.pyHash H q,f++[.inl k],j,l / 2,by simp[e],p,by simp[D,dq],by simp[cJ,R3]]
  |@tup _ M _ j _ _ H p=>
   rwa[tupleKeyHash knd M,M.length+1,λA R u q=>wpAny_pyHash_tuple u H q,f++[.inr M],j,l / 2,by simp[e],p,by simp[D,dq],by simp[cJ,R3]]
 delta pyHash
 first|unfold pyHashByItsType|skip
 first|show Ul (wpAny_cRoomFor_or (.inr ∅) ?_)|skip
 show Ul (wpAny_specialOf C P ((if_neg (show ¬(B (Value.builtin "tuple.__hash__")==B Value.none)=Uj by rw[beq_builtin_none];show Qx)).symm▸Ul (wpAny_specialOf C P (Ul (wpAny_callSpecialIfBoundUnlessNone?_slot C F.slot_tuple_hash (UG F.slot_tuple_hash C F.entry_tuple_hash (show Us _ _ (Builtin.Tuple.tupleItemsOf (.ref a) >>= _) _ _ s from Ul (wpAny_tupleItemsOf g d (Ul ?_))) (F.args_tuple_hash_1 _)))))));rw[<- SH];show wpAny_forIn_list _ (λrest (b:Array Int) z=>Σf left l,xs=f++left/\Its2 knd s.heap l left rest/\b.toList=f.map (dq knd)/\z={ s with toks:=s.toks+(f.map cJ).sum }) _ (λv rest b z O=>?_) (λb z O=>?_) _ _ #[[],xs,m,rfl,r,rfl,rfl]
 .let⟨i,k,N,x⟩:=t rest b z v O
  show Ul (N _ _ (by first|lia|(change _+1<_;lia)) (by first|show Ur x|show Ul (Ur (Ur x))))
 .let⟨f,left,l,e,it,D,rfl⟩:=O;ext it;let S:f=xs:=by rw[e,Q1]
  subst S;change Us _ _ (retInt (Builtin.Tuple.tupleHashOf b.toList)) _ _ _;rw[D];show wpAny_ret_mkInt ?_;unfold kU reduceHash at h;generalize Builtin.Tuple.tupleHashOf (f.map (dq knd))=y at h⊢
  change Us _ _ (if(decide (-(2:Int)^63<=y)&&decide (y<2^63))=Uj then _ else _) Q E _
  split
  .ext1 I;rw[if_pos I] at h;show Ur (by simpa[R3] using h)
  .ext1 I;rw[if_neg I] at h;show Ul (wpAny_rule (Ur (by simpa[R3] using h)))
def Its2.two{h:Uz}{us vs:-Um}(p:Its2 knd h m x us)(q:Its2 knd h m y vs)(z:(u,v)::rest=us.zip vs) :
  Σ(i j:K ⊕ -K) (c b:-(K ⊕ -K)) (us2 a:-Um),x=i::c/\y=j::b/\us=u::us2/\vs=v::a/\Its2 knd h (m / 2) c us2/\Its2 knd h (m / 2) b a/\rest=us2.zip a/\
   ∀(A:Uy) (E:Um->Uq->Prop) (s:Uq) (Q:Bool->Uq->Prop),s.heap=h->A.units<cLine->Q (decide (i=j)) s->Us (Ut prog w) A (eqBool u v) Q E s:=by
 cases p with
 |nil=>ext z
 |@key _ r C c us2 e l n=>
  cases q with
  |nil=>ext z
  |@key _ o t b a e2 k f=>
   ext z;rwa[_,_,_,_,_,_,rfl,rfl,rfl,rfl,n,f,rfl,λA E s Q d u g=>knd.eqBool l k ↥g]
  |tup e2 _ _=>lia
 |@tup _ r b1 c us2 e l n=>
  cases q with
  |nil=>ext z
  |key e2 _ _=>lia
  |@tup _ o b2 b a e2 k f=>
   ext z;rwa[_,_,_,_,_,_,rfl,rfl,rfl,rfl,n,f,rfl,λA E s Q d u g=>wpAny_eqBool_tuple u (d▸l) (d▸k) ↥g]
def Its2.ends{us vs:-Um}(p:Its2 knd h m x us)(q:Its2 knd h m y vs)(z:us.zip vs=[]):(us.length==vs.length)=decide (x=y):=by
 cases p<;>cases q<;>first|rfl|(simp at z;done)|simp
def nD{P:Fin->Uq->Prop}(hu:A.units+4<cLine)(V:IsDeep knd m s.heap x a)(R:IsDeep knd m s.heap y b)(h:P (.done (.ret (.bool (decide (x=y))))) s) :
  Us (Ut prog w) A (Builtin.«tuple.__eq__» #[[.ref a,.ref b],[]]) P E s:=by
 let X:=R.ty;rcases V with⟨o,O,n,g,c,d,p⟩;rcases R with⟨o2,H,n2,W,c2,Z,q⟩;show(show Us _ _ (isInstance (.ref b) (.type "tuple") >>= _) _ _ s from Ul (wpAny_isInstance X isSubtype_tuple_tuple ?_));dsimp[Ry,Q2,if_false];show Ul (wpAny_tupleItemsOf g d (Ul (wpAny_tupleItemsOf W Z (Ul ?_))));show wpAny_forIn_list _ (λrest r z=>r.1=L/\z=s/\Σl C t f k,rest=List.zip f k/\Its2 knd s.heap l C f/\Its2 knd s.heap l t k/\decide (C=t)=decide (x=y)/\(f.length==k.length)=(O.size==H.size))
  _ (λuv rest r z M=>?_) (λr z M=>?_) _ _ #[rfl,rfl,m,x,y,O.toList,H.toList,rfl,p,q,rfl,∎]
 .let⟨u,v⟩:=uv;let⟨S,rfl,l,C,t,f,k,e,N,F,D,Q⟩:=M;let⟨i,j,x2,T,us2,I,rfl,rfl,rfl,rfl,p2,U,rfl,K⟩:=N.two F e;show Ul (K _ _ _ _ rfl ∅ ?_)
  cases hk:decide (i=j) with
  |true=>
   let hk:=of_decide_eq_true hk;subst hk;dsimp[Ry,Q2,if_false];show Ur #[rfl,rfl,l / 2,x2,T,us2,I,rfl,p2,U,D▸by simp,↥Q]
  |false=>
   let hk:=of_decide_eq_false hk;dsimp[Bool.not_false,if_true];let Y:decide (x=y)=Uk:=D▸by simp[hk]
   show Ul (Ur (Ur (Ur (Y▸h))))
 .let⟨r1,r2⟩:=r;let⟨S,rfl,l,C,t,f,k,e,N,F,D,Q⟩:=M;cases(S);show Ur ?_;change P (.done (.ret (.bool (O.size==H.size)))) z;rw[<- Q,N.ends F e.symm,D];show h
def hUq{Q:Bool->Uq->Prop}(k:A.units+8<cLine)(d:IsDeep knd m s.heap x a)(i:IsDeep knd m s.heap y b)(h:Q (decide (x=y)) s) :
  Us (Ut prog w) A (eqBool (.ref a) (.ref b)) Q E s:=by
 delta eqBool
 try with_reducible show UF ?_
 show(?_);split
 .ext1 g;cases eq_of_beq g;cases d.one i;show Ul (wpAny_rule (Ur ↥h))
 .let c:=nD (E:=E) (A:=A.in1) (P:=λf j=>Σv,f=Fin.done (Flow.ret v)/\v≠.notImplemented/\Us (Ut prog w) A (truthOfDropped v) Q E j) (by change A.units+1+4<cLine;lia) d i #[_,rfl,(λe=>nomatch e),UK h]
  show Ul (wpAny_richCompare_same_room d.ty i.ty F.slot_tuple_eq (UG F.slot_tuple_eq d.ty F.entry_tuple_eq c (F.args_tuple_eq_2 _ _)) ∅)
def o3{n:Nat}{o:Obj}{b:Array Um}{Q:Bool->Uq->Prop}(g:s.heap.get? a=B o)(c:o.cls=.type "tuple")(d:o.data=.seq b ep)(hi:∀v∈b.toList,∀R:Bool->Uq->Prop,R Uj s->Us (Ut prog w) A (eqIsQuiet n v) R E s)(q:Q Uj s) :
  Us (Ut prog w) A (eqIsQuiet (n+1) (.ref a)) Q E s:=by
 let i:s.TypeIs (.ref a) "tuple":=#[o,g,c];delta eqIsQuiet;show Ul (wpAny_specialOf i F.slot_tuple_eq.lookup (Ul (wpAny_isInstance i isSubtype_tuple_tuple ?_)));dsimp[Ry,Q2,if_false];show Ul (wpAny_seqItems g d (Ul (?_)));rw[<- SH];show wpAny_forIn_list _ (λrest r z=>r.1=L/\z=s/\∀v∈rest,v∈b.toList) _ (λv rest r z e=>?_) (λr z e=>?_) _ _ #[rfl,rfl,λv j=>j]
 .let⟨h,rfl,f⟩:=e;show Ul (hi v (f v Qr) _ ?_);dsimp[Ry,Q2,if_false];show Ur #[rfl,rfl,λu k=>f u (Qh _ k)]
 .let⟨l,m⟩:=r;let⟨h,rfl,z_⟩:=e;cases(h);show Ur q
def Its2.items{vs:-Um}(p:Its2 knd h m x vs):∀v∈vs,(Σk,knd.is k v=Uj)\/Σks b,v=.ref b/\IsTupleKey knd h ks b:=by
 induction p with
 |nil=>intro v a;ext a
 |key _ d _ c=>intro v a;show(Qf.mp a).elim (λe=>.inl #[_,e▸d]) (c v)
 |tup _ d _ c=>intro v a;show(Qf.mp a).elim (λe=>.inr #[_,_,e,d]) (c v)
def rP{Q:Bool->Uq->Prop}(hk:IsDeep knd m s.heap xs a)(h:Q Uj s):Us (Ut prog w) A (eqIsQuiet 8 (.ref a)) Q E s:=by
 rcases hk with⟨o,l,n,g,c,d,r⟩;show o3 g c d (λv f R q=>?_) h;rcases r.items v f with⟨k,e⟩|⟨z,b,rfl,x,i,y,p,j,u,t⟩
 .rw[eqIsQuiet_byValue _ (knd.byValue _ _ e)];show Ur q
 .show o3 p j u (λv f R q=>?_) q;rw[eqIsQuiet_byValue _ (t.byValue v f)];show Ur q
end
def bH{prog:Uu}{w:Ux}{K:Type}[DecidableEq K](m:Nat)(knd:KeyKind prog w K):HeapKind prog w (-(K ⊕ -K)) where
 is:=IsDeep knd m
 hash:=kU knd
 draws:=λxs=>(xs.map cJ).sum+1
 room:=λA=>A.units+8<cLine
 inj:=λp q=>p.one q
 keeps:=λx g e q=>x.stay g e q
 pyHash:=λO hk h=>hR O hk h
 eqBool:=λO R U h=>hUq O R U h
 quiet:=λhk h=>rP hk h
end PySem
open PySem PySem.Spec
namespace L2
open PyProof.Rows
abbrev aD:=Sum Int Str
meta def mF:aD->Um->Bool
 |.inl k,v=>Value.isInt k v
 |.inr x,v=>Value.isStrOf x v
meta def Nc(w:Ux):aD->Int
 |.inl k=>hashInt k
 |.inr x=>hashStr w x
theorem bp:∀{k:aD} {v:Um},mF k v=Uj->(Σi t,k=Sum.inl i/\v=Value.int i t)\/(Σx t,k=Sum.inr x/\v=Value.str x t)
 |.inl i,v,h=>by
  let⟨t,e⟩:=Value.isInt_shape (k:=i) (v:=v) h;show .inl #[i,t,rfl,e]
 |.inr x,v,h=>by
  let⟨t,e⟩:=Value.isStrOf_shape (x:=x) (v:=v) h;show .inr #[x,t,rfl,e]
def wu(i:Int)(t:Tok):mF (.inl i) (.int i t)=Uj:=by simp[mF,Value.isInt]
def ww(x:Str)(t:Tok):mF (.inr x) (.str x t)=Uj:=by simp[mF,Value.isStrOf]
def FM(a b:Int):decide ((Sum.inl a:aD)=Sum.inl b)=(a==b):=by
 by_cases e:a=b
 .subst e;simp
 .let h:¬(Sum.inl a:aD)=Sum.inl b:=λq=>e (Sum.inl.inj q);rw[decide_eq_false h];show(beq_eq_false_iff_ne.mpr e).symm
def FN(a b:Str):decide ((Sum.inr a:aD)=Sum.inr b)=decide (a=b):=by
 by_cases e:a=b
 .subst e;simp
 .let h:¬(Sum.inr a:aD)=Sum.inr b:=λq=>e (Sum.inr.inj q);rw[decide_eq_false h,decide_eq_false e]
theorem FO(a:Int)(b:Str):decide ((Sum.inl a:aD)=Sum.inr b)=Uk:=decide_eq_false (λq=>nomatch q)
theorem FQ(a:Str)(b:Int):decide ((Sum.inr a:aD)=Sum.inl b)=Uk:=decide_eq_false (λq=>nomatch q)
def aN(prog:Uu)(w:Ux):PySem.KeyKind prog w aD where
 is:=mF
 hash:=Nc w
 inj:=λv a b ha R=>by
  rcases bp ha with⟨i,t,rfl,rfl⟩|⟨x,t,rfl,rfl⟩
  .rcases bp R with⟨j,u,rfl,e⟩|⟨y,u,rfl,e⟩
   .injection e with e1 _;rw[e1]
   .show nomatch e
  .rcases bp R with⟨j,u,rfl,e⟩|⟨y,u,rfl,e⟩
   .show nomatch e
   .injection e with e1 _;rw[e1]
 byValue:=λk v h=>by
  rcases bp h with⟨i,t,rfl,rfl⟩|⟨x,t,rfl,rfl⟩<;>rfl
 pyHash:=λO h=>by
  rcases bp O with⟨i,t,rfl,rfl⟩|⟨x,t,rfl,rfl⟩
  .show wpAny_pyHash_int h
  .show wpAny_pyHash_str h
 eqBool:=λU O h=>by
  rcases bp U with⟨i,t,rfl,rfl⟩|⟨x,t,rfl,rfl⟩
  .rcases bp O with⟨j,u,rfl,rfl⟩|⟨y,u,rfl,rfl⟩
   .rw[FM] at h;show wpAny_eqBool_int h
   .rw[FO] at h;show SeqAt.EqAt.int_str i t y u _ _ _ _ h
  .rcases bp O with⟨j,u,rfl,rfl⟩|⟨y,u,rfl,rfl⟩
   .rw[FQ] at h;show SeqAt.EqAt.str_int x t j u _ _ _ _ h
   .rw[FN] at h;show wpAny_eqBool_str h
 «strs»:=λk x t v h=>by
  rcases bp h with⟨i,u,rfl,e⟩|⟨y,u,rfl,e⟩
  .show nomatch e
  .injection e with e1 _;subst e1
   cases v<;>rfl
theorem o5(prog:Uu)(w:Ux)(i:Int)(t:Tok):(aN prog w).is (.inl i) (.int i t)=Uj:=wu i t
theorem o6(prog:Uu)(w:Ux)(x:Str)(t:Tok):(aN prog w).is (.inr x) (.str x t)=Uj:=ww x t
inductive V where
 |non|bl (b:Bool)|int (i:Int)|str (x:Str)|byt (b:Array UInt8)|flt (b:UInt64)|ref (a:Up)|ty (n:String)
 deriving DecidableEq
def RelV:V->Um->Prop
 |.non,u=>u=Value.none
 |.bl b,u=>u=Value.bool b
 |.int i,u=>Σt,u=Value.int i t
 |.str x,u=>Σt,u=Value.str x t
 |.byt b,u=>Σt,u=Value.bytes b t
 |.flt b,u=>Σt,u=Value.float b t
 |.ref a,u=>u=Value.ref a
 |.ty n,u=>u=Value.type n
abbrev Vals:-V->-Um->Prop:=Paired RelV
theorem Vals.length{xs:-V}{us:-Um}(r:Vals xs us):xs.length=us.length:=Paired.length r
theorem Vals.get:∀{xs:-V} {us:-Um} {i:Nat} {x:V},Vals xs us->xs[i]?=B x->Σu,us[i]?=B u/\RelV x u
 |_,_,_,_,.nil,e=>by simp at e
 |_,_,0,_,.cons r _,e=>by simp at e;subst e;rwa[_,rfl,r]
 |_,_,i+1,x,.cons _ t,e=>by
  let⟨u,b,a⟩:=Vals.get (i:=i) (x:=x) t ↥e;rwa[u,↥b,a]
theorem Vals.set(r:RelV x u):∀{xs:-V} {us:-Um} (i:Nat),Vals xs us->Vals (xs.set i x) (us.set i u)
 |_,_,_,.nil=>.nil
 |_,_,0,.cons _ t=>.cons r t
 |_,_,i+1,.cons q t=>.cons q (Vals.set r i t)
theorem Vals.append:∀{xs ys:-V} {us ws:-Um},Vals xs us->Vals ys ws->Vals (xs++ys) (us++ws)
 |_,_,_,_,.nil,s=>s
 |_,_,_,_,.cons r t,s=>.cons r (Vals.append t s)
theorem Vals.take:∀{xs:-V} {us:-Um} (n:Nat),Vals xs us->Vals (xs.take n) (us.take n)
 |_,_,0,_=>.nil
 |_,_,_+1,.nil=>.nil
 |_,_,n+1,.cons r t=>.cons r (Vals.take n t)
theorem Vals.drop:∀{xs:-V} {us:-Um} (n:Nat),Vals xs us->Vals (xs.drop n) (us.drop n)
 |_,_,0,r=>r
 |_,_,_+1,.nil=>.nil
 |_,_,n+1,.cons _ t=>Vals.drop n t
theorem Vals.none_of:∀{xs:-V} {us:-Um} {i:Nat},Vals xs us->xs[i]?=L->us[i]?=L:=λ{xs us i} r e=>by
 let a:=r.length;let b:xs.length<=i:=RC.mp e;show RC.mpr ∅
def RelO:@&V->@&Um->Prop
 |some v,B u=>RelV v u
 |none,L=>True
 |_,_=>False
def KV{κ:Type}:-(κ×V)->-(κ×Um)->Prop:=Paired λ(p:κ×V) (q:κ×Um)=>p.1=q.1/\RelV p.2 q.2
meta def kV:aD->V
 |.inl i=>.int i
 |.inr x=>.str x
inductive HO where
 |lst (xs:-V)
 |tup (xs:-V)
 |dK (kvs:-(aD×V))|dT (m ep:Nat) (kvs:-(-(aD ⊕ -aD)×V))
 |ins (C dx:Up) (fs:-(Str×V))
 |own (x:Up)
 |frz (o:Obj) (u:HO)
 |tbl (ps:Array Um)
 |ext (U:Uz->Prop)
abbrev Hp:=Up->@&HO
meta def upd(H:Hp)(a:Up)(o:HO):Hp:=λb=>if b=a then B o else H b
def al:upd H a o a=B o:=by delta upd;rw[if_pos rfl]
def ac{H:Hp}(h:b≠a):upd H a o b=H b:=by delta upd;rw[if_neg h]
def Er{H:Hp}{a b:Up}{o u:HO}(h:H a=B o)(h':H b=B u)(d:o≠u):a≠b:=by
 intro e;subst e;rw[h] at h';show d (Option.some.inj h')
def aw{H:Hp}{a b:Up}{o:HO}(h:H a=B o)(h':H b=L):a≠b:=by
 intro e;subst e;rw[h] at h';ext h'
def TkIts(H:Hp):Nat->-(aD ⊕ -aD)->-V->Prop
 |_,[],vs=>vs=[]
 |m,.inl k::xs,vs=>Σr,vs=kV k::r/\m%2=0/\TkIts H (m / 2) xs r
 |m,.inr ks::xs,vs=>Σb r,vs=.ref b::r/\m%2=1/\H b=B (.tup (ks.map kV))/\TkIts H (m / 2) xs r
def TkAt(H:Hp)(m:Nat)(ks:-(aD ⊕ -aD))(b:Up):Prop:=Σvs,H b=B (.tup vs)/\TkIts H m ks vs
theorem TkIts.keep{H H':Hp}(a:∀b xs,H b=B (.tup xs)->H' b=B (.tup xs)):∀{m:Nat} {ks:-(aD ⊕ -aD)} {vs:-V},TkIts H m ks vs->TkIts H' m ks vs
 |_,[],_,h=>h
 |m,.inl k::xs,vs,h=>by let⟨r,e,z,t⟩:=h;rwa[r,e,z,t.keep a]
 |m,.inr ks::xs,vs,h=>by let⟨b,r,e,z,g,t⟩:=h;rwa[b,r,e,z,a _ _ g,t.keep a]
def TkAt.keep{H H':Hp}{b:Up}(x:TkAt H m ks b)(a:∀b xs,H b=B (.tup xs)->H' b=B (.tup xs)):TkAt H' m ks b:=by
 let⟨c,g,r⟩:=x;rwa[c,a _ _ g,r.keep a]
section
variable (P:Uu) (w:Ux)
def ObjOk(H:Hp)(h:Uz)(a:Up):HO->Prop
 |.lst xs=>xs.length<=sizeLine/\Σ(O:-Um) (n:Nat),Vals xs O/\h.get? a=B { cls:=.type "list",data:=.seq O.toArray n }
 |.tup xs=>xs.length<=sizeLine/\ΣO:-Um,Vals xs O/\IsTup h a O.toArray
 |.dK kvs=>kvs.length<=sizeLine/\(a==sysModules)=Uk/\Σvs,KV kvs vs/\h.DictOf (aN P w) a vs
 |.dT m ep kvs=>kvs.length<=sizeLine/\(a==sysModules)=Uk/\Σxs:-(-(aD ⊕ -aD)×Up×Um),
   Paired (λ(p:-(aD ⊕ -aD)×V) (q:-(aD ⊕ -aD)×Up×Um)=>p.1=q.1/\TkAt H m p.1 q.2.1/\RelV p.2 q.2.2) kvs xs/\
   Σo es,h.get? a=B o/\o.ExactDict/\o.data=.dict es ep/\es.toList=xs.map (entryOfKey (bH m (aN P w)))/\(xs.map (·.1)).Nodup
 |.ins C dx fs=>H dx=B (.own a)/\fs.length<=1000/\dx≠a/\h.get? a=B (Rm C dx)/\
   ΣmA,h.Ns1 dx mA/\(∀f,RelO (fs.lookup f) (mA f))/\PySem.Within mA (fs.map (·.1))
 |.own _=>Σo,h.get? a=B o
 |.frz o u=>h.get? a=B o/\ObjOk H h a u
 |.tbl ps=>h.get? a=B { cls:=.none,data:=.fields ps }
 |.ext U=>U h/\(Σo,h.get? a=B o)/\∀h1 h2:Uz,U h1->(∀o,h1.get? a=B o->h2.get? a=B o)->U h2
def HOk(H:Hp)(h:Uz):Prop:=∀a o,H a=B o->ObjOk P w H h a o
end
section
variable {P:Uu} {w:Ux} {H H':Hp} {h h':Uz} {a:Up} {o:HO}
def ObjOk.lt(x:ObjOk P w H h a o):a<h.objs.size:=by
 cases o with
 |lst c=>let⟨z_,y_,x_,w_,e⟩:=x;show Qj e
 |tup c=>let⟨z_,y_,x_,p⟩:=x;show p.lt
 |dK b=>let⟨z_,y_,x_,w_,o,v_,u_,e,t_⟩:=x;show Qj e
 |dT m i b=>let⟨z_,y_,x_,w_,o,v_,e,u_⟩:=x;show Qj e
 |ins C d g=>let⟨z_,y_,x_,e,w_⟩:=x;show Qj e
 |own y=>let⟨z_,e⟩:=x;show Qj e
 |frz f u=>let⟨e,z_⟩:=x;show Qj e
 |tbl ps=>show Qj (show h.get? a=B _ from x)
 |ext U=>obtain⟨_,⟨_,e⟩,_⟩:=x;show Qj e
theorem Paired.mapP{α β:Type}{F G:α->β->Prop}:∀{l₁:List α} {c:List β},Paired F l₁ c->(∀a b,F a b->G a b)->Paired G l₁ c
 |_,_,.nil,_=>.nil
 |_,_,.cons r t,f=>.cons (f _ _ r) (Paired.mapP t f)
def ObjOk.stay(x:ObjOk P w H h a o)(k:∀b u,(b=a\/H b=B (.own a))->h.get? b=B u->h'.get? b=B u)
  (ho:∀b,H b=B (.own a)->H' b=B (.own a)) (ht:∀b i,H b=B (.tup i)->H' b=B (.tup i)):ObjOk P w H' h' a o:=by
 induction o with
 |lst i=>let⟨z,g,n,r,e⟩:=x;rwa[z,g,n,r,k _ _ (.inl rfl) e]
 |tup i=>let⟨z,g,r,f,e,c⟩:=x;rwa[z,g,r,f,k _ _ (.inl rfl) e,c]
 |dK s=>let⟨z,y,D,r,f,j,l,e,c⟩:=x;rwa[z,y,D,r,f,j,l,k _ _ (.inl rfl) e,c]
 |dT m l s=>
  let⟨z,y,i,r,f,j,e,c⟩:=x;rwa[z,y,i,Paired.mapP r λp q z=>#[z.1,z.2.1.keep ht,z.2.2],f,j,k _ _ (.inl rfl) e,c]
 |ins C I K=>
  obtain⟨d,z,F,e,E,⟨v,j,l,e2,c⟩,r⟩:=x;rwa[ho _ d,z,F,k _ _ (.inl rfl) e,E,#[v,j,l,k _ _ (.inr d) e2,c],r]
 |own y=>let⟨f,e⟩:=x;rwa[f,k _ _ (.inl rfl) e]
 |frz f u A=>let⟨e,q⟩:=x;rwa[k _ _ (.inl rfl) e,A q]
 |tbl ps=>
  let e:h.get? a=B { cls:=.none,data:=.fields ps }:=x;change h'.get? a=B { cls:=.none,data:=.fields ps };show k a _ (.inl rfl) e
 |ext U=>obtain⟨p,⟨o,e⟩,t⟩:=x;rwa[t _ _ p λo q=>k _ _ (.inl rfl) q,#[o,k _ _ (.inl rfl) e],t]
theorem HOk.lt(x:HOk P w H h)(e:H a=B o):a<h.objs.size:=(x a o e).lt
def HOk.fresh(x:HOk P w H h)(e:h.objs.size<=a):H a=L:=by
 cases q:H a with
 |none=>rfl
 |some u=>show absurd (Qn (x.lt q) e) (Re _)
theorem HOk.kept(x:HOk P w H h)(k:∀b u,h.get? b=B u->h'.get? b=B u):HOk P w H h':=λa o e=>
 (x a o e).stay (λb u Z q=>k b u q) (λZ q=>q) λZ Z q=>q
theorem HOk.laid(x:HOk P w H h)(k:∀b u,h.get? b=B u->h'.get? b=B u)(i:h.objs.size<=a)(d:ObjOk P w (upd H a o) h' a o):HOk P w (upd H a o) h':=λb u e=>by
 let f:=x.fresh i;by_cases g:b=a
 .subst g;rw[al] at e;ext e;show d
 .rw[ac g] at e;show(x b u e).stay (λc v Z q=>k c v q) (λc q=>by rw[ac (aw q f)];show q) λc j q=>by rw[ac (aw q f)];show q
end
def Rd(H:Hp)(a:Up)(u:HO):Prop:=H a=B u\/Σo,H a=B (.frz o u)
def Rd.ok(r:Rd H a u)(x:HOk P w H h):ObjOk P w H h a u:=by
 obtain r|⟨o,r⟩:=r
 .show x a u r
 .let⟨z_,q⟩:=x a _ r;show q
def JQ:@&HO->Prop
 |some (.lst _)=>True
 |some (.dK _)=>True
 |some (.dT _ _ _)=>True
 |some (.ins _ _ _)=>True
 |some (.ext _)=>True
 |_=>False
section
variable {P:Uu} {w:Ux} {H:Hp} {h h':Uz} {x e:Up} {o':HO}
theorem HOk.write(ok:HOk P w H h)(l:JQ (H x))(o:e=x\/H e=B (.own x))(k:∀b u,b≠e->h.get? b=B u->h'.get? b=B u)(m:Σu,h'.get? e=B u)
  (new:ObjOk P w (upd H x o') h' x o'):HOk P w (upd H x o') h':=λb u q=>by
 let d:∀c y,H c=B (.own y)->c≠x:=λc y r z=>by subst z;rw[r] at l;show l
 let f:∀c j,H c=B (.tup j)->c≠x:=λc j r z=>by subst z;rw[r] at l;show l
 by_cases g:b=x
 .subst g;rw[al] at q;ext q;show new
 .rw[ac g] at q;by_cases a:b=e
  .let n:H b=B (.own x):=by
    obtain z|z:=o
    .show absurd (a.trans z) g
    .rw[a];show z
   rw[q] at n;ext n;let⟨v,p⟩:=m;rwa[v,by rw[a];show p]
  .show(ok b u q).stay (λc v i r=>k c v ?_ r) (λc r=>by rw[ac (d c b r)];show r) λc j r=>by rw[ac (f c j r)];show r
   obtain rfl|i:=i
   .show a
   .rintro rfl
    obtain z|z:=o
    .show d c b i z
    .rw[i] at z;ext z;show g rfl
end
structure Un(fs ex:-Addr)(H H':Hp)(h h':Heap):Prop where
 keep:∀b o,h.get? b=B o->H b=L->b∉fs->b∉ex->h'.get? b=B o
 slot:∀b o,h.get? b=B o->H b=L->b∈fs->b∉ex->Σsl,h'.get? b=B { o with slots:=sl }
 free:∀b o,h.get? b=B o->H b=L->b∉ex->H' b=L
 there:∀b o,h.get? b=B o->b∉ex->Σo',h'.get? b=B o'
 tups:∀b xs,H b=B (.tup xs)->H' b=B (.tup xs)
 frzs:∀b o u,H b=B (.frz o u)->H' b=B (.frz o u)
 tbls:∀b ps,H b=B (.tbl ps)->Σmore,H' b=B (.tbl (ps++more))
section
variable {fs fs' ex ex':-Up} {H H1 H2:Hp} {h h1 h2 h':Uz} {a x e:Up} {o:HO}
def Un.any(u:Un fs ex H H1 h h1)(q:h.get? b=B ob)(n:H b=L)(a:b∉ex):Σd,h1.get? b=B { ob with slots:=d }:=by
 by_cases c:b∈fs
 .show u.slot b ob q n c a
 .rwa[ob.slots,u.keep b ob q n c a]
theorem Un.kept(k:∀b u,h.get? b=B u->h'.get? b=B u):Un fs ex H H h h':=
 #[λb a q Z Z Z=>k b a q,λb a q Z Z Z=>#[a.slots,k b a q],λZ Z Z n Z=>n,λb a q Z=>#[a,k b a q],λZ Z q=>q,λZ Z Z q=>q,λZ ps q=>#[([].toArray),by rw[q];simp]]
theorem Un.refl:Un fs ex H H h h:=Un.kept λZ Z q=>q
theorem Un.laid(k:∀b u,h.get? b=B u->h'.get? b=B u)(d:h.objs.size<=a)(c:H a=L):Un fs ex H (upd H a o) h h' where
 keep:=λb u q Z Z Z=>k b u q
 slot:=λb u q Z Z Z=>#[u.slots,k b u q]
 free:=λb u q n Z=>by rw[ac (Qu (Qn (Qj q) d))];show n
 there:=λb u q Z=>#[u,k b u q]
 tups:=λb e q=>by rw[ac (aw q c)];show q
 frzs:=λb u e q=>by rw[ac (aw q c)];show q
 tbls:=λb ps q=>#[([].toArray),by rw[ac (aw q c),q];simp]
def Un.write(c:JQ (H x))(l:e=x\/H e=B (.own x))(k:∀b u,b≠e->h.get? b=B u->h'.get? b=B u)(f:Σu,h'.get? e=B u):Un fs ex H (upd H x o) h h':=by
 let i:∀b,H b=L->b≠x:=λb n z=>by subst z;rw[n] at c;show c
 let g:∀b,H b=L->b≠e:=λb n z=>by
  subst z;obtain r|r:=l
  .show i b n r
  .rw[n] at r;ext r
 let d:∀b u,H b=B u->¬JQ (B u)->b≠x:=λb u q j z=>by subst z;rw[q] at c;show j c
 show#[λb u q n Z Z=>k b u (g b n) q,λb u q n Z Z=>#[u.slots,k b u (g b n) q],λb u q n Z=>by rw[ac (i b n)];show n,λb u q Z=>?_,
  λb m q=>by rw[ac (d b _ q λz=>z)];show q,λb u m q=>by rw[ac (d b _ q λz=>z)];show q,λb ps q=>#[([].toArray),by rw[ac (d b _ q λz=>z),q];simp]]
 by_cases a:b=e
 .subst a;show f
 .rwa[u,k b u a q]
end
meta def MJ(h:Uz)(H:Hp):-Up:=(Qo h.objs.size).filter λa=>(H a).isSome
def nE(h:Uz)(H:Hp):Uz:=PySem.W.hideAll h (MJ h H)
theorem wx(h:Uz)(H:Hp):(nE h H).objs.size=h.objs.size:=PySem.W.hideAll_size _ _
theorem xV{h:Uz}{H:Hp}(e:h.get? b=B o)(n:H b=L):(nE h H).get? b=B o:=
 PySem.W.hideAll_get _ e λa=>by
  let q:(H b).isSome=Uj:=(R8.mp a).2;rw[n] at q;simp at q
def BJ{h:Uz}{H:Hp}(e:(nE h H).get? b=B o):h.get? b=B o/\H b=L:=by
 let a:h.get? b=B o:=PySem.W.of_hideAll (MJ h H) e;rwa[a,?_]
 cases q:H b with
 |none=>rfl
 |some x=>
  let c:b∈MJ h H:=R8.mpr #[Qq.mpr (Qj a),by simp[q]];let z:(nE h H).get? b=L:=PySem.W.hideAll_none (MJ h H) c;rw[z] at e;ext e
def BK(g h:Uz)(Lqq:Up):-(Up×Obj):=(Qo h.objs.size).filterMap λa=>if a=Lqq\/(g.get? a).isSome=Uj then L else(h.get? a).map λo=>(a,o)
def rest(g h:Uz)(Lqq d:Up):-(Up×Obj):=(BK g h Lqq).filter λp=>decide (p.1≠d)
structure Mod(K:P9)(mg:Str->@&Value)(base:Heap):Prop where
 kin:K.In base
 glob:base.Ns UB mg
 blt:Σmb,base.Ns builtinsNs mb/\∀x:Str,x≠"__name__"->mb x=bootBuiltins x
 nolimit:base.NoLimit
structure Cx where
 prog:Uu
 w:Ux
 K:P9
 mg:Str->@&Um
 base:Uz
 A:Uy
 N:-Str
 s₀:Uq
 H₀:Hp
 env:Env
 outer:-Env
 stack:-Env
 ex:-Up
 fn:Str->Bool
 calm:Bool
 pn:-(Up×Obj)
 xe:Um->Uq->Prop
meta def xP(l:-Env):-Up:=l.filterMap (·.frame)
abbrev Cx.fs(X:Cx):-Up:=xP X.outer
def JR(O:UC)(x:Str):Prop:=O.names.lookup x=B .local\/O.names.lookup x=B .cell\/O.names.lookup x=B .free
def Es(O:UC)(x:Str):Prop:=O.names.lookup x=B .local\/O.names.lookup x=B .cell
def Nd(env:Env)(h:Uz)(m:Str->@&Um)(x:Str)(u:Um):Prop:=
 (env.kindOf x=B .local/\m x=B u)\/((env.kindOf x=B .cell\/env.kindOf x=B .free)/\Σc,env.cells.lookup x=B c/\h.IsCell c (B u))
structure Cx.Ok(X:Cx):Prop where
 mod:Mod X.K X.mg X.base
 kind:X.env.scope.kind=.function
 glob:X.env.globals=UB
 blt:X.env.builtins=builtinsNs
 above:X.s₀⁻¹<=X.env.locals
 inj:∀x y c,X.env.cells.lookup x=B c->X.env.cells.lookup y=B c->x=y
 has:∀x,(X.env.kindOf x=B .cell\/X.env.kindOf x=B .free)->Σc,X.env.cells.lookup x=B c
 cab:∀x c,X.fn x=Uj->X.env.cells.lookup x=B c->X.s₀⁻¹<=c
 hd:X.calm=Uj->X.A.handled=L
 frames:X.A.frames=B X.stack
 stk:X.stack=X.outer\/(X.stack=X.env::X.outer/\X.env.frame=B X.env.locals)
 exf:∀b∈X.ex,b≠X.env.locals/\∀x c,X.env.cells.lookup x=B c->c≠b
 bs:∀b o,X.base.get? b=B o->X.s₀.heap.get? b=B o/\X.H₀ b=L
 bsz:X.base.objs.size<=X.s₀⁻¹
 noex:∀b o,X.base.get? b=B o->b∉X.ex
 exfs:∀b∈X.ex,b∉X.fs
 funs:X.s₀.heap.FunFrames X.base X.outer
 frf:∀b∈X.fs,X.H₀ b=L
structure Inv(X:Cx)(pins:-(Addr×Obj))(Y:-(@&V))(H:Hp)(s:Shared):Prop where
 ok:X.Ok
 os:s.os=X.s₀.os
 bare:AllBare s.gens
 base:Un X.fs X.ex X.H₀ H X.s₀.heap s.heap
 loc:Σm,s.heap.Ns X.env.locals m/\∀(i:Nat) (x:Str) (v:V),X.N[i]?=B x->Y[i]?=B (B v)->JR X.env.scope x->Σu,RelV v u/\Nd X.env s.heap m x u
 cell:∀x c,X.env.cells.lookup x=B c->Σv,s.heap.IsCell c v
 free:H X.env.locals=L
 freeC:∀x c,X.env.cells.lookup x=B c->H c=L
 pin:∀p∈X.pn++pins,s.heap.get? p.1=B p.2/\H p.1=L/\p.1≠X.env.locals/\p.1∉X.fs/\∀v,p.2.data≠.cell v
 hok:HOk X.prog X.w H s.heap
 len:Y.length=X.N.length
section
variable {X:Cx} {pins:-(Up×Obj)} {Y:-(@&V)} {H H':Hp} {s:Uq} {h':Uz}
theorem Cx.Ok.nofr(ok:X.Ok)(e:X.base.get? b=B o):b∉X.fs:=λa=>by
 have:=(ok.funs.mem a).1;rw[e] at this;ext this
theorem Inv.bs(I:Inv X pins Y H s):∀b o,X.base.get? b=B o->s.heap.get? b=B o/\H b=L:=λb o e=>
 #[I.base.keep b o (I.ok.bs b o e).1 (I.ok.bs b o e).2 (I.ok.nofr e) (I.ok.noex b o e),I.base.free b o (I.ok.bs b o e).1 (I.ok.bs b o e).2 (I.ok.noex b o e)]
theorem Inv.bk(I:Inv X pins Y H s):∀b o,X.base.get? b=B o->s.heap.get? b=B o:=λb o e=>(I.bs b o e).1
theorem Inv.mod(I:Inv X pins Y H s):Mod X.K X.mg X.base:=I.ok.mod
theorem Inv.kIn(I:Inv X pins Y H s):X.K.In s.heap:=I.ok.mod.kin.keeps I.bk
theorem Inv.lt(I:Inv X pins Y H s):X.env.locals<s⁻¹:=let ⟨_,hn,_⟩:=I.loc;hn.lt
theorem Inv.sz(I:Inv X pins Y H s):X.s₀⁻¹<=s⁻¹:=QG I.ok.above (Rt I.lt)
theorem Inv.nofs(I:Inv X pins Y H s)(h:s⁻¹<=a):a∉X.fs:=λc=>by
 let⟨z_,o,b,y_⟩:=I.ok.funs.mem c;show absurd (Qn (Qj b) (QG I.sz h)) (Re _)
theorem Inv.cne(I:Inv X pins Y H s):∀x c,X.env.cells.lookup x=B c->c≠X.env.locals:=λx c e z=>by
 let⟨v,o,d,f⟩:=I.cell x c e;obtain⟨m,⟨g,h,i,b,a,_⟩,_⟩:=I.loc;rw[z,b] at d;ext d;rw[a] at f;ext f
def Inv.funs(I:Inv X pins Y H s):s.heap.FunFrames X.base X.outer:=by
 let g:∀(l:-Env),(∀b∈xP l,b∈X.fs)->X.s₀.heap.FunFrames X.base l->s.heap.FunFrames X.base l:=by
  intro l
  induction l with
  |nil=>intro _ _;trivial
  |cons n r i=>
   intro h m;obtain⟨hk,⟨a,o,f,j,k,q⟩,p⟩:=m;let d:a∈X.fs:=h a (by delta xP;rw[QN,f];show Qr);let⟨t,e⟩:=I.base.slot a o k (I.ok.frf a d) d λz=>I.ok.exfs a z d;rwa[hk,#[a,_,f,j,e,q],i (λb c=>h b (by delta xP;rw[QN,f];show Qh _ c)) p]
 show g X.outer (λZ c=>c) I.ok.funs
def Inv.stack(I:Inv X pins Y H s):s.heap.FunFrames X.base X.stack:=by
 obtain e|⟨e,b⟩:=I.ok.stk
 .rw[e];show I.funs
 .rw[e];let⟨m,a,z_⟩:=I.loc;show .cons (by rw[I.ok.kind];decide) b a ?_ I.funs;show Heap.get?_none_of_le (QG I.ok.bsz I.ok.above)
theorem Inv.stkSub(I:Inv X pins Y H s):∀b∈xP X.stack,b∈X.env.locals::X.fs:=λb a=>by
 obtain e|⟨e,c⟩:=I.ok.stk
 .rw[e] at a;show Qh _ a
 .rw[e] at a;unfold xP at a;rw[QN,c] at a;show a
theorem Inv.stkFree(I:Inv X pins Y H s):∀b∈xP X.stack,H b=L:=λb a=>by
 obtain e|a:=Qf.mp (I.stkSub b a)
 .rw[e];show I.free
 .let⟨z_,o,c,y_⟩:=I.ok.funs.mem a;show I.base.free b o c (I.ok.frf b a) λz=>I.ok.exfs b z a
def Inv.step{t':Nat}{ch:-Up}(I:Inv X pins Y H s)(t:∀b∈ch,(b∈X.ex\/X.s₀⁻¹<=b)/\b≠X.env.locals/\(∀x c,X.env.cells.lookup x=B c->c≠b)/\∀p∈X.pn++pins,p.1≠b)(g:∀b o,b≠X.env.locals->b∉X.fs->b∉ch->s.heap.get? b=B o->H b=L->h'.get? b=B o)(A:∀b o,b≠X.env.locals->b∈X.fs->b∉ch->s.heap.get? b=B o->H b=L->ΣR,h'.get? b=B { o with slots:=R })(f:∀b o,b∉ch->s.heap.get? b=B o->H b=L->H' b=L)(C:∀b o,b∉ch->s.heap.get? b=B o->Σo',h'.get? b=B o')(F:∀b xs,H b=B (.tup xs)->H' b=B (.tup xs))(M:∀b o u,H b=B (.frz o u)->H' b=B (.frz o u))(K:∀b ps,H b=B (.tbl ps)->ΣO,H' b=B (.tbl (ps++O)))(ns:∀m,s.heap.Ns X.env.locals m->h'.Ns X.env.locals m)(Q:HOk X.prog X.w H' h')(hg:AllBare g') :
  Inv X pins Y H' { s with heap:=h',gens:=g',drawn:=d',toks:=t' }:=by
 let N:∀b o,X.s₀.heap.get? b=B o->b≠X.env.locals:=λb o e=>Qu (Qn (Qj e) I.ok.above)
 let y:∀b o,X.s₀.heap.get? b=B o->b∉X.ex->b∉ch:=λb o e a D=>by
  rcases(t b D).1 with z|z
  .show a z
  .show absurd (Qn (Qj e) z) (Re _)
 let j:∀x c,X.env.cells.lookup x=B c->∀v,s.heap.IsCell c v->h'.IsCell c v:=λx c e v ⟨o,E,S⟩=>by
  let h:c∉ch:=λz=>(t c z).2.2.1 x c e rfl;by_cases U:c∈X.fs
  .let⟨R,q⟩:=A c o (I.cne x c e) U h E (I.freeC x c e);rwa[_,q,S]
  .rwa[o,g c o (I.cne x c e) U h E (I.freeC x c e),S]
 rwa[I.ok,I.os,hg,#[λb o e n D a=>?_,λb o e n D a=>?_,λb o e n a=>?_,λb o e a=>?_,λb xs e=>F b xs (I.base.tups b xs e),λb o xs e=>M b o xs (I.base.frzs b o xs e),λb ps e=>?_],?_,λx c e=>?_,?_,λx c e=>?_,λp T=>?_,Q,I.len]
 .show g b o (N b o e) D (y b o e a) (I.base.keep b o e n D a) (I.base.free b o e n a)
 .let⟨R,e1⟩:=I.base.slot b o e n D a;let⟨P,e2⟩:=A b _ (N b o e) D (y b o e a) e1 (I.base.free b o e n a);rwa[P,e2]
 .let⟨o',e1⟩:=I.base.there b o e a;show f b o' (y b o e a) e1 (I.base.free b o e n a)
 .let⟨o',e1⟩:=I.base.there b o e a;show C b o' (y b o e a) e1
 .let⟨m1,e1⟩:=I.base.tbls b ps e;let⟨Z,e2⟩:=K b _ e1;rwa[m1++Z,#v[e2,Array.append_assoc]]
 .let⟨m,hn,hl⟩:=I.loc;rwa[m,ns m hn,λi x v e1 e2 e3=>?_];let⟨u,r,l⟩:=hl i x v e1 e2 e3;rwa[u,r,?_];obtain l|⟨k,c,e,z⟩:=l
  .show .inl l
  .show .inr #[k,c,e,j x c e _ z]
 .let⟨v,z⟩:=I.cell x c e;rwa[v,j x c e v z]
 .obtain⟨m,⟨o,_,_,E,_⟩,_⟩:=I.loc;show f _ o (λz=>(t _ z).2.1 rfl) E I.free
 .let⟨v,o,E,S⟩:=I.cell x c e;show f c o (λz=>(t c z).2.2.1 x c e rfl) E (I.freeC x c e)
 .let⟨e,n,V,W,d⟩:=I.pin p T;let h:p.1∉ch:=λz=>(t p.1 z).2.2.2 p T rfl;rwa[g p.1 p.2 V W h e n,f p.1 p.2 h e n,V,W,d]
def Inv.un{t':Nat}(I:Inv X pins Y H s)(u:Un X.fs [] H H' s.heap h')(d:HOk X.prog X.w H' h'):Inv X pins Y H' { s with heap:=h',toks:=t' }:=by
 obtain⟨m,⟨o,l,v,h,r⟩,_⟩:=id I.loc;let⟨p,j⟩:=u.any h I.free ∎
 show I.step (g':=s.gens) (d':=s.drawn) (ch:=[]) (λZ z=>nomatch z) (λb o Z f Z e n=>u.keep b o e n f ∎) (λb o Z f Z e n=>u.slot b o e n f ∎) (λb o Z e n=>u.free b o e n ∎) (λb o Z e=>u.there b o e ∎) u.tups u.frzs u.tbls (λt i=>by
  let⟨q,c,g,a,k⟩:=i;rw[h] at a;ext a;rwa[_,c,g,j,k]) d I.bare
def Inv.call{t':Nat}{ch:-Up}(I:Inv X pins Y H s)(u:Un (xP X.stack) ch H H' s.heap h')(h:HOk X.prog X.w H' h')(v:AllBare g')(f:∀b∈ch,(b∈X.ex\/X.s₀⁻¹<=b)/\b≠X.env.locals/\(∀x c,X.env.cells.lookup x=B c->c≠b)/\∀p∈X.pn++pins,p.1≠b) :
  Inv X pins Y H' { s with heap:=h',gens:=g',drawn:=d',toks:=t' }:=by
 obtain⟨m,⟨o,y,E,k,r⟩,_⟩:=id I.loc;let⟨A,i⟩:=u.any k I.free λz=>(f _ z).2.1 rfl
 show I.step (ch:=ch) f (λb o i q a e n=>u.keep b o e n (λz=>(Qf.mp (I.stkSub b z)).elim i q) a) (λb o Z Z a e n=>u.any e n a) (λb o a e n=>u.free b o e n a) (λb o a e=>u.there b o e a) u.tups u.frzs u.tbls (λD l=>by
  let⟨C,g,j,d,t⟩:=l;rw[k] at d;ext d;rwa[_,g,j,i,t]) h v
def Inv.turned{t':Nat}{it:Up}(I:Inv X pins Y H s)(k:∀b o,b≠it->s.heap.get? b=B o->h'.get? b=B o)(h:H it=L)(f:it≠X.env.locals)
  (h1:it∈X.ex\/X.s₀⁻¹<=it) (h2:∀x c,X.env.cells.lookup x=B c->c≠it) (h3:∀p∈X.pn++pins,p.1≠it):Inv X pins Y H { s with heap:=h',toks:=t' }:=by
 let d:∀b u,H b=B u->b≠it:=λb u e z=>by rw[z,h] at e;ext e
 show I.step (g':=s.gens) (d':=s.drawn) (ch:=[it]) (λb l=>?_) (λb o Z Z a e Z=>k b o (λz=>a (by simp[z])) e) (λb o Z Z a e Z=>#[o.slots,k b o (λz=>a (by simp[z])) e]) (λZ Z Z Z n=>n)
  (λb o a e=>#[o,k b o (λz=>a (by simp[z])) e]) (λZ Z e=>e) (λZ Z Z e=>e) (λb ps e=>#[([].toArray),by rw[e];simp]) (λm g=>?_) (λb u e=>?_) I.bare
 .let e:b=it:=by simpa using l
  subst e;rwa[h1,f,h2,h3]
 .let⟨o,i,t,j,r⟩:=g;rwa[o,i,t,k _ o (Ne.symm f) j,r]
 .show(I.hok b u e).stay (λc v a q=>k c v ?_ q) (λZ q=>q) λZ Z q=>q;obtain z|z:=a
  .rw[z];show d b u e
  .show d c _ z
theorem Inv.tok(I:Inv X pins Y H s)(t:Nat):Inv X pins Y H { s with toks:=t }:=I.un (h':=s.heap) (t':=t) Un.refl I.hok
theorem Inv.kept{t':Nat}(I:Inv X pins Y H s)(k:∀b u,s.heap.get? b=B u->h'.get? b=B u):Inv X pins Y H { s with heap:=h',toks:=t' }:=I.un (Un.kept k) (I.hok.kept k)
theorem Inv.laid{t':Nat}(I:Inv X pins Y H s)(k:∀b u,s.heap.get? b=B u->h'.get? b=B u)(c:s⁻¹<=a)(d:ObjOk X.prog X.w (upd H a o) h' a o) :
  Inv X pins Y (upd H a o) { s with heap:=h',toks:=t' }:=I.un (Un.laid k c (I.hok.fresh c)) (I.hok.laid k c d)
theorem Inv.write{x e:Up}{t':Nat}(I:Inv X pins Y H s)(d:JQ (H x))(f:e=x\/H e=B (.own x))(k:∀b u,b≠e->s.heap.get? b=B u->h'.get? b=B u)(a:Σu,h'.get? e=B u)(c:ObjOk X.prog X.w (upd H x o) h' x o):Inv X pins Y (upd H x o) { s with heap:=h',toks:=t' }:=I.un (Un.write d f k a) (I.hok.write d f k a c)
theorem Inv.pins_of{a:-(Up×Obj)}(I:Inv X pins Y H s)(h:∀p∈a,s.heap.get? p.1=B p.2/\H p.1=L/\p.1≠X.env.locals/\p.1∉X.fs/\∀v,p.2.data≠.cell v):Inv X a Y H s:=
 #[I.ok,I.os,I.bare,I.base,I.loc,I.cell,I.free,I.freeC,λp b=>(Qp.mp b).elim (λz=>I.pin p (QL _ z)) (h p),I.hok,I.len]
def o8{N:-Str}(c:N.Nodup){i j:Nat}(a:N[i]?=B x)(b:N[j]?=B x):i=j:=by
 let⟨e,e1⟩:=Qb.mp a;let⟨d,e2⟩:=Qb.mp b;show(List.getElem_inj c).mp (e1.trans e2.symm)
def i3{i:Nat}{Q:Unit->Uq->Prop}(I:Inv X pins Y H s)(hN:X.N.Nodup)(hi:X.N[i]?=B x)(t:Es X.env.scope x)(r:RelV v u)(h:∀s',Inv X pins (Y.set i (B v)) H s'->(Σa,Heap.SameBut a s.heap s'.heap/\(a=X.env.locals\/X.env.cells.lookup x=B a))->Q () s')(hf:X.fn x=Uj\/X.env.scope.names.lookup x=B .local:=by assumption):Us M A (storeName X.env x u) Q E s:=by
 let⟨m,hn,hl⟩:=id I.loc;let T:(X.env.scope.kind==.class||(X.env.scope.kind==.module&&X.env.locals != X.env.globals))=Uk:=by rw[I.ok.kind];rfl
 let V:i<Y.length:=by rw[I.len];show(Qb.mp hi).1
 let D:=I.cne
 let g:∀{a:Up} {P:Uz},(Σo,s.heap.get? a=B o/\H a=L)->Heap.SameBut a s.heap P->HOk X.prog X.w H P:=λ{a P} ha f b ob e=>by
  let⟨z_,y_,C⟩:=ha;show(I.hok b ob e).stay (λc w' l q=>(f.2 c ?_).trans q) (λJ q=>q) λJ J q=>q
  rintro rfl
  obtain rfl|l:=l
  .rw[C] at e;ext e
  .rw[C] at l;ext l
 obtain hk|hk:=t
 .show wpAny_storeName_local hk hn (λP hd f=>?_) T;let⟨oL,z_,y_,he,x_⟩:=id hn;show h _ #[I.ok,I.os,I.bare,#[λb o e n O t=>?_,λb o e n O t=>?_,I.base.free,λb o e t=>?_,I.base.tups,I.base.frzs,I.base.tbls],#[_,hd,λj y v' e1 e2 e3=>?_],λy c e=>?_,I.free,I.freeC,λp hp=>?_,g #[oL,he,I.free] f,↥(I.len)] #[_,f,.inl rfl]
  .show(f.2 b (Qu (Qn (Qj e) I.ok.above))).trans (I.base.keep b o e n O t)
  .let⟨sl,e1⟩:=I.base.slot b o e n O t;rwa[sl,(f.2 b (Qu (Qn (Qj e) I.ok.above))).trans e1]
  .let⟨o',e1⟩:=I.base.there b o e t;rwa[o',(f.2 b (Qu (Qn (Qj e) I.ok.above))).trans e1]
  .by_cases K:j=i
   .subst K;rw[hi] at e1;ext e1;rw[QF V] at e2;ext e2;rwa[u,r,.inl #[hk,∎]]
   .rw[QH (Ne.symm K)] at e2;let⟨u',r',q⟩:=hl j y v' e1 e2 e3;rwa[u',r',?_];rcases q with⟨k,e⟩|⟨k,c,e,z⟩
    .show .inl #[k,?_];have:y≠x:=λe=>K (o8 hN e1 (e▸hi));simp[this,e]
    .show .inr #[k,c,e,z.sameBut f (D y c e)]
  .let⟨w',z⟩:=I.cell y c e;rwa[w',z.sameBut f (D y c e)]
  .let⟨e,n,Z,nf,d⟩:=I.pin p hp;rwa[(f.2 p.1 Z).trans e,n,Z,nf,d]
 .let F:X.fn x=Uj:=by
   obtain z|z:=hf
   .show z
   .rw[z] at hk;ext hk
  let⟨c,l⟩:=I.ok.has x (.inl hk);let⟨w',z⟩:=I.cell x c l;show wpAny_storeName_cell I.ok.kind hk l z (λP U f=>?_);let⟨oc,S,W⟩:=id z;show h { s with heap:=P } #[I.ok,I.os,I.bare,#[λb o e n O t=>?_,λb o e n O t=>?_,I.base.free,λb o e t=>?_,I.base.tups,I.base.frzs,I.base.tbls],#[m,hn.sameBut f (Ne.symm (D x c l)),λj y v' e1 e2 e3=>?_],λy c' e=>?_,I.free,I.freeC,λp hp=>?_,g #[oc,S,I.freeC x c l] f,↥(I.len)] #[c,f,.inr l]
  .show(f.2 b (Qu (Qn (Qj e) (I.ok.cab x c F l)))).trans (I.base.keep b o e n O t)
  .let⟨sl,e1⟩:=I.base.slot b o e n O t;rwa[sl,(f.2 b (Qu (Qn (Qj e) (I.ok.cab x c F l)))).trans e1]
  .let⟨o',e1⟩:=I.base.there b o e t;rwa[o',(f.2 b (Qu (Qn (Qj e) (I.ok.cab x c F l)))).trans e1]
  .by_cases K:j=i
   .subst K;rw[hi] at e1;ext e1;rw[QF V] at e2;ext e2;rwa[u,r,.inr #[.inl hk,c,l,U]]
   .rw[QH (Ne.symm K)] at e2;let⟨u',r',q⟩:=hl j y v' e1 e2 e3;rwa[u',r',?_];obtain q|⟨k,c',e,z'⟩:=q
    .show .inl q
    .show .inr #[k,c',e,z'.sameBut f ?_]
     rintro rfl
     show K (o8 hN e1 (I.ok.inj _ _ _ e l▸hi))
  .by_cases R:c'=c
   .subst R;rwa[_,U]
   .let⟨w2,z2⟩:=I.cell y c' e;rwa[w2,z2.sameBut f R]
  .let⟨e,n,Z,nf,d⟩:=I.pin p hp;rwa[(f.2 p.1 ?_).trans e,n,Z,nf,d];intro q;rw[q,S] at e;let q':oc=p.2:=Option.some.inj e;show d w' (by rw[<- q'];show W)
theorem fy{i:Nat}{Q:Unit->Uq->Prop}(I:Inv X pins Y H s)(b:X.N.Nodup)(hi:X.N[i]?=B x)(c:Es X.env.scope x)(r:RelV v u)(h:∀s',Inv X pins (Y.set i (B v)) H s'->Q () s')(a:X.fn x=Uj\/X.env.scope.names.lookup x=B .local:=by assumption):Us M A (storeName X.env x u) Q E s:=
 i3 I b hi c r (λs' d Z=>h s' d) a
def Inv.call'{s':Uq}{ch:-Up}(I:Inv X pins Y H s)(g:s'.os=s.os)(u:Un (xP X.stack) ch H H' s.heap s'.heap)(a:HOk X.prog X.w H' s'.heap)(f:AllBare s'.gens)
  (hch:∀b∈ch,(b∈X.ex\/X.s₀⁻¹<=b)/\b≠X.env.locals/\(∀x c,X.env.cells.lookup x=B c->c≠b)/\∀p∈X.pn++pins,p.1≠b):Inv X pins Y H' s':=by
 let⟨h,g',d',t',d⟩:=s';let e:d=s.os:=g;subst e;show I.call (g':=g') (t':=t') (d':=d') u a f hch
end
abbrev XK:=Um->@&Up->Hp->Prop
abbrev St:=-(@&V)
abbrev VK:=V->Hp->Prop
abbrev TE:=St->Hp->VK->Prop
abbrev TT:=St->Hp->(Bool->Hp->Prop)->Prop
abbrev TA:=St->Hp->(-V->Hp->Prop)->Prop
structure i4 where
 nx:St->Hp->Prop
 rt:VK
 bk:St->Hp->Prop:=λZ Z=>False
 ct:St->Hp->Prop:=λZ Z=>False
abbrev TS:=i4->St->Hp->Prop
def EP(X:Cx)(pins:-(Up×Obj))(Y:St)(Q:VK)(u:Um)(s':Uq):Prop:=Σv H',Inv X pins Y H' s'/\RelV v u/\Q v H'
def TP(X:Cx)(pins:-(Up×Obj))(Y:St)(Q:Bool->Hp->Prop)(b:Bool)(s':Uq):Prop:=ΣH',Inv X pins Y H' s'/\Q b H'
def AP(X:Cx)(pins:-(Up×Obj))(Y:St)(Q:-V->Hp->Prop)(us:-Um)(s':Uq):Prop:=Σvs H',Inv X pins Y H' s'/\Vals vs us/\Q vs H'
def SP(X:Cx)(pins:-(Up×Obj))(D:i4)(f:Flow)(s':Uq):Prop:=
 match f with
 |.next=>ΣY' H',Inv X pins Y' H' s'/\D.nx Y' H'
 |.brk=>ΣY' H',Inv X pins Y' H' s'/\D.bk Y' H'
 |.cont=>ΣY' H',Inv X pins Y' H' s'/\D.ct Y' H'
 |.ret u=>Σv Y' H',Inv X pins Y' H' s'/\RelV v u/\D.rt v H'
def PE(X:Cx)(e:Uo)(t:TE):Prop:=
 ∀(pins:-(Up×Obj)) (s:Uq) (Y:St) (H:Hp) (Q:VK),Inv X pins Y H s->t Y H Q->⇑X (eval e X.env) (EP X pins Y Q) X.xe s
def PT(X:Cx)(e:Uo)(t:TT):Prop:=
 ∀(pins:-(Up×Obj)) (s:Uq) (Y:St) (H:Hp) (Q:Bool->Hp->Prop),Inv X pins Y H s->t Y H Q->⇑X (isTrue e X.env (eval e X.env)) (TP X pins Y Q) X.xe s
def PW(X:Cx)(e:Uo)(t:TT):Prop:=
 ∀(O:Sem Um) (pins:-(Up×Obj)) (s:Uq) (Y:St) (H:Hp) (Q:Bool->Hp->Prop),Inv X pins Y H s->t Y H Q->⇑X (isTrue e X.env O) (TP X pins Y Q) X.xe s
def PA(X:Cx)(es:-Uo)(t:TA):Prop:=
 ∀(pos:Pos) (pins:-(Up×Obj)) (s:Uq) (Y:St) (H:Hp) (Q:-V->Hp->Prop),Inv X pins Y H s->t Y H Q->⇑X (spliced (backTo pos (Uv es X.env))) (AP X pins Y Q) X.xe s
def PS(X:Cx)(st:Uw)(t:TS):Prop:=
 ∀(pins:-(Up×Obj)) (s:Uq) (Y:St) (H:Hp) (D:i4),Inv X pins Y H s->t D Y H->⇑X (exec st X.env) (SP X pins D) X.xe s
def PSs(X:Cx)(st:-Uw)(t:TS):Prop:=
 ∀(pins:-(Up×Obj)) (s:Uq) (Y:St) (H:Hp) (D:i4),Inv X pins Y H s->t D Y H->⇑X (execs st X.env) (SP X pins D) X.xe s
theorem a8{α:Type}{t:Sem α}{Q b:α->Uq->Prop}{M:Model}{A:Uy}{E:Um->Uq->Prop}{s:Uq}(h:Us M A t Q E s)(c:∀a s,Q a s->b a s):Us M A t b E s:=wpAny_mono h c λZ Z x=>x
section
variable {X:Cx}
def Nf(i:Nat):TE:=λY H Q=>Σv,Y[i]?=B (B v)/\Q v H
def tC(v:V):TE:=λZ H Q=>Q v H
def rQ{i:Nat}(p:X.N[i]?=B x)(n:JR X.env.scope x)(hd:(x==("__debug__":Str))=Uk:=by decide)(f:(x==("__classdict__":Str))=Uk:=by decide):PE X (.Name x pos) (Nf i):=by
 intro d s Y H Q I h;let⟨v,e,h⟩:=h;let⟨m,k,o⟩:=I.loc;let⟨u,r,l⟩:=o i x v p e n;let b:EP X d Y Q u s:=#[v,H,I,r,h];rcases l with⟨hk,j⟩|⟨hk,c,g,a⟩
 .show wpAny_Name (wpAny_loadName_local I.ok.kind hk k j b) hd
 .obtain hk|hk:=hk
  .show wpAny_Name (wpAny_loadName_cell I.ok.kind hk g a b) hd
  .show wpAny_Name (wpAny_loadName_free I.ok.kind hk g a b f) hd
theorem FR{i j pos}:PE X (.Constant (.int i) j pos) (tC (.int i)):=λZ Z Z H Z I h=>wpAny_Constant_int #[.int i,H,I.tok _,#[_,rfl],h]
theorem JS{b j pos}:PE X (.Constant (.bool b) j pos) (tC (.bl b)):=λZ Z Z H Z I h=>Constant_bool #[.bl b,H,I,rfl,h]
theorem FT{j pos}:PE X (.Constant .none j pos) (tC .non):=λZ Z Z H Z I h=>Constant_none #[.non,H,I,rfl,h]
theorem FU{x j pos}:PE X (.Constant (.str x) j pos) (tC (.str x)):=λZ Z Z H Z I h=>Calls.Constant_str #[.str x,H,I.tok _,#[_,rfl],h]
def Gl(X:Cx)(x:Str):Prop:=X.env.kindOf x=B .globalImplicit
theorem nG{Q:Um->Uq->Prop}(I:Inv X pins Y H s)(b:Gl X x)(a:X.mg x=B u)(h:Q u s)(hd:(x==("__debug__":Str))=Uk:=by decide):⇑X (eval (.Name x pos) X.env) Q E s:=
 Calls.Name_function_global I.ok.kind b (Calls.loadGlobal_global (by rw[I.ok.glob];show I.mod.glob.keeps I.bk) a h) hd
def dR{Q:Um->Uq->Prop}(I:Inv X pins Y H s)(d:Gl X x)(a:X.mg x=L)(c:bootBuiltins x=B u)(h:Q u s)(b:x≠"__name__":=by decide)(hd:(x==("__debug__":Str))=Uk:=by decide):⇑X (eval (.Name x pos) X.env) Q E s:=by
 let⟨g,f,e⟩:=I.mod.blt;show Calls.Name_function_global I.ok.kind d (Calls.loadGlobal_builtin (by rw[I.ok.glob];show I.mod.glob.keeps I.bk) a (by rw[I.ok.blt];show f.keeps I.bk) ((e x b).trans c) h) hd
theorem BL(b:Gl X x)(a:X.mg x=B u)(r:RelV v u)(hd:(x==("__debug__":Str))=Uk:=by decide):PE X (.Name x pos) (tC v):=
 λZ Z Z H Z I h=>nG I b a #[v,H,I,r,h] hd
theorem BM(d:Gl X x)(a:X.mg x=L)(c:bootBuiltins x=B u)(r:RelV v u)(b:x≠"__name__":=by decide)(hd:(x==("__debug__":Str))=Uk:=by decide):PE X (.Name x pos) (tC v):=
 λZ Z Z H Z I h=>dR I d a c #[v,H,I,r,h] b hd
variable {a b:Uo} {ta tb:TE} {pos:Pos}
variable {tA tB':TT} {rest:-Uo}
def Ng(t u:TT):TT:=λY H Q=>t Y H λc H1=>if c=Uj then u Y H1 Q else Q Uk H1
def PD(t u:TT):TT:=λY H Q=>t Y H λc H1=>if c=Uj then Q Uj H1 else u Y H1 Q
def Nh(t:TT):TT:=λY H Q=>t Y H λc H1=>Q (!c) H1
def BN(d:PT X a tA):PW X (.BoolOp .And [a] pos) tA:=by
 intro f b s Y H Q I h;show isTrue_and (a8 (d b s Y H Q I h) λc s1 e=>?_)
 cases c with
 |true=>show isTrue_and_nil e
 |false=>show e
def FV(d:PT X a tA):PW X (.BoolOp .Or [a] pos) tA:=by
 intro f b s Y H Q I h;show isTrue_or (a8 (d b s Y H Q I h) λc s1 e=>?_)
 cases c with
 |false=>show isTrue_or_nil e
 |true=>show e
def xW(k:PT X a tA)(j:PW X (.BoolOp .And (b::rest) pos) tB'):PW X (.BoolOp .And (a::b::rest) pos) (Ng tA tB'):=by
 intro i d s Y H Q I h;show isTrue_and (a8 (k d s Y H _ I h) λc s1 ⟨g,e,f⟩=>?_)
 cases c with
 |true=>show j i d s1 Y g Q e f
 |false=>rwa[g,e,f]
def Et(k:PT X a tA)(j:PW X (.BoolOp .Or (b::rest) pos) tB'):PW X (.BoolOp .Or (a::b::rest) pos) (PD tA tB'):=by
 intro i d s Y H Q I h;show isTrue_or (a8 (k d s Y H _ I h) λc s1 ⟨g,e,f⟩=>?_)
 cases c with
 |true=>rwa[g,e,f]
 |false=>show j i d s1 Y g Q e f
def FW(d:PT X a tA):PT X (.UnaryOp .Not a pos) (Nh tA):=by
 intro b s Y H Q I h;show isTrue_not (d b s Y H (λc e=>Q (!c) e) I h)
def JT(ta tb:TE):TE:=λY H Q=>ta Y H λx H1=>Σc,x=.bl c/\if c=Uj then tb Y H1 Q else Q (.bl Uk) H1
def Ni(ta tb:TE):TE:=λY H Q=>ta Y H λx H1=>Σc,x=.bl c/\if c=Uj then Q (.bl Uj) H1 else tb Y H1 Q
theorem FX{op}(h:PE X a t):PE X (.BoolOp op [a] pos) t:=λb s Y H Q I c=>BoolOp_one (h b s Y H Q I c)
def xX(k:PE X a ta)(j:PE X (.BoolOp .And (b::rest) pos) tb):PE X (.BoolOp .And (a::b::rest) pos) (JT ta tb):=by
 intro d s Y H Q I h;show BoolOp_and (a8 (k d s Y H _ I h) λv s1 ⟨x,g,f,i,e⟩=>?_);let⟨c,rfl,e⟩:=e;ext i;show UK ?_
 cases c with
 |true=>show j d s1 Y g Q f e
 |false=>rwa[.bl Uk,g,f,rfl,e]
def Eu(k:PE X a ta)(j:PE X (.BoolOp .Or (b::rest) pos) tb):PE X (.BoolOp .Or (a::b::rest) pos) (Ni ta tb):=by
 intro d s Y H Q I h;show BoolOp_or (a8 (k d s Y H _ I h) λv s1 ⟨x,g,f,i,e⟩=>?_);let⟨c,rfl,e⟩:=e;ext i;show UK ?_
 cases c with
 |false=>show j d s1 Y g Q f e
 |true=>rwa[.bl Uj,g,f,rfl,e]
def PF(t:TT)(ta tb:TE):TE:=λY H Q=>t Y H λc H1=>if c=Uj then ta Y H1 Q else tb Y H1 Q
def o9{c:Uo}(j:PT X c tA)(l:PE X a ta)(k:PE X b tb):PE X (.IfExp c a b pos) (PF tA ta tb):=by
 intro e s Y H Q I h;show wpAny_IfExp (a8 (j e s Y H _ I h) λd s1 ⟨i,f,g⟩=>?_)
 cases d with
 |true=>show l e s1 Y i Q f g
 |false=>show k e s1 Y i Q f g
end
def SqL(K:P9)(H:Hp)(a:Up)(xs:-V):Prop:=
 Rd H a (.lst xs)\/
  Σ(o:Obj) (O:Array Um) (n:Nat),K.lookup a=B o/\o.cls=.type "list"/\o.dict=L/\o.data=.seq O n/\O.size<=sizeLine/\Vals xs O.toList
def SqT(K:P9)(H:Hp)(a:Up)(xs:-V):Prop:=
 Rd H a (.tup xs)\/
  Σ(o:Obj) (O:Array Um) (n:Nat),K.lookup a=B o/\o.cls=.type "tuple"/\o.data=.seq O n/\O.size<=sizeLine/\Vals xs O.toList
meta def Nj:Um->@&V
 |.none=>B .non
 |.bool b=>B (.bl b)
 |.int i _=>B (.int i)
 |.str x _=>B (.str x)
 |.bytes b _=>B (.byt b)
 |.float b _=>B (.flt b)
 |.ref a=>B (.ref a)
 |.type n=>B (.ty n)
 |_=>L
def RelV.abs(r:RelV x u):Nj u=B x:=by
 cases x with
 |non=>ext r;rfl
 |bl _=>ext r;rfl
 |int _=>let⟨t,rfl⟩:=r;rfl
 |str _=>let⟨t,rfl⟩:=r;rfl
 |byt _=>let⟨t,rfl⟩:=r;rfl
 |flt _=>let⟨t,rfl⟩:=r;rfl
 |ref _=>ext r;rfl
 |ty _=>ext r;rfl
theorem RelV.inj(r:RelV x u)(q:RelV y u):x=y:=Option.some.inj (r.abs.symm.trans q.abs)
def Vals.inj(h:Vals xs us)(k:Vals ys us):xs=ys:=by
 induction h generalizing ys with
 |nil=>ext k;rfl
 |cons r t b=>cases k with
  |cons a c=>rw[r.inj a,b c]
section
variable {X:Cx} {pins:-(Up×Obj)} {Y:St} {H:Hp} {s:Uq} {a:Up} {xs ys:-V}
theorem SqL.of{K:P9}(h:H a=B (.lst xs)):SqL K H a xs:=.inl (.inl h)
theorem SqT.of{K:P9}(h:H a=B (.tup xs)):SqT K H a xs:=.inl (.inl h)
def Inv.list(I:Inv X pins Y H s)(h:SqL X.K H a xs):Σb:-Um,Vals xs b/\PlainL s.heap a b.toArray/\xs.length<=sizeLine:=by
 obtain h|⟨o,b,n,hk,c,f,d,g,r⟩:=h
 .let⟨z,b,n,r,e⟩:=h.ok I.hok;rwa[b,r,#[_,n,e,rfl,rfl,rfl],z]
 .rwa[b.toList,r,#[o,n,I.kIn a o hk,c,f,↥d],?_];let e:=r.length;dsimp[RJ] at e
  lia
def Inv.tuple(I:Inv X pins Y H s)(h:SqT X.K H a xs):Σb:-Um,Vals xs b/\IsTup s.heap a b.toArray/\xs.length<=sizeLine:=by
 obtain h|⟨o,b,n,hk,c,d,f,r⟩:=h
 .let⟨z,b,r,p⟩:=h.ok I.hok;rwa[b,r,p,z]
 .rwa[b.toList,r,#[o,I.kIn a o hk,c,n,↥d],?_];let e:=r.length;dsimp[RJ] at e
  lia
def Inv.list_inj(I:Inv X pins Y H s)(h:SqL X.K H a xs)(h':SqL X.K H a ys):xs=ys:=by
 obtain⟨c,r,⟨o,n,e,_,_,d⟩,_⟩:=I.list h;obtain⟨b,i,⟨j,k,g,_,_,f⟩,_⟩:=I.list h';rw[e] at g;ext g;rw[d] at f;injection f with d1 _;have:c=b:=by simpa using congrArg Array.toList d1
 subst this;show r.inj i
def Inv.tuple_inj(I:Inv X pins Y H s)(h:SqT X.K H a xs)(h':SqT X.K H a ys):xs=ys:=by
 obtain⟨c,r,⟨o,e,_,n,d⟩,_⟩:=I.tuple h;obtain⟨b,i,⟨j,g,_,k,f⟩,_⟩:=I.tuple h';rw[e] at g;ext g;rw[d] at f;injection f with d1 _;have:c=b:=by simpa using congrArg Array.toList d1
 subst this;show r.inj i
end
noncomputable abbrev Cx.wish(X:Cx)(E:Um->Uq->Prop):Cx:={ X with xe:=E }
abbrev Cx.nox(X:Cx):Cx:=X.wish λZ Z=>False
theorem Cx.Ok.wish{X:Cx}(ok:X.Ok)(E:Um->Uq->Prop):(X.wish E).Ok:=
 #[ok.mod,ok.kind,ok.glob,ok.blt,ok.above,ok.inj,ok.has,ok.cab,ok.hd,ok.frames,ok.stk,ok.exf,ok.bs,ok.bsz,ok.noex,ok.exfs,ok.funs,ok.frf]
theorem Cx.Ok.unwish{X:Cx}(ok:(X.wish E).Ok):X.Ok:=
 #[ok.mod,ok.kind,ok.glob,ok.blt,ok.above,ok.inj,ok.has,ok.cab,ok.hd,ok.frames,ok.stk,ok.exf,ok.bs,ok.bsz,ok.noex,ok.exfs,ok.funs,ok.frf]
section
variable {X:Cx} {pins:-(Up×Obj)} {Y:St} {H:Hp} {s:Uq} {E:Um->Uq->Prop}
theorem Inv.wish(I:Inv X pins Y H s)(E:Um->Uq->Prop):Inv (X.wish E) pins Y H s:=#[I.ok.wish E,I.os,I.bare,I.base,I.loc,I.cell,I.free,I.freeC,I.pin,I.hok,I.len]
theorem Inv.unwish(I:Inv (X.wish E) pins Y H s):Inv X pins Y H s:=#[I.ok.unwish,I.os,I.bare,I.base,I.loc,I.cell,I.free,I.freeC,I.pin,I.hok,I.len]
def SP.unwish(h:SP (X.wish E) pins D f s'):SP X pins D f s':=by
 cases f with
 |next=>let⟨b,a,I,q⟩:=h;rwa[b,a,I.unwish,q]
 |brk=>let⟨b,a,I,q⟩:=h;rwa[b,a,I.unwish,q]
 |cont=>let⟨b,a,I,q⟩:=h;rwa[b,a,I.unwish,q]
 |ret u=>let⟨v,b,a,I,r,q⟩:=h;rwa[v,b,a,I.unwish,r,q]
theorem PSs.nox{st:-Uw}{t:TS}(h:PSs X.nox st t):PSs X st t:=λa s Y H D I b=>
 wpAny_mono (h a s Y H D (I.wish _) b) (λZ Z q=>q.unwish) λZ Z z=>False.elim z
end
section
variable {X:Cx} {st:Uw} {rest:-Uw} {t u:TS} {e:Uo} {te:TE} {pos:Pos}
def xY:TS:=λD Y H=>D.nx Y H
def Nk(t u:TS):TS:=λD Y H=>t { D with nx:=u D } Y H
theorem BQ:PSs X [] xY:=λZ Z Y H Z I h=>wpAny_execs_nil #[Y,H,I,h]
def xZ(h1:PS X st t)(h2:PSs X rest u):PSs X (st::rest) (Nk t u):=by
 intro a s Y H D I h;show wpAny_execs_cons (a8 (h1 a s Y H { D with nx:=u D } I h) λf s1 q=>?_)
 cases f with
 |next=>
  let⟨c,b,d,q⟩:=q;show h2 a s1 c b D d q
 |ret v=>show q
 |brk=>show q
 |cont=>show q
def BR(h1:PS X st t):PSs X [st] t:=by
 intro a s Y H D I h;show wpAny_execs_cons (a8 (h1 a s Y H D I h) λf s1 q=>?_)
 cases f with
 |next=>show wpAny_execs_nil q
 |ret v=>show q
 |brk=>show q
 |cont=>show q
theorem BS:PS X (.Pass pos) xY:=λZ Z Y H Z I h=>wpAny_Pass #[Y,H,I,h]
def Inv.quiet(I:Inv X pins Y H s):interactive X.env=Uk:=by simp[interactive,I.ok.kind]
theorem FY{x j pos pos'}:PS X (.Expr (.Constant (.str x) j pos) pos') xY:=λZ s Y H Z I h=>wpAny_Expr (Calls.Constant_str (show SP X _ _ .next { s with toks:=s.toks+1 } from#[Y,H,I.tok _,h])) I.quiet
def JU(te:TE):TS:=λD Y H=>te Y H λZ H1=>D.nx Y H1
def BU(f:PE X e te)(b:swapsWith e L pos.line X.env=pure Uk:=by rfl):PS X (.Expr e pos) (JU te):=by
 intro a s Y H D I h;show wpAny_Expr_any (a8 (f a s Y H _ I h) λv s1 ⟨x,g,c,i,d⟩=>#[Y,g,c,d]) I.quiet b
def Nl(te:TE):TS:=λD Y H=>te Y H D.rt
def FZ(f:PE X e te):PS X (.Return (B e) pos) (Nl te):=by
 intro a s Y H D I h;show wpAny_Return_some (a8 (f a s Y H _ I h) λv s1 ⟨x,g,b,c,d⟩=>#[x,Y,g,b,c,d])
def Nm(c:TT)(t u:TS):TS:=λD Y H=>c Y H λb H1=>if b=Uj then t D Y H1 else u D Y H1
def Ev{c:Uo}{a b:-Uw}{tc:TT}(k:PT X c tc)(l:PSs X a t)(j:PSs X b u):PS X (.If c a b pos) (Nm tc t u):=by
 intro e s Y H D I h;show wpAny_If (a8 (k e s Y H _ I h) λd s1 ⟨i,f,g⟩=>?_)
 cases d with
 |true=>show l e s1 Y i D f g
 |false=>show j e s1 Y i D f g
end
abbrev TG:=V->St->Hp->(St->Hp->Prop)->Prop
abbrev ya:=-V->St->Hp->(St->Hp->Prop)->Prop
def PG(X:Cx)(O:Uo)(t:TG):Prop:=
 ∀(pins:-(Up×Obj)) (s:Uq) (Y:St) (H:Hp) (v:V) (u:Um) (Q:St->Hp->Prop),Inv X pins Y H s->RelV v u->t v Y H Q->
  ⇑X (assign O X.env u) (λZ s'=>ΣY' H',Inv X pins Y' H' s'/\Q Y' H') X.xe s
def F5(X:Cx)(ts:-Uo)(t:ya):Prop:=
 ∀(pins:-(Up×Obj)) (s:Uq) (Y:St) (H:Hp) (vs:-V) (us:-Um) (Q:St->Hp->Prop),Inv X pins Y H s->Vals vs us->t vs Y H Q->
  ⇑X (assignInOrder ((UI ts X.env).map (·.2)) us) (λZ s'=>ΣY' H',Inv X pins Y' H' s'/\Q Y' H') X.xe s
abbrev F6:=V->V->V->Hp->(Hp->Prop)->Prop
def JV(X:Cx)(t:F6):Prop:=
 ∀(pins:-(Up×Obj)) (s:Uq) (Y:St) (H:Hp) (o i v:V) (ov O u:Um) (Q:Hp->Prop),Inv X pins Y H s->RelV o ov->RelV i O->RelV v u->t o i v H Q->
  ⇑X (setItem ov O u) (λZ s'=>ΣH',Inv X pins Y H' s'/\Q H') X.xe s
abbrev Nn:=V->V->Hp->VK->Prop
def Pa(X:Cx)(op:UD)(t:Nn):Prop:=
 ∀(pins:-(Up×Obj)) (s:Uq) (Y:St) (H:Hp) (x y:V) (v u:Um) (Q:VK),Inv X pins Y H s->RelV x v->RelV y u->t x y H Q->
  ⇑X (inplaceOp op v u) (EP X pins Y Q) X.xe s
section
variable {X:Cx} {pos:Pos}
def hV(i:Nat):TG:=λv Y H Q=>Q (Y.set i (B v)) H
def uh{i:Nat}(e:X.N.Nodup)(hi:X.N[i]?=B x)(b:Es X.env.scope x)(d:X.fn x=Uj\/X.env.scope.names.lookup x=B .local:=by assumption):PG X (.Name x pos) (hV i):=by
 intro a s Y H v u Q I r h;show wpAny_assign_Name (fy I e hi b r (λf c=>#[_,H,c,h]) d)
def F7:ya:=λvs Y H Q=>vs=[]/\Q Y H
def ui(t:TG)(u:ya):ya:=λvs Y H Q=>Σv r,vs=v::r/\t v Y H λY' H'=>u r Y' H' Q
def uj:F5 X [] F7:=by
 intro a s Y H b c Q I r h;let⟨e,h⟩:=h;subst e;ext r;show assignInOrder_nil #[Y,H,I,h]
def pb{e:Uo}{es:-Uo}{t:TG}{u:ya}(h1:PG X e t)(h2:F5 X es u)
  (hs:(UI (e::es) X.env).map (·.2)=assign e X.env::(UI es X.env).map (·.2):=by rfl):F5 X (e::es) (ui t u):=by
 intro a s Y H i j Q I r h;let⟨v,k,e1,h⟩:=h;subst e1
 cases r with
 |cons r d=>
  rw[hs];show assignInOrder_cons (a8 (h1 a s Y H _ _ _ I r h) λ_ s1 ⟨c,g,b,f⟩=>?_);show h2 a s1 c g _ _ Q b d f
def F8(K:P9)(n:Nat)(t:ya):TG:=λv Y H Q=>Σa xs,v=.ref a/\SqT K H a xs/\xs.length=n/\t xs Y H Q
def yd(q:X.calm=Uj)(h:F5 X es t)(i:(UI es X.env).length=n:=by rfl)(d:(UI es X.env).findIdx? (·.1)=L:=by rfl):PG X (.Tuple es k pos) (F8 X.K n t):=by
 intro c s Y H v u Q I r f;let⟨a,y,e1,hq,x,f⟩:=f;subst e1;ext r;let⟨w,g,p,z⟩:=I.tuple hq;show assign_Tuple_tuple (I.ok.hd q) p (by simp[i,<- x,g.length]) d λl m=>?_;let j:Inv X c Y H { s with heap:=l }:=I.kept (t':=s.toks) λb o e=>m b o (Qu (Qj e)) e;show h c _ Y H y _ Q j ↥g f
def No(to R:TE)(t:F6):TG:=λv Y H Q=>to Y H λo H1=>R Y H1 λi H2=>t o i v H2 λO=>Q Y O
def F9{o i:Uo}{to d:TE}{t:F6}(g:PE X o to)(hi:PE X i d)(e:JV X t)
  (ha:∀v,assign (.Subscript o i pos) X.env v=(do
   let b <- holding [v] (eval o X.env);let c <- holding [v,b] (eval i X.env)
   standAt pos
   holding [v,b,c] (setItem b c v)
   release [v,b,c] []):=by intro _;rfl):PG X (.Subscript o i pos) (No to d t):=by
 intro a s Y H v u Q I r h;rw[ha];show Ul (UF (a8 (g a s Y H _ I h) λb s1 ⟨x,A,f,j,n⟩=>?_));show Ul (UF (a8 (hi a s1 Y A _ f n) λc s2 ⟨y,m,z,p,k⟩=>?_));show Ul (wpAny_standAt (Ul (UF (a8 (e a s2 Y m x y v b c u _ z j p r k) λ_ s3 ⟨w,q,l⟩=>?_))));show wpAny_release #[Y,w,q,l]
def BV(te:TE)(g:TG):TS:=λD Y H=>te Y H λx H1=>g x Y H1 D.nx
def rR{tg e:Uo}{te:TE}{g:TG}(j:PE X e te)(f:PG X tg g)(b:swapsWithSole [tg] e pos.line X.env=pure Uk:=by rfl)(k:swappedStores [tg] e X.env=pure L:=by rfl)
  (h1:(UI [tg] X.env).map (·.2)=[assign tg X.env]:=by rfl):PS X (.Assign [tg] e pos) (BV te g):=by
 intro a s Y H D I h;show wpAny_Assign_stores (a8 (j a s Y H _ I h) λv s1 ⟨x,l,c,d,i⟩=>?_) b k;rw[h1];show a8 (f a s1 Y l x v _ c d i) λZ s2 q=>q
def rS{i:Nat}{x:Str}{e:Uo}{te:TE}{pos':Pos}(k:X.N.Nodup)(hi:X.N[i]?=B x)(f:Es X.env.scope x)(l:PE X e te)(b:swapsWith e (B (.Name x pos')) pos.line X.env=pure Uk:=by rfl)(g:X.fn x=Uj\/X.env.scope.names.lookup x=B .local:=by assumption) :
  PS X (.Assign [.Name x pos'] e pos) (BV te (hV i)):=by
 intro a s Y H D I h;show wpAny_Assign_Name (a8 (l a s Y H _ I h) λv s1 ⟨y,n,c,d,j⟩=>?_) b;show fy c k hi f d (λs2 m=>#[_,n,m,j]) g
def Np(i j:Nat)(ta:TA):TS:=λD Y H=>ta Y H λvs H1=>Σv w,vs=[v,w]/\D.nx ((Y.set i (B v)).set j (B w)) H1
def Ga{i j:Nat}{x y:Str}{a b:Uo}{ta:TA}{n py t:Pos}{k l d}(Q:X.calm=Uj)(E:X.N.Nodup)(hi:X.N[i]?=B x)(R:X.N[j]?=B y)(z:i≠j)
  (hx:X.env.scope.names.lookup x=B .local) (hy:X.env.scope.names.lookup y=B .local) (ha:PA X [a,b] ta)
  (hw:swappedStores [.Tuple [.Name x n,.Name y py] k t] (.Tuple [a,b] l d) X.env=pure (B [x,y]))
  (hs:swapsWithSole [.Tuple [.Name x n,.Name y py] k t] (.Tuple [a,b] l d) pos.line X.env=pure Uk:=by rfl) :
  PS X (.Assign [.Tuple [.Name x n,.Name y py] k t] (.Tuple [a,b] l d) pos) (Np i j ta):=by
 intro c s Y H D I h;rw[exec_Assign_arm];show Ul (wpAny_standAt ?_);rw[hs];show Ul (Ur ?_);rw[if_neg ⋯];show Ul (Tuple_ (a8 (ha _ c s Y H _ I h) λT s1 ⟨Z,F,O,P,m⟩=>?_));let⟨v,w,e1,m⟩:=m;subst e1
 obtain⟨g,f,rfl,V,r⟩:Σg f,T=[g,f]/\RelV v g/\RelV w f:=by
  cases P with
  |cons p q=>
   cases q with
   |cons S M=>
    ext M;rwa[_,_,rfl,p,S]
 show UA ?_ (by change 2<=sizeLine;decide);let W:Inv X c Y F { s1 with heap:=s1.heap.push { cls:=.type "tuple",data:=.seq [g,f].toArray } }:=O.kept (t':=s1.toks) λb o e=>Qg _ e;rw[hw];show Ul (Ur ?_)
 change ⇑X (do rule "assign.swapped-stores";let items <- unpackItems (.ref s1⁻¹) 2 L;assignInOrder [λv=>bindName X.env y v,λv=>bindName X.env x v] items.reverse;pure Flow.next) _ _ _
 show Ul (wpAny_rule (Ul (unpackItems_tuple (items:=[g,f].toArray) (I.ok.hd Q) (IsTup.new s1.heap _) λh' u=>?_)));let U:=W.kept (h':=h') (t':=s1.toks) λb o e=>u b o (Qu (Qj e)) e
 change Us _ _ (assignInOrder [λv=>bindName X.env y v,λv=>bindName X.env x v] [f,g] >>= λJ=>pure Flow.next) _ _ _
 show Ul (assignInOrder_cons (wpAny_bindName (fy U E R (.inl hy) r (λs2 K=>?_) (.inr hy))));show assignInOrder_cons (wpAny_bindName (fy K E hi (.inl hx) V (λs3 C=>assignInOrder_nil (Ur ?_)) (.inr hx)));rw[List.set_comm _ _ (Ne.symm z)] at C;rwa[_,F,C,m]
def Nq(i:Nat)(te:TE)(O:Nn):TS:=λD Y H=>Σx,Y[i]?=B (B x)/\te Y H λy H1=>O x y H1 λz H2=>D.nx (Y.set i (B z)) H2
def Gb{i:Nat}{x:Str}{e:Uo}{te:TE}{op:UD}{g:Nn}{pos':Pos}(M:X.N.Nodup)(hi:X.N[i]?=B x)(d:Es X.env.scope x)(T:PE X e te)(o:Pa X op g)(F:X.fn x=Uj\/X.env.scope.names.lookup x=B .local:=by assumption) :
  PS X (.AugAssign (.Name x pos') op e pos) (Nq i te g):=by
 intro a s Y H D I h;let⟨v,e1,h⟩:=h;let⟨m,P,S⟩:=I.loc;let f:JR X.env.scope x:=by obtain k|k:=d;show .inl k;show .inr (.inl k)
 let⟨u,r,l⟩:=S i x v hi e1 f;show wpAny_AugAssign_Name ?_
 let j:⇑X (eval e X.env) (λw t=>⇑X (inplaceOp op u w) (λr V=>⇑X (storeName X.env x r) (λL=>SP X a D .next) X.xe V) X.xe t) X.xe s:=by
  show a8 (T a s Y H _ I h) λw s1 ⟨y,W,n,p,K⟩=>?_;show a8 (o a s1 Y W v y u w _ n r p K) λz s2 ⟨Z,C,U,Q,q⟩=>?_;show fy U M hi d Q (λs3 R=>#[_,C,R,q]) F
 rcases l with⟨hk,O⟩|⟨hk,c,E,b⟩
 .show wpAny_loadName_local I.ok.kind hk P O j
 .obtain hk|hk:=hk
  .show wpAny_loadName_cell I.ok.kind hk E b j
  .obtain k|k:=d
   .have:X.env.scope.names.lookup x=B .free:=hk;rw[k] at this;ext this
   .have:X.env.scope.names.lookup x=B .free:=hk;rw[k] at this;ext this
def Gc(c:TT)(tb:TS):TS:=λD Y H=>ΣW:Nat->St->Hp->Prop,(Σm,W m Y H)/\∀m Y H,W m Y H->
 c Y H λb H1=>if b=Uj then ΣN:St->Hp->Prop,(∀Y' H',N Y' H'->ΣO,O<m/\W O Y' H')/\tb { D with nx:=N,ct:=N,bk:=D.nx } Y H1 else D.nx Y H1
def yf{c:Uo}{body:-Uw}{tc:TT}{tb:TS}(r:PassesOwn (Ut X.prog X.w) X.A X.env X.xe)(K:PT X c tc)(P:PSs X body tb):PS X (.While c body [] pos) (Gc tc tb):=by
 intro a s Y H D I h;obtain⟨W,⟨Q,M⟩,d⟩:=h;show wpAny_While (codeAny_whileLoop (λn O=>Σy u,Inv X a y u O/\W n y u) ?_ Q #[Y,H,I,M])
 rintro n s1 ⟨k,C,E,F⟩
 show UM r (a8 (K a s1 k C _ E (d n k C F)) λb s2 ⟨t,z,i⟩=>?_)
 cases b with
 |true=>
  let⟨N,x,i⟩:=i;rw[if_pos rfl];show UM r (a8 (P a s2 k t _ z i) λf s3 j=>?_)
  cases f with
  |next=>
   let⟨e,g,p,m⟩:=j;let⟨l,o,q⟩:=x e g m;rwa[l,o,e,g,p,q]
  |cont=>
   let⟨e,g,p,m⟩:=j;let⟨l,o,q⟩:=x e g m;rwa[l,o,e,g,p,q]
  |brk=>show j
  |ret v=>show j
 |false=>
  rw[if_neg Qx];show wpAny_execs_nil #[k,t,z,i]
end
structure It where
 go:Nat->Hp->Prop
 yld:Nat->Hp->V->Hp->Prop
 stop:Nat->Hp->Prop
def i5(X:Cx)(pins:-(Up×Obj))(H:Hp)(b:Up):Prop:=
 H b=L/\b≠X.env.locals/\b∉X.fs/\(b∈X.ex\/X.s₀⁻¹<=b)/\(∀x c,X.env.cells.lookup x=B c->c≠b)/\∀p∈X.pn++pins,p.1≠b
def Inv.fpOk{H H':Hp}{s:Uq}(I:Inv X pins Y H s)(a:s⁻¹<=b)(d:H' b=L):i5 X pins H' b:=by
 rwa[d,Rh (Qn I.lt a),I.nofs a,.inr (QG I.sz a),λx c e z=>?_,λp f z=>?_]
 .let⟨v,q⟩:=I.cell x c e;show absurd (Qn q.lt (by rw[z];show a)) (Re _)
 .show absurd (Qn (Qj (I.pin p f).1) (by rw[z];show a)) (Re _)
structure rT(P:Program)(w:World)(K:P9)(tg:Expr)(J:It)(fp:-Addr)(it:Addr)(tn:Nat->Heap->Prop):Prop where
 mem:it∈fp
 obj:∀i h,tn i h->∀b∈fp,Σo,h.get? b=B o/\∀v,o.data≠.cell v
 keep:∀i h h',tn i h->(∀b∈fp,∀o,h.get? b=B o->h'.get? b=B o)->tn i h'
 item:∀(X:Cx),X.prog=P->X.w=w->X.K=K->X.calm=Uj->∀(i:Nat) (pins:-(Up×Obj)) (s:Uq) (Y:St) (H:Hp) (E:Um->Uq->Prop),Inv X pins Y H s->(∀b∈fp,i5 X pins H b)->tn i s.heap->J.go i H->
  Us (Ut P w) X.A (pyNext (.ref it)) (λr s1=>Σu,r=B u/\
   Us (Ut P w) X.A (letOwnedTupleGo tg (.ref it) u) (λZ s2=>Σx H',Inv X pins Y H' s2/\RelV x u/\J.yld i H x H'/\tn (i+1) s2.heap/\∀b∈fp,H' b=L) E s1) E s
 done:∀(X:Cx),X.prog=P->X.w=w->X.K=K->X.calm=Uj->∀(i:Nat) (pins:-(Up×Obj)) (s:Uq) (Y:St) (H:Hp) (E:Um->Uq->Prop),Inv X pins Y H s->(∀b∈fp,i5 X pins H b)->tn i s.heap->J.stop i H->
  Us (Ut P w) X.A (pyNext (.ref it)) (λr s1=>r=L/\Inv X pins Y H s1) E s
 self:∀(A:Uy) (i:Nat) (s:Uq) (Q:Um->Uq->Prop) (E:Um->Uq->Prop),tn i s.heap->Q (.ref it) s->Us (Ut P w) A (pyIter (.ref it)) Q E s
abbrev TI:=St->Hp->(It->Hp->Prop)->Prop
def Nr(X:Cx)(pins:-(Up×Obj))(Y:St)(tg:Uo)(R:It->Hp->Prop)(O:Um)(s2:Uq):Prop:=
 Σ(it:Up) (fp:-Up) (U:Nat->Uz->Prop) (J:It) (H':Hp),O=.ref it/\Inv X pins Y H' s2/\rT X.prog X.w X.K tg J fp it U/\U 0 s2.heap/\(∀b∈fp,i5 X pins H' b)/\R J H'
def PI(X:Cx)(tg iter:Uo)(O:TI):Prop:=
 ∀(pins:-(Up×Obj)) (s:Uq) (Y:St) (H:Hp) (R:It->Hp->Prop),Inv X pins Y H s->O Y H R->
  ⇑X (eval iter X.env) (λv s1=>⇑X (pyIter v) (Nr X pins Y tg R) X.xe s1) X.xe s
def yg{s:Uq}{o:Obj}{n:String}{Q:Unit->Uq->Prop}(d:s.heap.get? it=B o)(b:o.cls=.type n)(hd:o.data=.fields vs)(c:["enumerate","zip","dict_itemiterator","dict_reverseitemiterator","odict_iterator","itertools.zip_longest","itertools.pairwise"].contains n=Uk)(a:Q () s):Us M A (letOwnedTupleGo tg (.ref it) u) Q E s:=by
  delta letOwnedTupleGo
  cases tg<;>first
    |show Ur a
    |(cases u<;>first
        |show Ur a
        | (show Ul (wpAny_load d ?_)
           rw[b,hd]
           change Us M A (if(["enumerate","zip","dict_itemiterator","dict_reverseitemiterator","odict_iterator","itertools.zip_longest","itertools.pairwise"].contains n&&vs[0]?==B (UN _))=Uj then _ else _) Q E s
           rw[if_neg (by intro h;rw[c,Rk] at h;ext h)];show Ur a))
meta def Jr(K:P9)(a:Up):It:=
 #[λi H=>Σxs x,SqL K H a xs/\xs[i]?=B x,λi H x H'=>H'=H/\∀xs,SqL K H a xs->xs[i]?=B x,λi H=>Σxs,SqL K H a xs/\xs.length<=i]
meta def Nt(K:P9)(a:Up):It:=
 #[λi H=>Σxs x,SqT K H a xs/\xs[i]?=B x,λi H x H'=>H'=H/\∀xs,SqT K H a xs->xs[i]?=B x,λi H=>Σxs,SqT K H a xs/\xs.length<=i]
meta def JW(lo:Int)(n:Nat):It:=#[λi Z=>i<n,λi H x H'=>H'=H/\x=.int (lo+i),λi Z=>n<=i]
theorem wy{P:Uu}{w:Ux}{K:P9}{tg:Uo}(a it:Up):rT P w K tg (Jr K a) [it] it (λi h=>h.IsListIter it a i) where
 mem:=∎
 obj:=λi h f b j=>by
  let e:b=it:=by simpa using j
  subst e;let⟨o,e,c,d⟩:=f;rwa[o,e,λv z=>by rw[d] at z;cases z]
 keep:=λi h n f k=>f.at λo e=>k it ∎ o e
 item:=by
  intro X F O hK Q i g s Y H E I m f C;subst F O hK;let⟨U,x,hq,r⟩:=C;let⟨A,M,p,V⟩:=I.list hq;let⟨u,T,Z⟩:=M.get r;let⟨t,q,f2,N,y,D⟩:=m it ∎;show wpAny_pyNext_list_item f p.isList (x:=u) ↥T λn l R=>?_;let S:Inv X g Y H { s with heap:=n }:=I.turned (t':=s.toks) (λb o j e=>(R.2 b j).trans e) t q N y D;let⟨o,e,c,d⟩:=id l;rwa[u,rfl,yg (s:={ s with heap:=n }) e c d ⋯ #[x,H,S,Z,#[rfl,λys W=>by rw[I.list_inj W hq];show r],l,λb j=>(m b j).1]]
 done:=by
  intro X F O hK Q i g s Y H E I m f C;subst F O hK;let⟨U,hq,r⟩:=C;let⟨A,M,p,V⟩:=I.list hq;let⟨t,q,f2,N,y,D⟩:=m it ∎;let hl:=M.length;show wpAny_pyNext_list_end (I.ok.hd Q) f p.isList (by simp;lia) λn eb=>#[rfl,I.turned (t':=s.toks) (λb o j e=>eb b o j e) t q N y D]
 self:=λL L L L L f h=>wpAny_pyIter_listiter f h
theorem rU{P:Uu}{w:Ux}{K:P9}{tg:Uo}(a it:Up):rT P w K tg (Nt K a) [it] it (λi h=>h.IsTupleIter it a i) where
 mem:=∎
 obj:=λi h f b j=>by
  let e:b=it:=by simpa using j
  subst e;let⟨o,e,c,d⟩:=f;rwa[o,e,λv z=>by rw[d] at z;cases z]
 keep:=λi h q f k=>f.at λo e=>k it ∎ o e
 item:=by
  intro X F O hK Q i g s Y H E I n f C;subst F O hK;let⟨U,x,hq,t⟩:=C;let⟨l,M,p,V⟩:=I.tuple hq;let⟨u,T,Z⟩:=M.get t;let⟨y,r,f2,N,A,D⟩:=n it ∎;show wpAny_pyNext_tuple_item f (show s.heap.IsTuple a l.toArray from p) (x:=u) ↥T λq m R=>?_;let S:Inv X g Y H { s with heap:=q }:=I.turned (t':=s.toks) (λb o j e=>(R.2 b j).trans e) y r N A D;let⟨o,e,c,d⟩:=id m;rwa[u,rfl,yg (s:={ s with heap:=q }) e c d ⋯ #[x,H,S,Z,#[rfl,λys W=>by rw[I.tuple_inj W hq];show t],m,λb j=>(n b j).1]]
 done:=by
  intro X F O hK Q i g s Y H E I n f C;subst F O hK;let⟨U,hq,t⟩:=C;let⟨l,M,p,V⟩:=I.tuple hq;let⟨y,r,f2,N,A,D⟩:=n it ∎;let hl:=M.length;show wpAny_pyNext_tuple_end (I.ok.hd Q) f (show s.heap.IsTuple a l.toArray from p) (by simp;lia) λq eb=>#[rfl,I.turned (t':=s.toks) (λb o j e=>eb b o j e) y r N A D]
 self:=λL L L L L f h=>wpAny_pyIter_tupleiter f h
theorem rV{P:Uu}{w:Ux}{K:P9}{tg:Uo}(it:Up)(lo:Int)(n:Nat):rT P w K tg (JW lo n) [it] it (λi h=>IsRangeIter h it (lo+(i:Nat)*1) ((n:Int)-(i:Nat)) 1) where
 mem:=∎
 obj:=λi h a b d=>by
  let e:b=it:=by simpa using d
  subst e
  show#[_,a,λv z=>by
   let N:Data.fields _=Data.cell v:=z;cases N]
 keep:=λi h j a k=>k it ∎ _ a
 item:=by
  intro X y u hK m i c s Y H E I g a r;subst y u hK;let⟨p,l,f2,A,q,x⟩:=g it ∎;let W:=Walks.range (prog:=X.prog) (w:=X.w) (I.ok.hd m) it lo 1 n;show W.item i s _ _ r a λv j C D f M=>?_;let⟨t,rfl⟩:=D;let F:Inv X c Y H { s with heap:=j,toks:=C }:=I.turned (λb o d e=>M b o ↥d e) p l A q x;rwa[_,rfl,yg (s:={ s with heap:=j,toks:=C }) (n:="range_iterator") f rfl rfl ⋯ #[.int (lo+i),H,F,#[t,?_],#[rfl,rfl],f,λb d=>(g b d).1]];rw[Int.mul_one]
 done:=by
  intro X y u hK m i c s Y H E I g a r;subst y u hK;let⟨p,l,f2,A,q,x⟩:=g it ∎;show wpAny_pyNext_range_end (I.ok.hd m) a (by have:n<=i:=r;lia) λj O=>#[rfl,I.turned (t':=s.toks) (λb o d e=>O b o d e) p l A q x]
 self:=λZ Z Z Z Z a h=>wpAny_pyIter_rangeiter a h
section
variable {X:Cx} {tg:Uo}
def JX(K:P9)(tl:TE):TI:=λY H R=>tl Y H λx H1=>Σa,x=.ref a/\(Σxs,SqL K H1 a xs)/\R (Jr K a) H1
def Nu(K:P9)(tl:TE):TI:=λY H R=>tl Y H λx H1=>Σa,x=.ref a/\(Σxs,SqT K H1 a xs)/\R (Nt K a) H1
def BW{l:Uo}{tl:TE}(k:PE X l tl):PI X tg l (JX X.K tl):=by
 intro c s Y H R I h;show a8 (k c s Y H _ I h) λv s1 ⟨x,j,d,f,m⟩=>?_;obtain⟨a,e,⟨n,hq⟩,q⟩:=m;subst e;ext f;let⟨i,r,p,t⟩:=d.list hq;show UP p.isList ?_;rwa[s1⁻¹,[s1⁻¹],_,_,j,rfl,d.kept (t':=s1.toks) λb o e=>Qg _ e,wy a _,#[_,Qm _ rfl,rfl,rfl],λb g=>?_,q];let e:b=s1⁻¹:=by simpa using g
 subst e;show d.fpOk (Qe _) (d.hok.fresh (Qe _))
def Ge{l:Uo}{tl:TE}(k:PE X l tl):PI X tg l (Nu X.K tl):=by
 intro c s Y H R I h;show a8 (k c s Y H _ I h) λv s1 ⟨x,j,d,g,m⟩=>?_;obtain⟨a,e,⟨n,hq⟩,q⟩:=m;subst e;ext g;let⟨f,r,p,t⟩:=d.tuple hq;show wpAny_pyIter_tuple (show s1.heap.IsTuple a f.toArray from p) ?_;rwa[s1⁻¹,[s1⁻¹],_,_,j,rfl,d.kept (t':=s1.toks) λb o e=>Qg _ e,rU a _,#[_,Qm _ rfl,rfl,rfl],λb i=>?_,q];let e:b=s1⁻¹:=by simpa using i
 subst e;show d.fpOk (Qe _) (d.hok.fresh (Qe _))
def pe{s:Uq}{R:It->Hp->Prop}{lo hi:Int}{tk:Nat}(I:Inv X pins Y H s)(h1:-(2^62)<=lo)(h2:lo<2^62)(f:-(2^62)<=hi)(c:hi<2^62)(q:R (JW lo (hi-lo).toNat) H):⇑X (pyIter (.ref s⁻¹)) (Nr X pins Y tg R) E { s with heap:=s.heap.push { cls:=.type "range",data:=.fields [.int lo t,.int hi u,.int 1 v].toArray },toks:=tk }:=by
 show wpAny_pyIter_range (IsRange.new ..) (small_one h1 h2 f c) ?_;let a:Inv X pins Y H { s with heap:=s.heap.push { cls:=.type "range",data:=.fields [.int lo t,.int hi u,.int 1 v].toArray },toks:=tk }:=I.kept λb o e=>Qg _ e
 show#[(s.heap.push { cls:=.type "range",data:=.fields [.int lo t,.int hi u,.int 1 v].toArray }).objs.size,[(s.heap.push { cls:=.type "range",data:=.fields [.int lo t,.int hi u,.int 1 v].toArray }).objs.size],_,_,H,rfl,
  a.kept (t':=tk) λb o e=>Qg _ e,rV _ lo (hi-lo).toNat,?_,λb d=>?_,q]
 .let e1:lo+((0:Nat):Int)*1=lo:=∎
  let e2:(((hi-lo).toNat:Nat):Int)-((0:Nat):Int)=Builtin.Range.rangeSize lo hi 1:=by rw[rangeSize_one];split<;>lia
  change IsRangeIter _ _ (lo+((0:Nat):Int)*1) ((((hi-lo).toNat:Nat):Int)-((0:Nat):Int)) 1;rw[e1,e2];show Qm _ rfl
 .let e:b=(s.heap.push { cls:=.type "range",data:=.fields [.int lo t,.int hi u,.int 1 v].toArray }).objs.size:=by simpa using d
  subst e;show a.fpOk (Qe _) (a.hok.fresh (Qe _))
def JY(ta:TA):TI:=λY H R=>ta Y H λvs H1=>Σj:Int,vs=[.int j]/\-(2^62)<=j/\j<2^62/\R (JW 0 j.toNat) H1
def JZ(ta:TA):TI:=λY H R=>ta Y H λvs H1=>Σi j:Int,vs=[.int i,.int j]/\(-(2^62)<=i/\i<2^62/\-(2^62)<=j/\j<2^62)/\R (JW i (j-i).toNat) H1
def wz{a:Uo}{ta:TA}{p pos:Pos}(m:Gl X "range")(d:X.mg "range" = L)(n:PA X [a] ta)(f:Uv [a] X.env=[(Uk,eval a X.env)]:=by rfl):PI X tg (.Call (.Name "range" p) [a] [] pos) (JY ta):=by
 intro b s Y H R I h;show Call_ (dR I m d boot_range (PyProof.Rows.callWith_type1 (a8 (n pos b s Y H _ I h) λu s1 ⟨o,v,g,i,c⟩=>?_) f rfl));let⟨j,e,c,k,q⟩:=c;subst e
 cases i with
 |cons r l=>
  ext l;let⟨t,rfl⟩:=r;show call_range_1 (pe g ∅ ∅ c k ↥q)
def wB{a b:Uo}{ta:TA}{p pos:Pos}(w:Gl X "range")(v:X.mg "range" = L)(x:PA X [a,b] ta)(g:Uv [a,b] X.env=[(Uk,eval a X.env),(Uk,eval b X.env)]:=by rfl)(hs2:Uv [b] X.env=[(Uk,eval b X.env)]:=by rfl) :
  PI X tg (.Call (.Name "range" p) [a,b] [] pos) (JZ ta):=by
 intro c s Y H R I h;show Call_ (dR I w v boot_range (PyProof.Rows.callWith_type1 (a8 (x pos c s Y H _ I h) λz s1 ⟨y,A,k,l,d⟩=>?_) #v[g,hs2] (by rw[hs2];rfl)));obtain⟨i,j,e,⟨d,m,n,u⟩,q⟩:=d;subst e
 cases l with
 |cons r f=>
  cases f with
  |cons o f=>
   ext f;let⟨t,rfl⟩:=r;let⟨C,rfl⟩:=o;show call_range_2 (pe k d m n u q)
def Nw(R:TI)(g:TG)(tb:TS):TS:=λD Y H=>R Y H λJ H1=>ΣW:Nat->Nat->St->Hp->Prop,(Σm,W 0 m Y H1)/\∀i m Y H,W i m Y H->
 (J.stop i H/\D.nx Y H)\/(J.go i H/\ΣN:St->Hp->Prop,(∀Y' H',N Y' H'->ΣO,O<m/\W (i+1) O Y' H')/\∀x H',J.yld i H x H'->g x Y H' λU H2=>tb { D with nx:=N,ct:=N,bk:=D.nx } U H2)
meta def nH(O:-Up)(h:Uz):-(Up×Obj):=O.filterMap λb=>(h.get? b).map λo=>(b,o)
theorem br{a:-Up}{h:Uz}(c:b∈a)(e:h.get? b=B o):(b,o)∈nH a h:=SI.mpr #[b,c,by rw[e];rfl]
def wC{a:-Up}{h:Uz}{p:Up×Obj}(d:p∈nH a h):p.1∈a/\h.get? p.1=B p.2:=by
 let⟨b,f,e⟩:=SI.mp d
 cases q:h.get? b with
 |none=>rw[q] at e;ext e
 |some o=>
  rw[q] at e;let c:(b,o)=p:=Option.some.inj e;subst c;rwa[f,q]
theorem Inv.pinned{pins:-(Up×Obj)}{s:Uq}{a:-Up}(I:Inv X pins Y H s)(k:∀b∈a,i5 X pins H b)(g:∀b∈a,Σo,s.heap.get? b=B o/\∀v,o.data≠.cell v):Inv X (pins++nH a s.heap) Y H s:=
 I.pins_of λp i=>(Qp.mp i).elim (λz=>I.pin p (Ql _ z)) λz=>by
  let⟨f,e⟩:=wC z;let⟨j,h,f2,z_⟩:=k p.1 f;let⟨o,c,d⟩:=g p.1 f;rw[e] at c;ext c;rwa[e,j,h,f2,d]
theorem Inv.unpinned{pins pl:-(Up×Obj)}(I:Inv X (pins++pl) Y H s):Inv X pins Y H s:=I.pins_of λp a=>I.pin p (Ql _ (QL _ a))
def Gf{iter:Uo}{body:-Uw}{wi:TI}{g:TG}{tb:TS}{pos:Pos}(E:PassesOwn (Ut X.prog X.w) X.A X.env X.xe)(hc:X.calm=Uj)(hi:PI X tg iter wi)(hg:PG X tg g)(p:PSs X body tb)
  (hs:∀x,foldedSetIterable iter X.env x=pure x:=by intro _;rfl):PS X (.For tg iter body [] pos) (Nw wi g tb):=by
 intro a s Y H D I h;show wpAny_For (a8 (hi a s Y H _ I h) λv s1 h1=>a8 h1 λhd s2 h2=>?_) hs;obtain⟨it,P,tn,J,H2,e,I2,T,V,f2,W,⟨m0,w0⟩,K⟩:=h2;subst e
 let l:∀{t:Hp},(∀b∈P,t b=L)->∀b∈P,i5 X a t b:=λhn b p=>#[hn b p,(f2 b p).2];show codeAny_forLoop_any (λn s'=>Σi Q t,Inv X a Q t s'/\tn i s'.heap/\(∀b∈P,t b=L)/\W i n Q t) ?_ m0 #[0,Y,H2,I2,V,λb p=>(f2 b p).1,w0]
 rintro n s3 ⟨i,O,U,I3,M,S,w3⟩
 rcases K i n O U w3 with⟨R,qn⟩|⟨go,N,hN,F⟩
 .show UM E (a8 (T.done X rfl rfl rfl hc i a s3 O U X.xe I3 (l S) M R) λr s4 ⟨hr,I4⟩=>?_);subst hr;show wpAny_execs_nil #[O,U,I4,qn]
 .show UM E (a8 (T.item X rfl rfl rfl hc i a s3 O U X.xe I3 (l S) M go) λr s4 ⟨u,hr,h4⟩=>?_);subst hr;show UM E (a8 h4 λ_ s5 ⟨x,H5,I5,r5,y5,z,Z⟩=>?_);let ha:=I5.pinned (l Z) (T.obj _ _ z);show UM E (a8 (hg _ s5 O H5 x u _ ha r5 (F x H5 y5)) λ_ s6 ⟨Y6,H6,I6,q6⟩=>?_);show UM E (a8 (p _ s6 Y6 H6 _ I6 q6) λf s7 y=>?_)
  let c:∀{j:St} {k:Hp},Inv X (a++nH P s5.heap) j k s7->N j k->Σm,m<n/\Σi Q t,Inv X a Q t s7/\tn i s7.heap/\(∀b∈P,t b=L)/\W i m Q t:=λ{j k} q C=>by
   let⟨m',hm,w7⟩:=hN j k C;rwa[m',hm,i+1,j,k,q.unpinned,T.keep _ _ _ z λb p o e=>(q.pin (b,o) (Ql _ (Ql _ (br p e)))).1,λb p=>?_,w7];let⟨o,e,d⟩:=T.obj _ _ z b p;show(q.pin (b,o) (Ql _ (Ql _ (br p e)))).2.1
  cases f with
  |next=>let⟨j,k,q,C⟩:=y;show c q C
  |cont=>let⟨j,k,q,C⟩:=y;show c q C
  |brk=>let⟨j,k,q,y⟩:=y;rwa[j,k,q.unpinned,y]
  |ret v=>let⟨x7,j,k,q,r7,y⟩:=y;rwa[x7,j,k,q.unpinned,r7,y]
end
abbrev R2:=V->V->Hp->VK->Prop
def gN(X:Cx)(f:Um->Um->Sem Um)(r:R2):Prop:=
 ∀(pins:-(Up×Obj)) (s:Uq) (Y:St) (H:Hp) (x y:V) (v u:Um) (Q:VK),Inv X pins Y H s->RelV x v->RelV y u->r x y H Q->
  ⇑X (f v u) (EP X pins Y Q) X.xe s
def jU(X:Cx)(f:Um)(r:-V->Hp->VK->Prop):Prop:=
 ∀(pins:-(Up×Obj)) (s:Uq) (Y:St) (H:Hp) (xs:-V) (us:-Um) (Q:VK),Inv X pins Y H s->Vals xs us->r xs H Q->
  ⇑X (call f us) (EP X pins Y Q) X.xe s
def Nx(X:Cx)(r:V->Hp->(Bool->Hp->Prop)->Prop):Prop:=
 ∀(pins:-(Up×Obj)) (s:Uq) (Y:St) (H:Hp) (x:V) (v:Um) (Q:Bool->Hp->Prop),Inv X pins Y H s->RelV x v->r x H Q->
  ⇑X (truthy v) (TP X pins Y Q) X.xe s
def MK(r:R2)(ta tb:TE):TE:=λY H Q=>ta Y H λx H1=>tb Y H1 λy H2=>r x y H2 Q
def rI(C:Int->Int->Prop)(g:Int->Int->V):R2:=λx y H Q=>Σi j,x=.int i/\y=.int j/\C i j/\Q (g i j) H
def uk(g:Int->Int->V):R2:=λx y H Q=>Σi j,x=.int i/\y=.int j/\Q (g i j) H
section
variable {X:Cx} {a b c:Uo} {ta tb tc:TE} {pos:Pos}
def Gg(p:PE X a ta)(k:PE X b tb){pins:-(Up×Obj)}{s:Uq}{Y:St}{H:Hp}{R:V->V->Hp->Prop}(I:Inv X pins Y H s)
  (h:ta Y H λx d=>tb Y d λy c=>R x y c) {Q:Um->Uq->Prop} {f:Um->Um->Sem Um}
  (hf:∀v u s2 x y c,Inv X pins Y c s2->RelV x v->RelV y u->R x y c->⇑X (f v u) Q X.xe s2) :
  ⇑X (eval a X.env) (λv l=>⇑X (eval b X.env) (λu j=>⇑X (f v u) Q X.xe j) X.xe l) X.xe s:=by
 show a8 (p pins s Y H _ I h) λv s1 ⟨x,d,e,g,n⟩=>?_;show a8 (k pins s1 Y d _ e n) λu s2 ⟨y,c,o,m,i⟩=>?_;show hf v u s2 x y c o g m i
def Ew(e:gN X (binaryOp op) r)(k:PE X a ta)(f:PE X b tb):PE X (.BinOp a op b pos) (MK r ta tb):=by
 intro c s Y H Q I h;show wpAny_BinOp (Gg k f I h λv u s2 x y g i d j q=>e c s2 Y g x y v u Q i d j q)
def Js{f:Um->Um->Sem Um}{C:Int->Int->Prop}{g:Int->Int->Int}
  (rule:∀(i j:Int) (t u:Tok) (s:Uq) (Q:Um->Uq->Prop) (E:Um->Uq->Prop),C i j->Q (.int (g i j) s.toks) { s with toks:=s.toks+1 }->⇑X (f (.int i t) (.int j u)) Q E s) :
  gN X f (rI C λi j=>.int (g i j)):=by
 intro a s Y H x y v u Q I b e h;let⟨i,j,rfl,rfl,d,q⟩:=h;let⟨t,rfl⟩:=b;let⟨c,rfl⟩:=e;show rule i j t c s _ _ d #[.int (g i j),H,I.tok _,#[_,rfl],q]
def pf{f:Um->Um->Sem Um}{g:Int->Int->Int}
  (rule:∀(i j:Int) (t u:Tok) (s:Uq) (Q:Um->Uq->Prop) (E:Um->Uq->Prop),Q (.int (g i j) s.toks) { s with toks:=s.toks+1 }->⇑X (f (.int i t) (.int j u)) Q E s) :
  gN X f (uk λi j=>.int (g i j)):=by
 intro a s Y H x y v u Q I b d h;let⟨i,j,rfl,rfl,q⟩:=h;let⟨t,rfl⟩:=b;let⟨c,rfl⟩:=d;show rule i j t c s _ _ #[.int (g i j),H,I.tok _,#[_,rfl],q]
def BX{f:Um->Um->Sem Um}{g:Int->Int->Bool}
  (rule:∀(i j:Int) (t u:Tok) (s:Uq) (Q:Um->Uq->Prop) (E:Um->Uq->Prop),Q (.bool (g i j)) s->⇑X (f (.int i t) (.int j u)) Q E s) :
  gN X f (uk λi j=>.bl (g i j)):=by
 intro a s Y H x y v u Q I b d h;let⟨i,j,rfl,rfl,q⟩:=h;let⟨t,rfl⟩:=b;let⟨c,rfl⟩:=d;show rule i j t c s _ _ #[.bl (g i j),H,I,rfl,q]
def Ny(i j:Int):Prop:=0<=j/\j<=1000000/\i.natAbs<2^64
def rW(k:Nat):(0:Int)<=2^k:=by
 rw[two_pow_cast];show Int.natCast_nonneg _
theorem Gi:gN X (binaryOp .Add) (uk λi j=>.int (i+j)):=pf λZ Z Z Z Z Z Z q=>add_int q
theorem Gj:gN X (binaryOp .Sub) (uk λi j=>.int (i-j)):=pf λZ Z Z Z Z Z Z q=>sub_int q
theorem Gk:gN X (binaryOp .Mod) (rI (λZ j=>0<j) λi j=>.int (i%j)):=Js λi j Z Z Z Z Z a q=>by
 let b:(0:Int)<j:=a;show mod_int' ∅ (by rw[Int.fmod_eq_emod_of_nonneg i ∅];show q)
theorem Gm:gN X (binaryOp .Pow) (rI Ny λi j=>.int (i^j.toNat)):=Js λZ Z Z Z Z Z Z a q=>pow_int_small a.1 a.2.1 a.2.2 q
theorem Gn:gN X (binaryOp .RShift) (rI (λZ j=>0<=j) λi j=>.int (i / 2^j.toNat)):=Js λi j Z Z Z Z Z a q=>
 rshift_int a (by rw[SQ i (rW _)];show q)
theorem Go:gN X (binaryOp .BitAnd) (uk λi j=>.int (Builtin.bitAnd i j)):=pf λZ Z Z Z Z Z Z q=>and_int q
theorem J1:gN X (binaryOp .BitOr) (uk λi j=>.int (Builtin.bitOr i j)):=pf λZ Z Z Z Z Z Z q=>or_int q
theorem Gp:gN X (binaryOp .BitXor) (uk λi j=>.int (Builtin.bitXor i j)):=pf λZ Z Z Z Z Z Z q=>xor_int q
theorem BY:gN X (inplaceOp .Add) (uk λi j=>.int (i+j)):=pf λZ Z Z Z Z Z Z q=>iadd_int q
theorem BZ:gN X (inplaceOp .BitAnd) (uk λi j=>.int (Builtin.bitAnd i j)):=pf λZ Z Z Z Z Z Z q=>iand_int q
theorem Gq:gN X (inplaceOp .BitOr) (uk λi j=>.int (Builtin.bitOr i j)):=pf λZ Z Z Z Z Z Z q=>ior_int q
theorem J2:gN X (compareOp .Lt) (uk λi j=>.bl (decide (i<j))):=BX λZ Z Z Z Z Z Z q=>lt_int q
theorem J3:gN X (compareOp .LtE) (uk λi j=>.bl (decide (i<=j))):=BX λZ Z Z Z Z Z Z q=>le_int q
theorem J4:gN X (compareOp .Gt) (uk λi j=>.bl (decide (j<i))):=BX λZ Z Z Z Z Z Z q=>gt_int q
theorem J5:gN X (compareOp .GtE) (uk λi j=>.bl (decide (j<=i))):=BX λZ Z Z Z Z Z Z q=>ge_int q
def B0{op:UO}{r:R2}(f:gN X (compareOp op) r)(l:PE X a ta)(g:PE X b tb)(d:UL op b=Uk):PE X (.Compare a [op] [b] pos) (MK r ta tb):=by
 intro c s Y H Q I h;show wpAny_Compare1 (Gg l g I h λv u s2 x y i j e k q=>f c s2 Y i x y v u Q j e k q) d
def J6(t:TE):TT:=λY H Q=>t Y H λx H'=>Σk,x=.bl k/\Q k H'
def B1{op:UO}(i:gN X (compareOp op) r)(D:PE X a ta)(m:PE X b tb)(f:UL op b=Uk):PT X (.Compare a [op] [b] pos) (J6 (MK r ta tb)):=by
 intro d s Y H Q I h
 show wpAny_isTrue_Compare1 (a8 (D d s Y H _ I h) λv s1 ⟨x,E,g,j,w⟩=>a8 (m d s1 Y E _ g w) λu s2 ⟨y,o,A,p,l⟩=>
  a8 (i d s2 Y o x y v u _ A j p l) λc s3 ⟨z,t,q,C,k,e,n⟩=>?_) f
 subst e;ext C;show UK #[t,q,n]
def yh(r R:R2)(ta tb tc:TE):TE:=λY H Q=>ta Y H λx H1=>tb Y H1 λy H2=>r x y H2 λz O=>Σk,z=.bl k/\
 (if k=Uj then tc Y O λU H4=>R y U H4 Q else Q (.bl Uk) O)
def yj(q:gN X (compareOp op) r)(g:gN X (compareOp op') r')(S:PE X a ta)(O:PE X b tb)(C:PE X c tc)(F:lastMarks [op,op'] [b,c]=Uk:=by with_unfolding_all rfl):PE X (.Compare a [op,op'] [b,c] pos) (yh r r' ta tb tc):=by
 intro f s Y H Q I h
 show Compare_chain (a8 (S f s Y H _ I h) λv s1 ⟨x,T,p,t,D⟩=>chain_link (a8 (O f s1 Y T _ p D) λu s2 ⟨y,A,R,j,w⟩=>
  a8 (q f s2 Y A x y v u _ R t j w) λd s3 ⟨z,m,l,P,k,e,i⟩=>?_)) F
 subst e;ext P;show UK ?_
 cases k with
 |false=>show ite_ff #[.bl Uk,m,l,rfl,i]
 |true=>show ite_tt (chain_last (a8 (C f s3 Y m _ l i) λK s4 ⟨N,M,n,o,E⟩=>g f s4 Y M y N u K Q n j o E))
def B2(K:P9)(x:V)(H:Hp)(k:Bool):Prop:=
 match x with
 |.non=>k=Uk
 |.bl b=>k=b
 |.int i=>k=(i != 0)
 |.str y=>y.length<=sizeLine/\k=((y.length:Int) != 0)
 |.byt y=>y.size<=sizeLine/\k=((y.size:Int) != 0)
 |.ref p=>(Σxs,SqL K H p xs/\k=!xs.isEmpty)\/(Σxs,SqT K H p xs/\k=!xs.isEmpty)\/ΣO,H p=B (.dK O)/\k=!O.isEmpty
 |_=>False
def rX{κ:Type}{a:-(κ×V)}{vs:-(κ×Um)}(r:KV a vs):(!vs.isEmpty)=!a.isEmpty:=by
 cases r<;>rfl
def kW{xs:-V}{a:-Um}(r:Vals xs a):(!a.toArray.isEmpty)=!xs.isEmpty:=by
 cases r<;>simp
def i6:(sizeLine:Nat)<2^63:=by rw[sizeLine_eq];decide
def yk:Nx X (λx H Q=>Σk,B2 X.K x H k/\Q k H):=by
 intro u s Y H x v Q I g h;let⟨k,e,q⟩:=h;let E:=i6;let D:sizeLine=16777216:=sizeLine_eq
 cases x with
 |non=>
  ext g;let a:k=Uk:=e;subst a;show truthy_none #[H,I,q]
 |bl b=>
  ext g;let a:k=b:=e;subst a;show UK #[H,I,q]
 |int i=>
  let⟨t,rfl⟩:=g;let a:k=(i != 0):=e;subst a;show PySem.P.truthy_int #[H,I,q]
 |str y=>
  let⟨t,rfl⟩:=g;obtain⟨C,a⟩:y.length<=sizeLine/\k=((y.length:Int) != 0):=e;subst a;show PySem.P.truthy_str ∅ #[H,I.tok _,q]
 |byt y=>
  let⟨t,rfl⟩:=g;obtain⟨C,a⟩:y.size<=sizeLine/\k=((y.size:Int) != 0):=e;subst a;show PySem.W.truthy_bytes ∅ #[H,I.tok _,q]
 |ref p=>
  ext g;let a:(Σf,SqL X.K H p f/\k=!f.isEmpty)\/(Σf,SqT X.K H p f/\k=!f.isEmpty)\/Σc,H p=B (.dK c)/\k=!c.isEmpty:=e;rcases a with⟨f,j,a⟩|⟨f,j,a⟩|⟨c,j,a⟩
  .subst a;let⟨o,r,n,z⟩:=I.list j;let d:=r.length;show wpAny_truthy_list n.isList (by dsimp[Qk];lia) #[H,I.tok _,by rw[kW r];show q]
  .subst a;let⟨o,r,n,z⟩:=I.tuple j;let d:=r.length;show truthy_tuple n (by dsimp[Qk];lia) #[H,I.tok _,by rw[kW r];show q]
  .subst a;obtain⟨z,A,l,r,m⟩:c.length<=sizeLine/\(p==sysModules)=Uk/\Σl,KV c l/\s.heap.DictOf (aN X.prog X.w) p l:=I.hok p _ j;let d:c.length=l.length:=Paired.length r;show wpAny_truthy_dict A m ∅ #[H,I.tok _,by rw[rX r];show q]
 |_=>show(show False from e).elim
def ym(j:PE X a ta)(i:∀b,isTrue a X.env b=(do let v <- b;standAt a.pos;holding [v] (truthy v))) :
  PT X a (λY H Q=>ta Y H λx d=>Σk,B2 X.K x d k/\Q k d):=by
 intro c s Y H Q I h;show isTrue_plain (a8 (j c s Y H _ I h) λv s1 ⟨x,l,e,f,g⟩=>yk c s1 Y l x v Q e f g) (i _)
def mG{x:V}(r:Vals [x] us):Σu,us=[u]/\RelV x u:=by
 cases r with
 |cons a b=>ext b;rwa[_,rfl,a]
def J7(r:Vals [x,y] us):Σu a,us=[u,a]/\RelV x u/\RelV y a:=by
 cases r with
 |cons b d=>
  cases d with
  |cons c e=>ext e;rwa[_,_,rfl,b,c]
def yn:jU X (.builtin "abs") (λxs H Q=>Σi,xs=[.int i]/\Q (.int (if i<0 then -(i:Int) else i)) H):=by
 intro a s Y H xs b Q I r h;let⟨i,rfl,q⟩:=h;let⟨u,rfl,t,rfl⟩:=mG r
 show call_abs_int λu c=>#[.int (if i<0 then -(i:Int) else i),H,I.tok _,#[_,rfl],q]
end
structure ObjM(h:Heap)(x dx C:Addr)(mA:Str->@&Value):Prop where
 obj:h.get? x=B (Rm C dx)
 ns:h.Ns1 dx mA
 ne:dx≠x
set_option tactic.hygienic true in
def wD{h:Uz}{mA:Str->@&Um}(n:h.Ns1 dx mA):Σc,h.get? dx=B c/\∀name,SD name c=B (mA name):=by
 let⟨o,d,l,g,k,hk,z_,f⟩:=n;rwa[o,g,λname=>?_];let e:=f name;unfold nsFind findBy at e;rw[<- Array.find?_toList] at e;delta SD;rw[k];cbv;split
 .ext1 y q;rw[q] at e;show congrArg B e
 .ext1 q;rw[q] at e
  let a:d.toList.any (·.refKey)=Uk:=by
   rw[TN];intro y i;let⟨z,t,b⟩:=hk y (Tn.mp i);simp[DictEntry.refKey,b]
  let j:¬d.toList.any (·.refKey)=Uj:=by rw[a];show Qx
  rw[if_neg j];show congrArg B e
theorem ObjM.look{mA:Str->@&Um}(I:ObjM h x dx C mA):Σa,PySem.W.InstAt h x (Rm C dx) C (B a)/\∀name,SD name a=B (mA name):=
 let ⟨a,ho,hl⟩:=wD I.ns
 #[a,#[I.obj,rfl,rfl,ho],hl]
section
variable {prog:Uu} {w:Ux} {A:Uy} {E:Um->Uq->Prop} {s:Uq} {K:P9} {x dx C f:Up} {mA:Str->@&Um} {name:Str} {v:Um}
def B3{Q:Um->Uq->Prop}(X:K.In s.heap)(I:ObjM s.heap x dx C mA)(d:Sk K C name=Uj)(c:SU K C=Uj)(f:Q6 K (.ref C) name=B L)(b:mA name=B v)(a:TW v=Uj)(h:Q v { s with toks:=s.toks+1 }) :
  Us (Ut prog w) A (getAttr (.ref x) name expr) Q E s:=by
 let⟨g,J,e⟩:=I.look;show PySem.W.get_value X J (SB d).1 (PySem.W.findObj_own c f rfl #v[e,b]) a h
def yo{Q:Um×-Um->Uq->Prop}(X:K.In s.heap)(I:ObjM s.heap x dx C mA)(a:Sk K C name=Uj)(d:Q6 K (.ref C) name=B (B (.ref f)))(g:TB K (.ref f)=Uj)(c:mA name=L)(h:Q (.ref f,[.ref x]) s) :
  Us (Ut prog w) A (getMethod (.ref x) name pl) Q E s:=by
 let⟨b,J,e⟩:=I.look;show PySem.W.method_fn X J (SB a).1 (SB a).2 d (beq_iff_eq.mp g) (by change(SD name b).map (·.isSome)=B Uk;rw[e,c];rfl) h
def B4{ns:-Str}{Q:Unit->Uq->Prop}(X:K.In s.heap)(I:ObjM s.heap x dx C mA)
  (hs:Q6 K (.ref C) "__setattr__" = B (B (.builtin "object.__setattr__"))) (hp:TQ K C=Uj) (ht:S9 K C name=B L) (hh:SU K C=Uj)
  (hw:PySem.Within mA ns) (hsz:ns.length<=sizeLine)
  (h:∀d,ObjM d x dx C (λy=>if y=name then B v else mA y)->Heap.SameBut dx s.heap d->Q () { s with heap:=d,toks:=s.toks+2 }) :
  Us (Ut prog w) A (setAttr (.ref x) name v) Q E s:=by
 let⟨n,J,q⟩:=I.look;show PySem.W.set_plain X J hs (PySem.W.osa_open (s:={ s with toks:=s.toks+1 }) (r:=L) X J hp ht λb=>?_);let⟨p,l,f⟩:=PySem.W.any_some hh;let j:s.heap.get? x=B #[.ref C,B dx,.plain,([].toArray)]:=I.obj;show Ul (Ur (Ul (Ul (wpAny_loadPart j (Ul (PySem.W.Looks.here (s:={ s with toks:=s.toks+1 }) (PySem.W.looks_clsIn X l) ?_))))));rw[f];show Ur (a:=B dx) (Ul (Ur (Ul ?_)));show wpAny_nsSet1 (s:={ s with toks:=s.toks+1 }) I.ns λd c hs2=>?_;let⟨o,m,k,i,e,g⟩:=c.count (PySem.Within.cons name v hw);show Ul (wpAny_lookBehind i (by rw[e];show pastItsLine_dict (QG g (by rw[QI];lia))) ?_);show Ur (h _ #[(hs2.2 _ (Ne.symm I.ne)).trans I.obj,c,I.ne] hs2)
def yp(X:K.In s.heap)(b:Ug K C=Uj)(hi:Q6 K (.ref C) "__init__" = B (B (.ref f)))(c:PySem.W.typeIn K (.ref f)=B (.type "function"))(h:codeAny (Ut prog w) (A.under (.builtin "type.__call__" #[.ref C::vs,kw])) (.call (.ref f) #[.ref (s⁻¹+1)::vs,kw]) (PySem.W.InitBack (s⁻¹+1) R)
   { s with heap:=(s.heap.push Q8).push (Rm C s⁻¹) }) :
  codeAny (Ut prog w) A (.call (.ref C) #[vs,kw]) R s:=by
 let⟨e,g,d,t,i⟩:=s;show PySem.W.make_core (PySem.W.makes_of X b) (PySem.W.looks_findIn X hi) (λa=>PySem.W.bind_fn X a c) (.inl rfl) h
end
meta def putF(f:Str)(v:V):-(Str×V)->-(Str×V)
 |[]=>[(f,v)]
 |(g,x)::r=>if g=f then(g,v)::r else(g,x)::putF f v r
theorem jV(f g:Str)(v:V):∀fs:-(Str×V),(putF f v fs).lookup g=if g=f then B v else fs.lookup g
 |[]=>by
  change Rf g [(f,v)]=_;by_cases h:g=f
  .let a:(g==f)=Uj:=beq_iff_eq.mpr h;dsimp[Rf,a,if_pos h]
  .let a:(g==f)=Uk:=beq_eq_false_iff_ne.mpr h;dsimp[Rf,a,if_neg h]
 |(k,x)::r=>by
  let b:=jV f g v r
  rw[show putF f v ((k,x)::r)=(if k=f then(k,v)::r else(k,x)::putF f v r) from rfl]
  by_cases hk:k=f
  .rw[if_pos hk];by_cases h:g=k
   .let a:(g==k)=Uj:=beq_iff_eq.mpr h;dsimp[Rf,a,if_pos (h.trans hk)]
   .let a:(g==k)=Uk:=beq_eq_false_iff_ne.mpr h;dsimp[Rf,a,if_neg (λe:g=f=>h (e.trans hk.symm))]
  .rw[if_neg hk];by_cases h:g=k
   .let a:(g==k)=Uj:=beq_iff_eq.mpr h;dsimp[Rf,a,if_neg (λe:g=f=>hk (h.symm.trans e))]
   .let a:(g==k)=Uk:=beq_eq_false_iff_ne.mpr h;dsimp[Rf,a];show b
theorem i7(f:Str)(v:V):∀fs:-(Str×V),f∈(putF f v fs).map (·.1)/\∀g,g∈fs.map (·.1)->g∈(putF f v fs).map (·.1)
 |[]=>#[by simp[putF],λg h=>by simp at h]
 |(k,x)::r=>by
  let⟨a,b⟩:=i7 f v r
  rw[show putF f v ((k,x)::r)=(if k=f then(k,v)::r else(k,x)::putF f v r) from rfl]
  by_cases hk:k=f
  .rw[if_pos hk];subst hk;rwa[by simp,λg h=>↥h]
  .rw[if_neg hk];rwa[?_,λg h=>?_]
   .rw[QE];show Qh _ a
   .rw[QE] at h⊢;obtain e|e:=Qf.mp h
    .show Qf.mpr (.inl e)
    .show Qh _ (b g e)
theorem jW(f:Str)(v:V):∀fs:-(Str×V),(putF f v fs).length<=fs.length+1
 |[]=>by simp[putF]
 |(k,x)::r=>by
  let a:=jW f v r
  rw[show putF f v ((k,x)::r)=(if k=f then(k,v)::r else(k,x)::putF f v r) from rfl]
  by_cases hk:k=f
  .rw[if_pos hk,QI,QI];lia
  .rw[if_neg hk,QI,QI];lia
def RelO.some_of(r:RelO (B v) o):Σu,o=B u/\RelV v u:=by
 cases o with
 |none=>show(show False from r).elim
 |some u=>rwa[u,rfl,r]
def RelO.none_of(r:RelO L o):o=L:=by
 cases o with
 |none=>rfl
 |some u=>show(show False from r).elim
def wF(r:RelV v u):TW u=Uj:=by
 cases v with
 |non=>cases(show u=Value.none from r);rfl
 |bl b=>cases(show u=Value.bool b from r);rfl
 |int i=>let⟨t,e⟩:=(show Σt,u=Value.int i t from r);ext e;rfl
 |str x=>let⟨t,e⟩:=(show Σt,u=Value.str x t from r);ext e;rfl
 |byt b=>let⟨t,e⟩:=(show Σt,u=Value.bytes b t from r);ext e;rfl
 |flt b=>let⟨t,e⟩:=(show Σt,u=Value.float b t from r);ext e;rfl
 |ref a=>cases(show u=Value.ref a from r);rfl
 |ty n=>cases(show u=Value.type n from r);rfl
section
variable {P:Uu} {w:Ux} {H H':Hp} {h h':Uz} {a C dx:Up} {fs fs':-(Str×V)}
def nI(b:HOk P w H h)(e:H a=B (.ins C dx fs)):ΣmA,ObjM h a dx C mA/\(∀f,RelO (fs.lookup f) (mA f))/\PySem.Within mA (fs.map (·.1))/\fs.length<=1000/\H dx=B (.own a):=by
 let⟨d,z,c,g,mA,n,r,q⟩:=(show ObjOk P w H h a (.ins C dx fs) from b a _ e);rwa[mA,#[g,n,c],r,q,z,d]
end
structure Cls(K:P9)(C:Addr):Prop where
 pg:Sk K C Str.empty=Uj
 hd:SU K C=Uj
 po:TQ K C=Uj
 sa:Q6 K (.ref C) "__setattr__" = B (B (.builtin "object.__setattr__"))
theorem Cls.get{K:P9}{C:Up}(c:Cls K C)(f:Str):Sk K C f=Uj:=c.pg
def NoAttr(K:P9)(C:Up)(f:Str):Prop:=Q6 K (.ref C) f=B L
def NoAttr.taker{K:P9}{C:Up}{f:Str}(n:NoAttr K C f):S9 K C f=B L:=by
 delta S9;rw[show Q6 K (.ref C) f=B L from n];rfl
structure P6(K:P9)(C:Addr)(f:Str)(v:V)(u:Value):Prop where
 at_:Q6 K (.ref C) f=B (B u)
 rel:RelV v u
 get:PySem.W.specialIn K u "__get__" = B L
 cp:PySem.W.copiedNames.contains f=Uk
structure ph(K:P9)(C:Addr)(m:Str)(f:Addr):Prop where
 at_:Q6 K (.ref C) m=B (B (.ref f))
 fn:TB K (.ref f)=Uj
 kp:Q7 K (.ref f)=Uj
section
variable {X:Cx} {pins:-(Up×Obj)} {Y:St} {H:Hp} {s:Uq} {a C dx:Up} {fs:-(Str×V)} {f:Str} {v:V} {A:Uy} {E:Um->Uq->Prop}
def rY{Q:Um->Uq->Prop}(I:Inv X pins Y H s)(e:H a=B (.ins C dx fs))(c:Cls X.K C)(n:NoAttr X.K C f)(l:fs.lookup f=B v)(h:∀u s',Inv X pins Y H s'->RelV v u->Q u s'):Us (Ut X.prog X.w) A (getAttr (.ref a) f b) Q E s:=by
 let⟨g,O,r,z_,y_,x_⟩:=nI I.hok e;let⟨u,i,d⟩:=RelO.some_of (v:=v) (o:=g f) (by rw[<- l];show r f);show B3 I.kIn O (c.get f) c.hd n i (wF d) (h u _ (I.tok _) d)
def rZ{Q:Um×-Um->Uq->Prop}(I:Inv X pins Y H s)(e:H a=B (.ins C dx fs))(c:Cls X.K C)(k:ph X.K C m g)(l:fs.lookup m=L)(h:Q (.ref g,[.ref a]) s):Us (Ut X.prog X.w) A (getMethod (.ref a) m pl) Q E s:=by
 let⟨b,O,r,z_,y_,x_⟩:=nI I.hok e;let d:b m=L:=RelO.none_of (by rw[<- l];show r m);show yo I.kIn O (c.get m) k.at_ k.fn d h
def r6{Q:Unit->Uq->Prop}(I:Inv X pins Y H s)(e:H a=B (.ins C dx fs))(c:Cls X.K C)(n:NoAttr X.K C f)(M:fs.length<1000)(v:RelV y u)(h:∀s',Inv X pins Y (upd H a (.ins C dx (putF f y fs))) s'->Q () s'):Us (Ut X.prog X.w) A (setAttr (.ref a) f u) Q E s:=by
 let⟨j,O,r,k,z_,i⟩:=nI I.hok e;let D:(fs.map (·.1)).length<=sizeLine:=by rw[Qa,sizeLine_eq];lia
 show B4 I.kIn O c.sa c.po n.taker c.hd k D λm d l=>h _ ?_;let F:Σo,m.get? dx=B o:=let ⟨o,_,_,e',_⟩:=d.ns;#[o,e'];show I.write (x:=a) (e:=dx) (by rw[e];show True.intro) (.inr i) (λb q p z=>(l.2 b p).trans z) F ?_;rwa[by rw[ac O.ne];show i,?_,O.ne,d.obj,_,d.ns,λg=>?_,λg t=>?_]
 .have:=jW f y fs;lia
 .change RelO ((putF f y fs).lookup g) (if g=f then B u else j g)
  rw[jV];by_cases q:g=f
  .rw[if_pos q,if_pos q];show v
  .rw[if_neg q,if_neg q];show r g
 .by_cases q:g=f
  .rw[q];show(i7 f y fs).1
  .show(i7 f y fs).2 g (k g λz=>t ?_)
   change(if g=f then B u else j g)=L
   rw[if_neg q];show z
def Inv.made(I:Inv X pins Y H s):Inv X pins Y (upd (upd H s⁻¹ (.own (s⁻¹+1))) (s⁻¹+1) (.ins C s⁻¹ []))
  { s with heap:=(s.heap.push Q8).push (Rm C s⁻¹) }:=by
 let e1:(s.heap.push Q8).get? s⁻¹=B Q8:=Qm s.heap rfl
 let e2:((s.heap.push Q8).push (Rm C s⁻¹)).get? (s⁻¹+1)=B (Rm C s⁻¹):=by
  have:=Qm (s.heap.push Q8) (o:=Rm C s⁻¹) rfl;rwa [RE] at this
 let e3:(s.heap.push Q8).Ns s⁻¹ (λZ=>L):=#[Q8,([].toArray),_,e1,rfl,(λe f=>absurd f ∎),λZ=>rfl];let d:=I.laid (a:=s⁻¹) (o:=.own (s⁻¹+1)) (h':=s.heap.push Q8) (t':=s.toks) (λb u q=>Qg _ q) (Qe _) #[_,e1];show d.laid (a:=s⁻¹+1) (o:=.ins C s⁻¹ []) (t':=s.toks) (λb u q=>Qg _ q) (Nat.le_of_eq (RE _ _)) ?_;let c:s⁻¹≠s⁻¹+1:=Qu (Rr _);rwa[by rw[ac c,al],QM _,c,e2,λZ=>L,(Heap.Ns1.of_empty e3).at λo q=>Qg _ q,λZ=>True.intro,λy g=>absurd rfl g]
theorem B5(b:attributeBase e f env (eval e env)=eval e env)(h:Us (Ut prog w) A (eval e env) (λo a=>Us (Ut prog w) A (getAttr o f Uj) Q E a) E s):Us (Ut prog w) A (eval (.Attribute e f pos) env) Q E s:=
 Attribute_any_ h #v[arm_eval_Attribute,b]
end
def Nz(K:P9)(ta:TE)(f:Str):TE:=λY H Q=>ta Y H λx H1=>Σa C dx fs v,x=.ref a/\H1 a=B (.ins C dx fs)/\Cls K C/\NoAttr K C f/\fs.lookup f=B v/\Q v H1
def NA(K:P9)(ta tv:TE)(f:Str):TS:=λD Y H=>tv Y H λy H1=>ta Y H1 λx H2=>Σa C dx fs,x=.ref a/\H2 a=B (.ins C dx fs)/\Cls K C/\NoAttr K C f/\fs.length<1000/\
 D.nx Y (upd H2 a (.ins C dx (putF f y fs)))
section
variable {X:Cx} {o e value:Uo} {f:Str} {pos pos' tpos:Pos} {ta tv:TE}
def yq(p:PE X e ta)(j:attributeBase e f X.env (eval e X.env)=eval e X.env):PE X (.Attribute e f pos) (Nz X.K ta f):=by
 intro b s Y H Q I h;show B5 j (a8 (p b s Y H _ I h) λu s1 ⟨x,o,d,i,a,C,t,y,v,g,m,c,n,l,q⟩=>?_);subst g;obtain rfl:u=Value.ref a:=i;show rY d m c n l λw s2 r k=>#[v,o,r,k,q]
def Gr(w:PE X o ta)(e:PE X value tv)(d:swapsWith value (B (.Attribute o f pos')) pos.line X.env=pure Uk):PS X (.Assign [.Attribute o f pos'] value pos) (NA X.K ta tv f):=by
 intro b s Y H D I h;show plainObj_wpAny_Assign_Attribute (a8 (e b s Y H _ I h) λu s1 ⟨y,z,g,v,q⟩=>a8 (w b s1 Y z _ g q) λj s2 ⟨x,E,t,k,a,C,A,F,i,p,c,n,l,m⟩=>?_) d;subst i;obtain rfl:j=Value.ref a:=k;show r6 t p c n l v λs3 r=>#[Y,_,r,m]
end
section
variable {X:Cx} {pins:-(Up×Obj)} {Y:St} {H:Hp} {s:Uq} {A:Uy} {E:Um->Uq->Prop} {Q:Um->Uq->Prop} {c:Um} {b:Bool}
inductive r9 (K:P9) (H:Hp):V->Value->Prop where
 |bl (x:Bool):r9 K H (.bl x) (.type "bool")
 |int (i:Int):r9 K H (.int i) (.type "int")
 |lst {a:Up} {xs:-V} (e:H a=B (.lst xs)):r9 K H (.ref a) (.type "list")
 |tup {a:Up} {xs:-V} (e:H a=B (.tup xs)):r9 K H (.ref a) (.type "tuple")
def wH(I:Inv X pins Y H s)(d:RelV x u)(ty:r9 X.K H x t)(e:RH X.K t c=B b)(h:∀tk,Q (.bool b) { s with toks:=tk }) :
  Us (Ut X.prog X.w) A (call (.builtin "isinstance") [u,c]) Q E s:=by
 cases ty with
 |bl y=>cases(show u=Value.bool y from d);show Sq PySem.W.kitx_bool I.kIn True.intro e (λz=>nomatch z) h
 |int i=>let⟨t,q⟩:=(show Σt,u=Value.int i t from d);ext q;show Sq PySem.W.kitx_int I.kIn True.intro e (λz=>nomatch z) h
 |@lst a g f=>
  cases(show u=Value.ref a from d);let⟨z_,y_,n,x_,j⟩:=(show ObjOk X.prog X.w H s.heap a (.lst g) from I.hok a _ f)
  show Sq PySem.W.kitx_list I.kIn #[_,j,rfl] e (λz=>nomatch z) h
 |@tup a g f=>
  cases(show u=Value.ref a from d);let⟨z_,y_,x_,p⟩:=(show ObjOk X.prog X.w H s.heap a (.tup g) from I.hok a _ f);let⟨o,j,k,z_⟩:=p
  show Sq PySem.W.kitx_tuple I.kIn #[o,j,k] e (λz=>nomatch z) h
end
structure Room(k:Nat)(A:Around):Prop where
 hd:A.handled=L
 dp:A.depth+3*k+5<recursionLimit
 un:A.units+16*k+200<cLine
 gd:A.guards=B []
theorem Room.mono{j k:Nat}(r:Room k A)(h:j<=k):Room j A:=#[r.hd,by have:=r.dp;lia,by have:=r.un;lia,r.gd]
theorem Room.deeper{k:Nat}{A:Uy}(r:Room (k+1) A)(env:Env):Room k (A.deeper env):=
 #[r.hd,by have:=r.dp;change A.depth+1+3*k+5<_;lia,by have:=r.un;change A.units+3+16*k+200<_;lia,r.gd]
def sd{A:Uy}:(A.under (.builtin "type.__call__" #[.ref C::us,kw])).depth=A.depth+1:=by
 first|rfl|simp[Around.under,Code.weight,Code.isCreation,Code.isGuard,Code.isCaller,Code.frames,Code.isFrame,guardIds]
def sg{A:Uy}:(A.under (.builtin "type.__call__" #[.ref C::us,kw])).units=A.units+1:=by
 first|rfl|simp[Around.under,Code.cUnits,Code.frames,Code.isFrame]
def pi{A:Uy}:(A.under (.builtin "type.__call__" #[.ref C::us,kw])).guards=A.guards:=by
 first|rfl|simp[Around.under,Code.weight,Code.isCreation,Code.isGuard,Code.isCaller,Code.frames,Code.isFrame,guardIds]
theorem Room.make{k:Nat}{A:Uy}(r:Room (k+1) A)(C:Up)(us:-Um)(a:-(Str×Um)):Room k (A.under (.builtin "type.__call__" #[.ref C::us,a])):=
 #[r.hd,by have:=r.dp;rw[sd];lia,by have:=r.un;rw[sg];lia,by rw[pi];show r.gd]
def Room.depth{A:Uy}(r:Room k A):A.depth<recursionLimit:=by have:=r.dp;lia
def NB:TA:=λZ H Q=>Q [] H
def J8(ta:TE)(O:TA):TA:=λY H Q=>ta Y H λx H1=>O Y H1 λxs H2=>Q (x::xs) H2
section
variable {X:Cx} {e:Uo} {es:-Uo} {te:TE} {t:TA} {pos:Pos}
theorem eM:PA X [] NB:=λZ Z Z Z H Q I h=>Calls.spliced_nil #[[],H,I,.nil,h]
def bB(o:PE X e te)(i:PA X es t)(c:Uv (e::es) X.env=(Uk,eval e X.env)::Uv es X.env:=by rfl):PA X (e::es) (J8 te t):=by
 intro b a s Y H Q I h;rw[c];change Us _ _ (spliced ((Uk,eval e X.env)::backTo b (Uv es X.env))) _ _ s;show Calls.spliced_cons (a8 (o a s Y H _ I h) λu s1 ⟨x,p,d,f,l⟩=>?_);show a8 (i b a s1 Y p _ d l) λq s2 ⟨m,j,n,k,g⟩=>#[x::m,j,n,.cons f k,g]
def NC(t:TA):TE:=λY H Q=>t Y H λxs H1=>xs.length<=sizeLine/\∀p,H1 p=L->Q (.ref p) (upd H1 p (.tup xs))
def ND(t:TA):TE:=λY H Q=>t Y H λxs H1=>xs.length<=sizeLine/\∀p,H1 p=L->Q (.ref p) (upd H1 p (.lst xs))
def nJ{j}(h:PA X es t):PE X (.Tuple es j pos) (NC t):=by
 intro a s Y H Q I hq;show wpAny_Tuple_spliced (a8 (h pos a s Y H _ I hq) λf s1 ⟨i,d,c,r,z,q⟩=>#[by rw[<- r.length];show z,?_]);let g:d s1⁻¹=L:=c.hok.fresh (Qe _);rwa[.ref s1⁻¹,upd d s1⁻¹ (.tup i),c.laid (t':=s1.toks) (λb u e=>Qg _ e) (Qe _) ?_,rfl,q _ g];rwa[z,f,r,#[_,Qm _ rfl,rfl,_,rfl]]
def Gs(h:PA X es t):PE X (.List es pos) (ND t):=by
 intro a s Y H Q I hq;show wpAny_List_spliced (a8 (h pos a s Y H _ I hq) λf s1 ⟨i,d,c,r,z,q⟩=>#[by rw[<- r.length];show z,?_]);let g:d s1⁻¹=L:=c.hok.fresh (Qe _);rwa[.ref s1⁻¹,upd d s1⁻¹ (.lst i),c.laid (t':=s1.toks) (λb u e=>Qg _ e) (Qe _) ?_,rfl,q _ g];rwa[z,f,0,r,Qm _ rfl]
end
abbrev Sp:=-V->Hp->VK->XK->Prop
abbrev wJ:=-Env->Hp->Uq->XK->Um->Uq->Prop
structure Env0(P:Program)(w:World)(K:P9)(mg:Str->@&Value)(base:Heap)(A:Around)(outer:-Env)(s:Shared)(H:Hp):Prop where
 frames:A.frames=B outer
 mod:Mod K mg base
 bs:∀b o,base.get? b=B o->s.heap.get? b=B o/\H b=L
 bsz:base.objs.size<=s⁻¹
 funs:s.heap.FunFrames base outer
 frf:∀b∈xP outer,H b=L
 hok:HOk P w H s.heap
 bare:AllBare s.gens
def CE(O:-Env)(P:Uu)(w:Ux)(H:Hp)(s:Uq)(Q:VK)(u:Um)(s':Uq):Prop:=
 Σv H',s'.os=s.os/\AllBare s'.gens/\Un (xP O) [] H H' s.heap s'.heap/\HOk P w H' s'.heap/\RelV v u/\Q v H'
def CR(CX:wJ)(O:-Env)(P:Uu)(w:Ux)(H:Hp)(s:Uq)(Q:VK)(E:XK)(r:Result)(s':Uq):Prop:=
 match r with
 |.ok (.ret u)=>CE O P w H s Q u s'
 |.ok _=>False
 |.error e=>CX O H s E e s'
structure FnOk(P:Program)(w:World)(K:P9)(mg:Str->@&Value)(base:Heap)(CX:wJ)(k:Nat)(f:Addr)(fd:FuncData)(ps:-Str)(sp:Sp):Prop where
 len:∀vs H Q E,sp vs H Q E->vs.length=ps.length
 run:∀(A:Uy) (outer:-Env) (s:Uq) (H:Hp) (args:Args) (us:-Um) (vs:-V) (Q:VK) (E:XK),Room k A->Env0 P w K mg base A outer s H->BindsTo s fd args (ps.zip us)->Vals vs us->sp vs H Q E->
  codeAny (Ut P w) A (.call (.ref f) args) (CR CX outer P w H s Q E) s
theorem FnOk.mono{P:Uu}{w:Ux}{K:P9}{mg:Str->@&Um}{base:Uz}{CX:wJ}{j k:Nat}{f:Up}{fd:UH}{ps:-Str}{sp:Sp}(F:FnOk P w K mg base CX j f fd ps sp)(h:j<=k) :
  FnOk P w K mg base CX k f fd ps sp:=#[F.len,λA a s H b d c Q E e=>F.run A a s H b d c Q E (e.mono h)]
theorem FnOk.imp{P:Uu}{w:Ux}{K:P9}{mg:Str->@&Um}{base:Uz}{CX:wJ}{k:Nat}{f:Up}{fd:UH}{ps:-Str}{sp d:Sp}(F:FnOk P w K mg base CX k f fd ps sp)
  (h:∀b H Q E,d b H Q E->sp b H Q E):FnOk P w K mg base CX k f fd ps d:=
 #[λb H Q E q=>F.len b H Q E (h _ _ _ _ q),λA a s H c j b Q E m l i g e=>F.run A a s H c j b Q E m l i g (h _ _ _ _ e)]
theorem Env0.make{P:Uu}{w:Ux}{K:P9}{mg:Str->@&Um}{base:Uz}{A:Uy}{a:-Env}{s:Uq}{H:Hp}(e:Env0 P w K mg base A a s H)(C:Up)(us:-Um)(b:-(Str×Um)) :
  Env0 P w K mg base (A.under (.builtin "type.__call__" #[.ref C::us,b])) a s H:=#[by first|show e.frames|(simpa[Around.under,Code.envs,Code.isFrame,pushEnvs] using e.frames),e.mod,e.bs,e.bsz,e.funs,e.frf,e.hok,e.bare]
section
variable {X:Cx} {pins:-(Up×Obj)} {Y:St} {H:Hp} {s s':Uq}
theorem Inv.env0(I:Inv X pins Y H s):Env0 X.prog X.w X.K X.mg X.base X.A X.stack s H:=
 #[I.ok.frames,I.ok.mod,I.bs,QG I.ok.bsz I.sz,I.stack,I.stkFree,I.hok,I.bare]
def Inv.after(I:Inv X pins Y H s)(h:CE X.stack X.prog X.w H s Q u s'):EP X pins Y Q u s':=by
 let⟨v,f,k,a,j,c,r,q⟩:=h;let⟨i,g,d,t,e⟩:=s';obtain rfl:e=s.os:=k;rwa[v,f,I.call (h':=i) (g':=g) (d':=d) (t':=t) (ch:=[]) j c a (λb z=>absurd z ∎),r,q]
end
def J9(sp:Sp)(dvs:-V)(E:XK)(t:TA):TE:=λY H Q=>t Y H λvs H1=>sp (vs++dvs) H1 Q E
def Ka(C:Up)(m:Str)(sp:Sp)(dvs:-V)(E:XK)(ta:TE)(t:TA):TE:=λY H Q=>ta Y H λx H1=>Σa dx fs,x=.ref a/\H1 a=B (.ins C dx fs)/\fs.lookup m=L/\
 t Y H1 λvs H2=>sp (x::(vs++dvs)) H2 Q E
def Kb(C:Up)(sp:Sp)(dvs:-V)(E:XK)(t:TA):TE:=λY H Q=>t Y H λvs H1=>∀x dx,H1 x=L->H1 dx=L->dx≠x->
 sp (.ref x::(vs++dvs)) (upd (upd H1 dx (.own x)) x (.ins C dx [])) (λv H2=>v=.non/\Q (.ref x) H2) E
def Binds(K:P9)(fd:UH)(ps:-Str)(ds:-Um):Prop:=
 ∀(s:Uq) (us:-Um),K.In s.heap->(us++ds).length=ps.length->BindsTo s fd #[us,[]] (ps.zip (us++ds))
theorem Binds.all{K:P9}{fd:UH}{ps:-Str}(h:∀us:-Um,us.length=ps.length->bindArgs fd #[us,[]]=pure (ps.zip us)):Binds K fd ps []:=λs us Z a=>by
 rw[Q1] at a⊢;show .of_eq (h us a)
def i8(CX:wJ)(X:Cx)(E:XK):Prop:=∀(pins:-(Up×Obj)) (Y:St) (H:Hp) (s:Uq) (e:Um) (s':Uq),Inv X pins Y H s->CX X.stack H s E e s'->X.xe e s'
section
variable {X:Cx} {CX:wJ} {k:Nat} {f C:Up} {fd:UH} {ps:-Str} {sp:Sp} {dvs:-V} {ds:-Um} {E:XK} {x m:Str} {p pos apos:Pos} {e o:Uo} {es:-Uo} {ta:TE} {t:TA}
def yr{vs:-V}(F:FnOk X.prog X.w X.K X.mg X.base CX k f fd ps sp)(j:Room k X.A)(i:Binds X.K fd ps ds)(hd:Vals dvs ds)(g:i8 CX X E)(I:Inv X pins Y H s)(r:Vals vs us)(h:sp (vs++dvs) H Q E):⇑X (call (.ref f) us) (EP X pins Y Q) X.xe s:=by
 let a:Vals (vs++dvs) (us++ds):=r.append hd;let c:(us++ds).length=ps.length:=by rw[<- a.length];show F.len _ _ _ _ h
 show wpAny_call (codeAny_mono (F.run X.A X.stack s H #[us,[]] (us++ds) (vs++dvs) Q E j I.env0 (i s us I.kIn c) a h) λr d hq=>?_)
 cases r with
 |error e=>show g pins Y H s e d I hq
 |ok b=>
  cases b with
  |ret u=>show I.after hq
  |next=>show False.elim hq
  |brk=>show False.elim hq
  |cont=>show False.elim hq
def ul(F:FnOk X.prog X.w X.K X.mg X.base CX k f fd ps sp)(j:Room k X.A)(i:Gl X x)(c:X.mg x=B (.ref f))(hk:Q7 X.K (.ref f)=Uj)(g:Binds X.K fd ps ds)(hd:Vals dvs ds)(d:i8 CX X E)
  (ha:PA X (e::es) t) (hdb:(x==("__debug__":Str))=Uk:=by decide) (he:Uv (e::es) X.env=(Uk,eval e X.env)::Uv es X.env:=by rfl) (hpl:(backTo pos (Uv es X.env)).any (·.1)=Uk:=by rfl) :
  PE X (.Call (.Name x p) (e::es) [] pos) (J9 sp dvs E t):=by
 intro a s Y H Q I h;show wpAny_Call_Name_kw (nG I i c ?_ hdb);show SJ (h₀:=X.base) I.ok.mod.kin hk (a8 (ha pos a s Y H _ I h) λm s1 ⟨l,n,b,r,q⟩=>#[b.kIn,?_]) he hpl;show yr F j g hd d b r q
def um(O:PE X o ta)(c:Cls X.K C)(j:ph X.K C m f)(F:FnOk X.prog X.w X.K X.mg X.base CX k f fd ps sp)(R:Room k X.A)(M:Binds X.K fd ps ds)(hd:Vals dvs ds)(z:i8 CX X E)(P:PA X (e::es) t)(d:Uv (e::es) X.env=(Uk,eval e X.env)::Uv es X.env:=by rfl)(g:(backTo pos (Uv es X.env)).any (·.1)=Uk:=by rfl)(D:eval (.Call (.Attribute o m apos) (e::es) [] pos) X.env=(do
   let ov <- eval o X.env
   standAt apos.atName
   let (f,first) <- holding [ov] (getMethod ov m pl)
   callWith pos f first (backTo pos (Uv (e::es) X.env)) (backToKw pos (keywordEach [] X.env))):=by rfl) :
  PE X (.Call (.Attribute o m apos) (e::es) [] pos) (Ka C m sp dvs E ta t):=by
 intro b s Y H Q I h;show PySem.W.methodCall_KW (pl:=pl) (a8 (O b s Y H _ I h) λu s1 ⟨x,S,i,v,a,U,V,p,N,l,q⟩=>?_) D;subst p;obtain rfl:u=Value.ref a:=v;show rZ i N c j l ?_
 show SJ (first:=[.ref a]) (h₀:=X.base) I.ok.mod.kin j.kp (a8 (P pos b s1 Y S _ i q) λus s2 ⟨vs,T,n,r,y⟩=>#[n.kIn,?_]) d g
 show yr (us:=.ref a::us) (vs:=.ref a::vs) F R M hd z n (.cons rfl r) y
structure Mk(K:P9)(C f:Addr):Prop where
 makes:Ug K C=Uj
 init:Q6 K (.ref C) "__init__" = B (B (.ref f))
 fn:TB K (.ref f)=Uj
 kp:Q7 K (.ref C)=Uj
def yt{H:Hp}{Q:VK}{vs:-V}(M:Mk X.K C f)(F:FnOk X.prog X.w X.K X.mg X.base CX k f fd ps sp)(t:Room (k+1) X.A)(j:Binds X.K fd ps ds)(hd:Vals dvs ds)(i:i8 CX X E)(I:Inv X pins Y H s)(r:Vals vs us)(h:∀x dx,H x=L->H dx=L->dx≠x->sp (.ref x::(vs++dvs)) (upd (upd H dx (.own x)) x (.ins C dx [])) (λv H2=>v=.non/\Q (.ref x) H2) E) :
  ⇑X (call (.ref C) us) (EP X pins Y Q) X.xe s:=by
 let hq:=h (s⁻¹+1) s⁻¹ (I.hok.fresh (RN _)) (I.hok.fresh (Qe _)) (Qu (Rr _));let b:=Inv.made (C:=C) I;let c:Vals (V.ref (s⁻¹+1)::(vs++dvs)) (Value.ref (s⁻¹+1)::(us++ds)):=.cons rfl (r.append hd)
 let o:(Value.ref (s⁻¹+1)::us++ds).length=ps.length:=by
  let e:=c.length;rw[F.len _ _ _ _ hq] at e;show e.symm
 show wpAny_call (yp (f:=f) I.kIn M.makes M.init (beq_iff_eq.mp M.fn) (codeAny_mono (F.run _ X.stack _ _ #[Value.ref (s⁻¹+1)::us,[]] (Value.ref (s⁻¹+1)::(us++ds)) _ _ E (t.make C us [])
  (b.env0.make C us []) (j _ (Value.ref (s⁻¹+1)::us) b.kIn o) c hq) λr g a=>?_))
 cases r with
 |error e=>show i pins Y _ _ e g b a
 |ok d=>
  cases d with
  |ret u=>
   let⟨v,m,n,p,q,l⟩:=b.after a;subst q;rwa[p,#[V.ref (s⁻¹+1),m,n,rfl,l]]
  |next=>show False.elim a
  |brk=>show False.elim a
  |cont=>show False.elim a
def B6(M:Mk X.K C f)(F:FnOk X.prog X.w X.K X.mg X.base CX k f fd ps sp)(j:Room (k+1) X.A)(i:Gl X x)(c:X.mg x=B (.ref C))(g:Binds X.K fd ps ds)(hd:Vals dvs ds)(d:i8 CX X E)
  (ha:PA X (e::es) t) (hdb:(x==("__debug__":Str))=Uk:=by decide) (he:Uv (e::es) X.env=(Uk,eval e X.env)::Uv es X.env:=by rfl) (hpl:(backTo pos (Uv es X.env)).any (·.1)=Uk:=by rfl) :
  PE X (.Call (.Name x p) (e::es) [] pos) (Kb C sp dvs E t):=by
 intro a s Y H Q I h;show wpAny_Call_Name_kw (nG I i c ?_ hdb);show SJ (h₀:=X.base) I.ok.mod.kin M.kp (a8 (ha pos a s Y H _ I h) λm s1 ⟨l,n,b,r,q⟩=>#[b.kIn,?_]) he hpl;show yt M F j g hd d b r q
end
section
variable {X:Cx} {CX:wJ} {k:Nat} {f C:Up} {fd:UH} {ps ks:-Str} {sp:Sp} {E:XK} {x m:Str} {p pos apos kpos:Pos} {e o:Uo} {es:-Uo} {kws:-Keyword} {te ta:TE} {t tk:TA} {nm:@&Str}
structure NE(K:P9)(fd:FuncData)(ps ks:-Str)(g:-Value->-Value->-Value)(gV:-V->-V->-V):Prop where
 to:∀(s:Uq) (us ws:-Um),K.In s.heap->(g us ws).length=ps.length->BindsTo s fd #[us,ks.zip ws] (ps.zip (g us ws))
 rel:∀{vs:-V} {us:-Um} {zs:-V} {ws:-Um},Vals vs us->Vals zs ws->Vals (gV vs zs) (g us ws)
variable {g:-Um->-Um->-Um} {gV:-V->-V->-V}
end
structure a6(N P:-Str)(sc:Scope):Prop where
 kind:sc.kind=.function
 co:sc.isCoroutine=Uk
 gen:sc.isGenerator=Uk
 nd:N.Nodup
 pre:N.take P.length=P
 par:∀x∈P,sc.names.lookup x=B .local\/sc.names.lookup x=B .cell
 nofree:∀y∈sc.names,y.2≠.free
theorem mH{b:Str->@&UJ}{x:Str}:∀{a:-(Str×Um)} {m:Str->@&Um},(∀v,(x,v)∉a)->bindL b a m x=m x
 |[],_,_=>rfl
 |(n,v)::r,m,h=>by
  delta bindL;rw[mH λw c=>h w (Qh _ c)];split
  .have:x≠n:=by rintro rfl;show h v Qr
   simp[this]
  .rfl
theorem mI{b:Str->@&UJ}{x:Str}:∀{a:-(Str×Um)} {m:Str->@&Um},(∀v,(x,v)∉a)->bindC b a m x=m x
 |[],_,_=>rfl
 |(n,v)::r,m,h=>by
  delta bindC;rw[mI λw c=>h w (Qh _ c)];split
  .rfl
  .have:x≠n:=by rintro rfl;show h v Qr
   simp[this]
theorem mJ{a:Str->@&UJ}{x:Str}{v:Um}:∀{P:-Str} {vs:-Um} {i:Nat} {m:Str->@&Um},P.Nodup->P[i]?=B x->vs[i]?=B v->a x=B .local->
  bindL a (P.zip vs) m x=B v
 |[],_,_,_,_,h,_,_=>by simp at h
 |_::_,[],_,_,_,_,h,_=>by simp at h
 |p::P,w::vs,0,m,nd,h1,h2,hk=>by
  simp at h1 h2;subst h1;subst h2;change bindL a ((p,w)::P.zip vs) m p=_;delta bindL;rw[mH λv b=>(QK.mp nd).1 (Ta b).1,if_pos hk];simp
 |p::P,w::vs,i+1,m,nd,h1,h2,hk=>by
  change bindL a ((p,w)::P.zip vs) m x=_;delta bindL;show mJ (i:=i) (QK.mp nd).2 ↥h1 ↥h2 hk
theorem mN{a:Str->@&UJ}{x:Str}{v:Um}:∀{P:-Str} {vs:-Um} {i:Nat} {m:Str->@&Um},P.Nodup->P[i]?=B x->vs[i]?=B v->a x≠B .local->
  bindC a (P.zip vs) m x=B v
 |[],_,_,_,_,h,_,_=>by simp at h
 |_::_,[],_,_,_,_,h,_=>by simp at h
 |p::P,w::vs,0,m,nd,h1,h2,hk=>by
  simp at h1 h2;subst h1;subst h2;change bindC a ((p,w)::P.zip vs) m p=_;delta bindC;rw[mI λv b=>(QK.mp nd).1 (Ta b).1,if_neg hk];simp
 |p::P,w::vs,i+1,m,nd,h1,h2,hk=>by
  change bindC a ((p,w)::P.zip vs) m x=_;delta bindC;show mN (i:=i) (QK.mp nd).2 ↥h1 ↥h2 hk
meta def bU(N:-Str)(vs:-V):St:=vs.map B++QR (N.length-vs.length) L
meta def ma(CX:wJ)(P:Uu)(w:Ux)(K:P9)(mg:Str->@&Um)(base:Uz)(N:-Str)(qual:Str)(scope:UC)(f:Up)(R:Um)(A:Uy)(outer:-Env)(s:Uq)(H:Hp)(E:XK):Cx where
 prog:=P
 w:=w
 K:=K
 mg:=mg
 base:=base
 A:=A.deeper (envOfC qual scope s⁻¹ f R)
 N:=N
 s₀:=s
 H₀:=H
 env:=envOfC qual scope s⁻¹ f R
 outer:=outer
 stack:=envOfC qual scope s⁻¹ f R::outer
 ex:=[]
 calm:=Uj
 fn:=λZ=>Uj
 pn:=[]
 xe:=λe s'=>Us (Ut P w) (A.deeper (envOfC qual scope s⁻¹ f R)) (leaving (envOfC qual scope s⁻¹ f R) e) (λZ O=>CX outer H s E e O) (λU O=>CX outer H s E U O) s'
def pj{a:UC}{x:Str}(h:a.names.lookup x=B .cell):Σc,(UE n a.names []).lookup x=B c:=by
 let q:=Tf a.names n [] (.inl h);show Option.isSome_iff_exists.mp q
def wK{CX:wJ}{P:Uu}{w:Ux}{K:P9}{mg:Str->@&Um}{base:Uz}{N ps:-Str}{qual:Str}{scope:UC}{f:Up}{t:Um}{A:Uy}{d:-Env}{s s1:Uq}{H:Hp}{E:XK}{us:-Um}{vs:-V}
  (S:a6 N ps scope) (hd:A.handled=L) (e0:Env0 P w K mg base A d s H) (hl:vs.length=ps.length) (r:Vals vs us)
  (x:InCallC s s⁻¹ (bindL (envOfC qual scope s⁻¹ f t).kindOf (ps.zip us) λZ=>L) (UE (s⁻¹+1) scope.names []) (bindC (envOfC qual scope s⁻¹ f t).kindOf (ps.zip us) λZ=>L) s1) :
  Inv (ma CX P w K mg base N qual scope f t A d s H E) [] (bU N vs) H s1:=by
 let I:ps.length<=N.length:=by have:=congrArg SG S.pre;rw[QO] at this;lia
 let⟨D,R,rfl,hk⟩:=x.done;let j:∀b:Up,b∉(ma CX P w K mg base N qual scope f t A d s H E).ex:=λb z=>absurd (show b∈([]:-Up) from z) ∎
 show#[#[e0.mod,S.kind,rfl,rfl,Qe _,λy z c D g=>?_,λy l=>?_,λy c Z h=>?_,λZ=>hd,Around.frames_deeper e0.frames,.inr #[rfl,rfl],λb z=>absurd z (j b),e0.bs,e0.bsz,λb Z Z=>j b,λb z=>absurd z (j b),e0.funs,e0.frf],
  rfl,e0.bare,Un.kept hk,#[_,x.toInCall.ns,λi y v D g Q=>?_],λy c h=>#[_,x.cell y c h],e0.hok.fresh (Qe _),λy c h=>?_,λp m=>absurd (show p∈([]:-(Up×Obj)) from m) ∎,e0.hok.kept hk,?_]
 .show name_of_addr x.apart (PySem.mem_of_lookup D) (PySem.mem_of_lookup g)
 .let l:scope.names.lookup y=B .cell\/scope.names.lookup y=B .free:=l;obtain l|l:=l
  .show pj l
  .show absurd rfl (S.nofree _ (PySem.mem_of_lookup l))
 .show Rt (x.above y c (PySem.mem_of_lookup h))
 .let C:i<vs.length:=by
   unfold bU at g;by_cases C:i<vs.length
   .show C
   .rw[Rj ↥C] at g;rw[S7] at g
    split at g<;>ext g
  let O:vs[i]?=B v:=by
   unfold bU at g;rw[Rl ↥C,Qc] at g
   cases e:vs[i]? with
   |none=>rw[e] at g;ext g
   |some a=>rw[e] at g;ext g;rfl
  let⟨u,F,M⟩:=r.get O
  let m:ps[i]?=B y:=by
   rw[<- S.pre,SX ∅];show D
  let o:ps.Nodup:=by rw[<- S.pre];show S.nd.sublist (SV _ _)
  rwa[u,M,?_];obtain k|k:=S.par y (QD m)
  .show .inl #[k,mJ o m F k]
  .let⟨c,e⟩:=pj (n:=s⁻¹+1) k;show .inr #[.inl k,c,e,?_];let q:=x.cell y c e;rw[mN o m F (by change scope.names.lookup y≠_;rw[k];decide)] at q;show q
 .show e0.hok.fresh (Rt (x.above y c (PySem.mem_of_lookup h)))
 .delta bU;change _=N.length;rw[Qz,Qa,Th]
  lia
def Kc{CX:wJ}{P:Uu}{w:Ux}{K:P9}{mg:Str->@&Um}{base:Uz}{k:Nat}{f:Up}{name qual:Str}{d:Arguments}{body:-Uw}{scope:UC}{U kV l O c X oc:Um}{an Y:@&Up}
  {osl:Array (@&Um)} {N ps:-Str} {sp:Sp} (lk:K.lookup f=B #[oc,Y,.func (Rb name qual d body scope U kV l O an c X),osl]) (hcd:Sd K c qual=Uj) (S:a6 N ps scope)
  (len:∀g H Q E,sp g H Q E->g.length=ps.length)
  (hbody:∀(A:Uy) (a:-Env) (s:Uq) (H:Hp) (g:-V) (Q:VK) (E:XK),Room k (A.deeper (envOfC qual scope s⁻¹ f c))->sp g H Q E->
   Σt,PSs (ma CX P w K mg base N qual scope f c A a s H E) body t/\t { nx:=λL h=>Q .non h,rt:=Q } (bU N g) H) :
  FnOk P w K mg base CX (k+1) f (Rb name qual d body scope U kV l O an c X) ps sp:=by
 rwa[len,λA a s H T us g Q E M p hb r m=>?_];let hl:=len _ _ _ _ m;let R:K.In s.heap:=p.mod.kin.keeps λb o e=>(p.bs b o e).1;let lim:s.heap.NoLimit:=p.mod.nolimit.keeps λb o e=>(p.bs b o e).1
 let i:∀y∈ps.zip us,scope.names.lookup y.1=B .local\/(scope.names.lookup y.1=B .cell/\((UE (s⁻¹+1) scope.names []).lookup y.1).isSome=Uj):=λ⟨n,v⟩ hy=>by
  obtain q|q:=S.par n (Ta hy).1
  .show .inl q
  .show .inr #[q,Tf _ _ _ (.inl q)]
 show codeAny_call_function M.depth (R _ _ lk) rfl S.co S.gen rfl (PySem.W.codeRec_of R hcd) (hb _ _ _ _ ?_);show wpAny_newFunctionEnv_cells S.kind i λha he s1 x=>?_;subst he;rwa[lim.keeps x.toInCall.keep,codeAny_func ?_];let⟨t,Z,hq⟩:=hbody A a s H g Q E (M.deeper _) m;let I:Inv (ma CX P w K mg base N qual scope f c A a s H E) [] (bU N g) H s1:=wK S M.hd p hl r x;show wpAny_mono (Z [] s1 (bU N g) H _ I hq) (λfl D j=>?_) λe D j=>j
 let z:∀{C:St} {h:Hp} {v:V} {u:Um},Inv (ma CX P w K mg base N qual scope f c A a s H E) [] C h D->RelV v u->Q v h->CE a P w H s Q u D:=
  λ{C h v u} J F q=>#[v,h,J.os,J.bare,J.base,J.hok,F,q]
 cases fl with
 |ret u=>
  let⟨v,C,h,J,F,q⟩:=j;show z J F q
 |next=>
  let⟨C,h,J,q⟩:=j;show z (v:=V.non) (u:=Value.none) J rfl q
 |brk=>
  let⟨z_,y_,x_,q⟩:=j;show False.elim q
 |cont=>
  let⟨z_,y_,x_,q⟩:=j;show False.elim q
section
variable {X:Cx} {x:Str} {p pos:Pos} {e:Uo} {es:-Uo} {t:TA} {id T:String} {r:-V->Hp->VK->Prop}
def Pb(r:-V->Hp->VK->Prop)(t:TA):TE:=λY H Q=>t Y H λvs H1=>r vs H1 Q
def hZq(l:jU X (.builtin id) r)(m:Gl X x)(c:X.mg x=L)(f:bootBuiltins x=B (.builtin id))(o:PA X (e::es) t)(d:x≠"__name__":=by decide)(b:(x==("__debug__":Str))=Uk:=by decide)
  (he:Uv (e::es) X.env=(Uk,eval e X.env)::Uv es X.env:=by rfl) (hpl:(backTo pos (Uv es X.env)).any (·.1)=Uk:=by rfl):PE X (.Call (.Name x p) (e::es) [] pos) (Pb r t):=by
 intro a s Y H Q I h;show wpAny_Call_Name_kw (dR I m c f ?_ d b);show PyProof.Rows.callWith_builtin1 (a8 (o pos a s Y H _ I h) λk s1 ⟨g,q,i,j,n⟩=>l a s1 Y q g k Q i j n) he hpl
def mO(l:jU X (.type T) r)(m:Gl X x)(c:X.mg x=L)(f:bootBuiltins x=B (.type T))(o:PA X (e::es) t)(d:x≠"__name__":=by decide)(b:(x==("__debug__":Str))=Uk:=by decide)
  (he:Uv (e::es) X.env=(Uk,eval e X.env)::Uv es X.env:=by rfl) (hpl:(backTo pos (Uv es X.env)).any (·.1)=Uk:=by rfl):PE X (.Call (.Name x p) (e::es) [] pos) (Pb r t):=by
 intro a s Y H Q I h;show wpAny_Call_Name_kw (dR I m c f ?_ d b);show PyProof.Rows.callWith_type1 (a8 (o pos a s Y H _ I h) λk s1 ⟨g,q,i,j,n⟩=>l a s1 Y q g k Q i j n) he hpl
end
end L2
namespace HT
open PyProof.Rows
section
variable {prog:Uu} {w:Ux} {A:Uy} {E:Um->Uq->Prop} {s:Uq}
meta def ck(n d:Nat):@&Int->Nat
 |none=>d
 |some v=>if v<0 then(v+(n:Int)).toNat else min v.toNat n
theorem pq(n d:Nat):ck n d L=d:=rfl
def uo(n d k:Nat):ck n d (B (k:Int))=min k n:=by
 change(if(k:Int)<0 then((k:Int)+(n:Int)).toNat else min (k:Int).toNat n)=min k n
 rw[if_neg ∅,QV]
def Gu(n d:Nat)(hd:d<=n)(o:@&Int):ck n d o<=n:=by
 cases o with
 |none=>show hd
 |some v=>
  change(if v<0 then(v+(n:Int)).toNat else min v.toNat n)<=n
  by_cases a:v<0
  .rw[if_pos a];lia
  .rw[if_neg a];show Nat.min_le_right _ _
def uq(v:Int)(n d:Nat):(if v<0 then max (v+(n:Int)) 0 else min v (n:Int))=((ck n d (B v):Nat):Int):=by
 change(if v<0 then max (v+(n:Int)) 0 else min v (n:Int))=(((if v<0 then(v+(n:Int)).toNat else min v.toNat n):Nat):Int)
 by_cases a:v<0
 .dsimp[if_pos a];lia
 .dsimp[if_neg a];lia
def si(lo hi:@&Int)(n:Nat):Builtin.Slice.sliceAdjust lo hi 1 (n:Int)=(((ck n 0 lo:Nat):Int),((ck n n hi:Nat):Int)):=by
 let a:¬((1:Int)<0):=∅
 delta Builtin.Slice.sliceAdjust;dsimp[a,if_false];show Prod.ext ?_ ?_
 .cases lo with
  |none=>rfl
  |some v=>show uq v n 0
 .cases hi with
  |none=>rfl
  |some v=>show uq v n n
def sj(i j:Nat):Builtin.Slice.slicePlaces (i:Int) (j:Int) 1=j-i:=by
 delta Builtin.Slice.slicePlaces;let a:(1:Int) > 0:=∅
 dsimp[a,if_true,Int.ediv_one]
 split<;>lia
def kX{Q:@&Int->Uq->Prop}(p:IsPart v o)(h:Q o s):Us (Ut prog w) A (Builtin.Slice.slicePartIndex v) Q E s:=by
 cases p with
 |none=>show slicePart_none h
 |int i t=>show slicePart_int h
def dX{lo hi:@&Int}{Q:Int×Int×Nat->Uq->Prop}(d:s.heap.IsSliceOf sl vl vu .none)(pl:IsPart vl lo)(e:IsPart vu hi)(h:Q (((ck n 0 lo:Nat):Int),1,ck n n hi-ck n 0 lo) s):Us (Ut prog w) A (Builtin.Slice.sliceApplied (.ref sl) (pure (n:Int))) Q E s:=by
 let⟨f,a,c,b⟩:=id d;unfold Builtin.Slice.sliceApplied Builtin.Slice.sliceFields;show Ul (Ul (wpAny_field a b (x:=vl) rfl (Ul (wpAny_field a b (x:=vu) rfl (Ul (wpAny_field a b (x:=.none) rfl (Ur ?_)))))));show Ul (slicePart_none ?_)
 change Us _ _ (if((1:Int)==0)=Uj then _ else _) _ _ s
 rw[if_neg ⋯];show Ul (kX pl (Ul (kX e (Ul (Ur ?_)))))
 change Us _ _ (match Builtin.Slice.sliceAdjust lo hi 1 (n:Int) with|(lo,hi)=>pure (lo,(1:Int),Builtin.Slice.slicePlaces lo hi 1)) _ _ s
 rw[si lo hi n];change Us _ _ (pure (((ck n 0 lo:Nat):Int),(1:Int),Builtin.Slice.slicePlaces ((ck n 0 lo:Nat):Int) ((ck n n hi:Nat):Int) 1)) _ _ s;rw[sj];show Ur h
def yu(xs:Array Um)(i k:Nat):((Qo k).filterMap λ(m:Nat)=>xs[((i:Int)+(m:Int)*1).toNat]?).toArray=((xs.toList.drop i).take k).toArray:=by
 let e:(λ(m:Nat)=>xs[((i:Int)+(m:Int)*1).toNat]?)=λm=>xs[i+m]?:=by
  funext m;have:((i:Int)+(m:Int)*1).toNat=i+m:=∅
  rw[this]
 rw[e];have:=pick_run xs i k;rw[List.filterMap_map] at this;let e2:((λx=>xs[x]?)∘λx=>i+x)=λm=>xs[i+m]?:=rfl;rw[e2] at this;rw[this]
def ia{items:Array Um}{lo hi:@&Int}{Q:Um->Uq->Prop}(b:IsTup s.heap t items)(g:s.heap.IsSliceOf sl vl vu .none)(pl:IsPart vl lo)(j:IsPart vu hi)(l:¬(ck items.size 0 lo=0/\ck items.size items.size hi=items.size))(h:Q (.ref s⁻¹) { s with heap:=s.heap.push { cls:=.type "tuple",data:=.seq ((items.toList.drop (ck items.size 0 lo)).take (ck items.size items.size hi-ck items.size 0 lo)).toArray } })(hsz:items.size<=sizeLine):Us (Ut prog w) A (getItem (.ref t) (.ref sl)) Q E s:=by
 let a:sizeOk (.seq ((items.toList.drop (ck items.size 0 lo)).take (ck items.size items.size hi-ck items.size 0 lo)).toArray):=by
  change((items.toList.drop (ck items.size 0 lo)).take (ck items.size items.size hi-ck items.size 0 lo)).toArray.size<=sizeLine;rw[Qk,QO,TX,RJ]
  lia
 let p:ck items.size items.size hi<=items.size:=Gu _ _ (Qe _) hi;let⟨i,c,e,k⟩:=id g;let d:s.TypeIs (.ref sl) "slice":=#[i,c,e];delta getItem
 try with_reducible show UF ?_
 first|show Ul (Ur ?_)|skip
 show Ul (wpAny_sequenceKey b.typeIs ⋯ ?_)
 show Ul (wpAny_callSpecial?_slot (name:=Str.ofString "__getitem__") b.typeIs PyProof.Rows.slot_tuple_getitem
  (UG PyProof.Rows.slot_tuple_getitem b.typeIs entry_tuple_getitem ?_ (args_tuple_getitem _ _)))
 change Us _ _ (Builtin.Tuple.tupleItemsOf (.ref t) >>= _) _ _ s;show Ul (tupleItemsOf_ b ?_);show Ul (wpAny_typeOf d ?_);rw[if_pos ⋯];show Ul (dX g pl j ?_)
 let f:¬((((ck items.size 0 lo:Nat):Int)==0&&(1:Int)==1&&(ck items.size items.size hi-ck items.size 0 lo)==items.size)=Uj):=by
  intro q;rw[Qd,Qd] at q;let o:((ck items.size 0 lo:Nat):Int)=0:=eq_of_beq q.1.1;let n:ck items.size items.size hi-ck items.size 0 lo=items.size:=eq_of_beq q.2;show l #[by lia,∅]
 change Us _ _ (if(((ck items.size 0 lo:Nat):Int)==0&&(1:Int)==1&&(ck items.size items.size hi-ck items.size 0 lo)==items.size)=Uj then _ else _) _ _ s
 rw[if_neg f,yu]
 first
  |show Ul (m:=Builtin.Tuple.tupleExact _) (UA (Ur ⟨_,rfl,Ur h⟩) a)
  |show Ul (m:=Builtin.Tuple.tupleExact _) (UA (Ul (Ur (Ur ⟨_,rfl,Ur h⟩))) a)
  |show Ul (Ul (m:=Builtin.Tuple.tupleExact _) (UA (Ur (Ur ⟨_,rfl,Ur h⟩)) a))
  |show Ul (Ul (m:=Builtin.Tuple.tupleExact _) (UA (Ur ⟨_,rfl,Ur h⟩) a))
end
end HT
namespace L2
open PyProof.Rows
abbrev TO:=St->Hp->(@&Int->Hp->Prop)->Prop
def PO(X:Cx)(e:@&Uo)(t:TO):Prop:=
 ∀(pins:-(Up×Obj)) (s:Uq) (Y:St) (H:Hp) (Q:@&Int->Hp->Prop),Inv X pins Y H s->t Y H Q->
  ⇑X (evalPart e X.env) (λu s'=>Σo H',Inv X pins Y H' s'/\IsPart u o/\Q o H') X.xe s
def B7:TO:=λZ H Q=>Q L H
def Ke(t:TE):TO:=λY H Q=>t Y H λx H1=>Σi,x=.int i/\Q (B i) H1
section
variable {X:Cx} {e:Uo} {te:TE} {lo hi:@&Uo} {tl th:TO} {pos p2:Pos}
def B8:PO X L B7:=by
 intro a s Y H Q I h;rw[evalPart_none];show Ur #[L,H,I,.none,h]
def B9(h:PE X e te):PO X (B e) (Ke te):=by
 intro a s Y H Q I f;rw[evalPart_some];show a8 (h a s Y H _ I f) λu s1 ⟨x,g,b,c,d⟩=>?_;let⟨i,rfl,q⟩:=d;let⟨t,rfl⟩:=c;rwa[B i,g,b,.int i t,q]
def SlR(X:Cx)(r:V->@&Int->@&Int->Hp->VK->Prop):Prop:=
 ∀(pins:-(Up×Obj)) (s:Uq) (Y:St) (H:Hp) (x:V) (v U O:Um) (lo hi:@&Int) (R:Up) (Q:VK),Inv X pins Y H s->RelV x v->s.heap.IsSliceOf R U O .none->IsPart U lo->IsPart O hi->r x lo hi H Q->
  ΣT id,typeLookup (.type T) "__getitem__" = pure (B (.builtin id))/\s.TypeIs v T/\⇑X (getItem v (.ref R)) (EP X pins Y Q) X.xe s
def SlR.or{r i:V->@&Int->@&Int->Hp->VK->Prop}(h:SlR X r)(h':SlR X i):SlR X (λx lo hi H Q=>r x lo hi H Q\/i x lo hi H Q):=by
 intro a s Y H x v j g lo hi d Q I f b c e q;obtain q|q:=q
 .show h a s Y H x v j g lo hi d Q I f b c e q
 .show h' a s Y H x v j g lo hi d Q I f b c e q
def PH(r:V->@&Int->@&Int->Hp->VK->Prop)(te:TE)(tl th:TO):TE:=λY H Q=>te Y H λx H1=>tl Y H1 λl H2=>th Y H2 λu O=>r x l u O Q
def kY(O:SlR X r)(M:PE X e te)(K:PO X lo tl)(y:PO X hi th):PE X (.Subscript e (.Slice lo hi L p2) pos) (PH r te tl th):=by
 intro a s Y H Q I h;show Subscript_ (a8 (M a s Y H _ I h) λv s1 ⟨x,D,j,k,z⟩=>?_);show wpAny_Slice (a8 (K a s1 Y D _ j z) λd s2 ⟨l,t,N,i,m⟩=>a8 (y a s2 Y t _ N m) λc s3 ⟨u,f,F,C,o⟩=>?_);rw[evalPart_none];show Ur ?_;let g:Inv X a Y f { s3 with heap:=s3.heap.push { cls:=.type "slice",data:=.fields [d,c,.none].toArray } }:=F.kept (t':=s3.toks) λb R q=>Qg _ q;let⟨T,P,n,p,E⟩:=O a { s3 with heap:=s3.heap.push { cls:=.type "slice",data:=.fields [d,c,.none].toArray } } Y f x v d c l u s3⁻¹ Q g k (Heap.IsSliceOf.new ..) i C o;change ⇑X (subscriptTail e (.Slice lo hi L p2) v (.ref s3⁻¹)) (EP X a Y Q) X.xe { s3 with heap:=s3.heap.push { cls:=.type "slice",data:=.fields [d,c,.none].toArray } };show tail_any (ops:=[.ref s3⁻¹,v]) p n E (by with_unfolding_all rfl)
def pv(xs:-V)(lo hi:@&Int):-V:=(xs.drop (HT.ck xs.length 0 lo)).take (HT.ck xs.length xs.length hi-HT.ck xs.length 0 lo)
def jX(xs:-V)(lo hi:@&Int):(pv xs lo hi).length<=xs.length:=by
 delta pv;rw[QO,TX]
 lia
def NF(K:P9):V->@&Int->@&Int->Hp->VK->Prop:=λx lo hi H Q=>Σa xs,x=.ref a/\SqT K H a xs/\
 ¬(HT.ck xs.length 0 lo=0/\HT.ck xs.length xs.length hi=xs.length)/\∀p,H p=L->Q (.ref p) (upd H p (.tup (pv xs lo hi)))
def sl_tup:SlR X (NF X.K):=by
 intro g s Y H x v z y lo e u Q I n k l m h;let⟨a,d,rfl,p,t,q⟩:=h;ext n;let⟨f,r,j,i⟩:=I.tuple p;let c:f.toArray.size=d.length:=by rw[Qk];show r.length.symm
 rwa["tuple",_,PyProof.Rows.slot_tuple_getitem.lookup,j.typeIs,?_];show HT.ia j k l m (by rw[c];show t) ?_ (by rw[c];show i);rw[c];rwa[.ref s⁻¹,_,I.laid (t':=s.toks) (o:=.tup (pv d lo e)) (λb w q=>Qg _ q) (Qe _) ?_,rfl,q _ (I.hok.fresh (Qe _))];rwa[QG (jX d lo e) i,_,(r.drop (HT.ck d.length 0 lo)).take (HT.ck d.length d.length e-HT.ck d.length 0 lo),IsTup.new _ _]
end
meta def jY(n:Nat)(i:Int):@&Nat:=if 0<=i then(if i<n then B i.toNat else L) else if -(n:Int)<=i then B (i+n).toNat else L
def sn{α:Type}(xs:List α)(i:Int):Option α:=(jY xs.length i).bind λj=>xs[j]?
def nK{n:Nat}{i:Int}{j:Nat}(h:jY n i=B j):seqIndex? i n=B j/\j<n/\-(n:Int)<=i/\i<n:=by
 unfold jY at h;by_cases b:0<=i
 .rw[if_pos b] at h;by_cases a:i<n
  .rw[if_pos a] at h;let e:i.toNat=j:=Option.some.inj h;rwa[by rw[seqIndex_of b a,e],∅,∅,a]
  .rw[if_neg a] at h;ext h
 .rw[if_neg b] at h;by_cases a:-(n:Int)<=i
  .rw[if_pos a] at h;let e:(i+n).toNat=j:=Option.some.inj h;rwa[by rw[seqIndex_neg ∅ a,e],∅,a,∅]
  .rw[if_neg a] at h;ext h
def nL{α:Type}{xs:List α}{i:Int}{v:α}(h:sn xs i=B v):Σj,seqIndex? i xs.length=B j/\xs[j]?=B v/\j<xs.length/\-(xs.length:Int)<=i/\i<xs.length:=by
 unfold sn at h
 cases e:jY xs.length i with
 |none=>rw[e] at h;ext h
 |some j=>
  rw[e] at h;let⟨c,b,d,a⟩:=nK e;rwa[j,c,h,b,d,a]
def ur(b:Uo):Prop:=∀o i,subscripted b Uk o i=operate [o,i] (getItem o i)
def IxR(X:Cx)(r:R2):Prop:=
 ∀(value O:Uo) (pins:-(Up×Obj)) (s:Uq) (Y:St) (H:Hp) (x y:V) (v u:Um) (Q:VK),Inv X pins Y H s->RelV x v->RelV y u->r x y H Q->
  subscripted O Uk v u=operate [v,u] (getItem v u)->⇑X (subscriptTail value O v u) (EP X pins Y Q) X.xe s
def Jt(X:Cx)(id:String)(r:V->-V->Hp->VK->Prop):Prop:=
 ∀(pins:-(Up×Obj)) (s:Uq) (Y:St) (H:Hp) (x:V) (xs:-V) (v:Um) (us:-Um) (Q:VK),Inv X pins Y H s->RelV x v->Vals xs us->r x xs H Q->
  ⇑X (call (.builtin id) (v::us)) (EP X pins Y Q) X.xe s
section
variable {X:Cx} {a b:Uo} {ta tb:TE} {pos:Pos}
def IxR.or{r f:R2}(h:IxR X r)(h':IxR X f):IxR X (λx y H Q=>r x y H Q\/f x y H Q):=by
 intro b a c s Y H x y v u Q I e g q d;obtain q|q:=q
 .show h b a c s Y H x y v u Q I e g q d
 .show h' b a c s Y H x y v u Q I e g q d
def yw(g:IxR X r)(l:PE X a ta)(f:PE X b tb)(d:ur b):PE X (.Subscript a b pos) (MK r ta tb):=by
 intro c s Y H Q I h;show Subscript_ (Gg l f I h λv u s2 x y i j e k q=>g a b c s2 Y i x y v u Q j e k q (d _ _))
def Kf(K:P9):R2:=λx y H Q=>Σp xs i v,x=.ref p/\y=.int i/\SqL K H p xs/\sn xs i=B v/\Q v H
def Kg(K:P9):R2:=λx y H Q=>Σp xs i v,x=.ref p/\y=.int i/\SqT K H p xs/\sn xs i=B v/\Q v H
def Kh:R2:=λx y H Q=>Σz i c,x=.str z/\y=.int i/\z.length<=sizeLine/\sn z.cps.toList i=B c/\Q (.str #[[c].toArray]) H
def ix_list:IxR X (Kf X.K):=by
 intro l d a s Y H x y v u Q I A E h m;let⟨p,R,i,z,rfl,rfl,hq,O,q⟩:=h;ext A;let⟨t,rfl⟩:=E;let⟨k,r,e,S⟩:=I.list hq;let⟨j,c,D,P,M,C⟩:=nL O;let⟨w,n,g⟩:=r.get D;let N:=r.length;let T:=i6;let b:EP X a Y Q w s:=#[z,H,I,g,q];by_cases o:0<=i
 .let f:i.toNat=j:=by
   rw[seqIndex_of o C] at c;show Option.some.inj c
  show item_listR e.isList o ∅ (by rw[f];simpa using n) b m
 .let f:(i+(k.toArray.size:Int)).toNat=j:=by
   rw[seqIndex_neg ∅ M] at c;rw[Qk,<- N];show Option.some.inj c
  show subscriptTail_builtinR (x:=w) e.isList.typeIs slot_list_getitem.lookup
   (wpAny_getItem_list_neg (Q:=λr F=>r=w/\EP X a Y Q r F) e.isList ∅ (by rw[Qk]<;>lia) ∅ (by rw[f];simpa using n) #[rfl,b]) m
def ix_tup:IxR X (Kg X.K):=by
 intro e b a s Y H x y v u Q I k n h g;let⟨p,N,i,z,rfl,rfl,hq,D,q⟩:=h;ext k;let⟨t,rfl⟩:=n;let⟨A,r,f,O⟩:=I.tuple hq;let⟨j,E,l,M,R,F⟩:=nL D;let⟨w,m,c⟩:=r.get l;let C:=r.length;let P:=i6;let d:EP X a Y Q w s:=#[z,H,I,c,q];show subscriptTail_builtinR (x:=w) f.typeIs slot_tuple_getitem.lookup
  (getItem_tuple (j:=j) (Q:=λr o=>r=w/\EP X a Y Q r o) f ∅ ∅ (by rw[Qk,<- C];show E) ↥m #[rfl,d]) g
def Gv:IxR X Kh:=by
 intro b a d s Y H x y v u Q I g p h f;let⟨z,i,c,rfl,rfl,C,o,q⟩:=h;let⟨t,rfl⟩:=g;let⟨w,rfl⟩:=p;let⟨j,e,m,A,l,k⟩:=nL o;let n:z.cps.toList.length=z.length:=by simp[Str.length]
 rw[n] at e l k;let r:=i6
 show tail_any (typeIs_str s z t) slot_str_getitem.lookup (getItem_str (c:=c) (by
  let e1:decide (i < -(2^63:Int))=Uk:=decide_eq_false ∅;let e2:decide (i ≥ 2^63)=Uk:=decide_eq_false ∅;rw[e1,e2,SR]) (by rw[e];simpa using m) #[.str #[[c].toArray],H,I.tok _,#[_,rfl],q]) f
def Pc(K:P9):R2:=λx y H Q=>Kf K x y H Q\/Kg K x y H Q\/Kh x y H Q
theorem sr:IxR X (Pc X.K):=ix_list.or (ix_tup.or Gv)
def ss(a:-Um)(n j:Nat)(u:Um):Obj.mapSeq (·.setIfInBounds j u) { cls:=.type "list",data:=.seq a.toArray n }={ cls:=.type "list",data:=.seq (a.set j u).toArray n }:=by
 simp[Obj.mapSeq]
def Inv.lst{pins:-(Up×Obj)}{Y:St}{H:Hp}{s:Uq}{p:Up}{xs:-V}(I:Inv X pins Y H s)(h:H p=B (.lst xs)) :
  Σ(a:-Um) (n:Nat),Vals xs a/\s.heap.get? p=B { cls:=.type "list",data:=.seq a.toArray n }/\xs.length<=sizeLine:=by
 let⟨z,a,n,r,e⟩:=I.hok p _ h;rwa[a,n,r,e,z]
def Inv.lstUpd{H:Hp}{s:Uq}{xs ys:-V}{a its':-Um}(I:Inv X pins Y H s)(h:H p=B (.lst xs))(d:s.heap.get? p=B { cls:=.type "list",data:=.seq a.toArray n })(c:f { cls:=.type "list",data:=.seq a.toArray n }={ cls:=.type "list",data:=.seq its'.toArray n' })(r:Vals ys its')(hz:ys.length<=sizeLine)(t:Nat) :
  Inv X pins Y (upd H p (.lst ys)) { s with heap:=s.heap.update p f,toks:=t }:=by
 let e:(s.heap.update p f).get? p=B { cls:=.type "list",data:=.seq its'.toArray n' }:=by
  rw[RW f d (by rw[c]<;>rfl),c]
 show I.write (x:=p) (e:=p) (by rw[h];trivial) (.inl rfl) (λb u g q=>(RO _ _ (Ne.symm g)).trans q) #[_,e] ?_;rwa[hz,its',n',r,e]
def Ki:V->V->V->Hp->(Hp->Prop)->Prop:=λo i v H Q=>Σp xs k j,o=.ref p/\i=.int k/\H p=B (.lst xs)/\jY xs.length k=B j/\Q (upd H p (.lst (xs.set j v)))
def yx:JV X Ki:=by
 intro a s Y H o i v E M u Q I x y z h;let⟨p,A,k,j,rfl,rfl,f,C,q⟩:=h;ext x;let⟨t,rfl⟩:=y;let⟨b,n,r,e,D⟩:=I.lst f;let⟨c,F,m,w⟩:=nK C;let d:=r.length;let K:=i6
 let l:Inv X a Y (upd H p (.lst (A.set j v))) { s with heap:=s.heap.update p (Obj.mapSeq (·.setIfInBounds j u)) }:=
  I.lstUpd f e (ss b n j u) (r.set z j) (by rw[Ru];show D) s.toks
 by_cases g:0<=k
 .let hk:k.toNat=j:=by
   rw[seqIndex_of g w] at c;show Option.some.inj c
  show PySem.W.ki_setAt e g ∅ (by rw[Qk,<- d];show w) (by rw[hk];rwa[_,l,q])
 .let hk:(k+(b.toArray.size:Int)).toNat=j:=by
   rw[seqIndex_neg ∅ m] at c;rw[Qk,<- d];show Option.some.inj c
  show PySem.W.ki_setBack e ∅ (by rw[Qk,<- d];show m) ∅ (by rw[hk];rwa[_,l,q])
def nM(lo hi:@&Int)(n:Nat):(sliceBounds lo hi L n).1=((HT.ck n 0 lo:Nat):Int)/\(sliceBounds lo hi L n).2.1=((HT.ck n n hi:Nat):Int)/\(sliceBounds lo hi L n).2.2=1:=by
 rwa[?_,?_,rfl]
 .cases lo with
  |none=>simp[sliceBounds,HT.ck]
  |some i=>
   dsimp[sliceBounds,HT.ck,SY,show(1:Int) > 0 by decide,if_true];by_cases h:i<0
   .dsimp[h,if_true]<;>lia
   .dsimp[h,if_false]<;>lia
 .cases hi with
  |none=>simp[sliceBounds,HT.ck]
  |some i=>
   dsimp[sliceBounds,HT.ck,SY,show(1:Int) > 0 by decide,if_true];by_cases h:i<0
   .dsimp[h,if_true]<;>lia
   .dsimp[h,if_false]<;>lia
def me(a:-Um)(lo hi:@&Int):slicePick a.toArray lo hi L=((a.drop (HT.ck a.length 0 lo)).take (HT.ck a.length a.length hi-HT.ck a.length 0 lo)).toArray:=by
 let⟨b,d,c⟩:=nM lo hi a.toArray.size;delta slicePick;rw[b,d,c]
 dsimp[sliceRange_one,pick_run,Qk]<;>rfl
def NG(K:P9):V->@&Int->@&Int->Hp->VK->Prop:=λx lo hi H Q=>Σa xs,x=.ref a/\SqL K H a xs/\∀p,H p=L->Q (.ref p) (upd H p (.lst (pv xs lo hi)))
def ut:SlR X (NG X.K):=by
 intro f s Y H x v y w lo e t Q I l i j k h;let⟨a,c,rfl,m,q⟩:=h;ext l;let⟨p,r,g,n⟩:=I.list m;let d:=r.length;rwa["list",_,slot_list_getitem.lookup,g.isList.typeIs,?_]
 show wpAny_getItem_list_slice g.isList i j k .none ∎ ?_ (by rw[Qk]<;>lia)
 rw[me,<- d];rwa[.ref s⁻¹,_,I.laid (t':=s.toks) (o:=.lst (pv c lo e)) (λb u q=>Qg _ q) (Qe _) ?_,rfl,q _ (I.hok.fresh (Qe _))];rwa[QG (jX c lo e) n,_,0,(r.drop (HT.ck c.length 0 lo)).take (HT.ck c.length c.length e-HT.ck c.length 0 lo),Qm _ rfl]
def nN:jU X (.builtin "len") (λxs H Q=>Σp ys,xs=[.ref p]/\(SqL X.K H p ys\/SqT X.K H p ys)/\Q (.int ys.length) H):=by
 intro e s Y H xs j Q I r h;let⟨p,ys,rfl,hq,q⟩:=h;let⟨u,rfl,f⟩:=mG r;ext f;let i:=i6;obtain hq|hq:=hq
 .let⟨c,d,b,g⟩:=I.list hq;let a:=d.length
  show Calls.call_len_list b.isList (by dsimp[Qk]<;>lia) #[.int ys.length,H,I.tok _,#[s.toks+1,#v[Qk,a]],q]
 .let⟨c,d,b,g⟩:=I.tuple hq;let a:=d.length
  show len_tuple b (by dsimp[Qk]<;>lia) #[.int ys.length,H,I.tok _,#[s.toks+1,#v[Qk,a]],q]
def nO:jU X (.type "list") (λxs H Q=>Σp ys,xs=[.ref p]/\(SqL X.K H p ys\/SqT X.K H p ys)/\∀l,H l=L->Q (.ref l) (upd H l (.lst ys))):=by
 intro g s Y H xs C Q I r h;let⟨p,ys,rfl,hq,q⟩:=h;let⟨u,rfl,A⟩:=mG r;ext A
 let m:∀(a:-Um),Vals ys a->ys.length<=sizeLine->∀(c:Uz) (f:Nat),(∀b z,s.heap.get? b=B z->c.get? b=B z)->
   c.get? s⁻¹=B { cls:=.type "list",dict:=L,data:=.seq a.toArray f,slots:=([].toArray) }->EP X g Y Q (.ref s⁻¹) { s with heap:=c }:=λa d k c f j e=>
  #[.ref s⁻¹,_,I.laid (t':=s.toks) j (Qe _) (show ObjOk X.prog X.w _ c _ (.lst ys) from#[k,a,f,d,e]),rfl,q _ (I.hok.fresh (Qe _))]
 obtain hq|hq:=hq
 .let⟨a,d,t,k⟩:=I.list hq;let i:=d.length;let⟨o,v,x,n,y⟩:=t.isList
  show call_list_seq p (.inl rfl) v x y (λc f j e=>m a d k c f j e) (by dsimp[Qk]<;>lia)
 .let⟨a,d,t,k⟩:=I.tuple hq;let i:=d.length;let⟨o,v,x,n,y⟩:=t
  show call_list_seq p (.inr rfl) v x y (λc f j e=>m a d k c f j e) (by dsimp[Qk]<;>lia)
def ML(K:P9)(T:String)(x:V)(H:Hp):Prop:=match x with
 |.ref p=>(T="list"/\Σxs,SqL K H p xs)\/(T="dict"/\Σm ep O,H p=B (.dT m ep O))
 |_=>False
def yy{s:Uq}{T:String}(I:Inv X pins Y H s)(r:RelV x v)(ty:ML X.K T x H) :
  s.TypeIs v T/\∀a,v=.ref a->Σf,s.heap.get? a=B f/\f.dict=L:=by
 cases x with
 |ref p=>
  ext r;rcases ty with⟨rfl,j,hq⟩|⟨rfl,_,_,g,hk⟩
  .let⟨h,z_,b,y_⟩:=I.list hq;rwa[b.isList.typeIs,λa e=>?_];ext e;let⟨o,n,e,c,i,z_⟩:=b;rwa[o,e,i]
  .let⟨z_,y_,x_,w_,o,v_,e,d,u_⟩:=I.hok p _ hk;rwa[#[o,e,d.1],λa e2=>?_];ext e2;rwa[o,e,d.2.1]
 |_=>show False.elim ty
def Kj(K:P9)(T:String)(r:V->-V->Hp->VK->Prop)(to:TE):TE:=λY H Q=>to Y H λx H1=>ML K T x H1/\r x [] H1 Q
def PJ(K:P9)(T:String)(r:V->-V->Hp->VK->Prop)(to:TE)(t:TA):TE:=λY H Q=>to Y H λx H1=>ML K T x H1/\t Y H1 λxs H2=>r x xs H2 Q
variable {o e:Uo} {es:-Uo} {to:TE} {t:TA} {name:Str} {apos cpos:Pos} {T id:String} {r:V->-V->Hp->VK->Prop}
def su(g:PlainAttrs T)(b:Slot T name id)(c:typeOf (.builtin id)=pure (.type "method_descriptor"))(f:Jt X id r)(i:PE X o to)
  (hbase:attributeBase o name X.env (eval o X.env)=eval o X.env:=by rfl) (hline:(apos.endLine==cpos.line)=Uj:=by rfl):PE X (.Call (.Attribute o name apos) [] [] cpos) (Kj X.K T r to):=by
 intro a s Y H Q I h;show wpAny_Call_method0_late hbase hline (a8 (i a s Y H _ I h) λv s1 ⟨x,n,d,e,k,l⟩=>?_);let⟨m,j⟩:=yy d e k;rwa[T,id,g,b,c,m,j,Calls.callWith_builtin rfl (PySem.evalArgs_none (f a s1 Y n x [] v [] Q d e .nil l))]
def Kl(j:PlainAttrs T)(b:Slot T name id)(c:typeOf (.builtin id)=pure (.type "method_descriptor"))(i:Jt X id r)(l:PE X o to)(C:PA X (e::es) t)
  (hbase:attributeBase o name X.env (eval o X.env)=eval o X.env:=by rfl)
  (hfew:((backTo cpos (Uv (e::es) X.env)).all (λx=>!x.1)&&(backToKw cpos (keywordEach [] X.env)).all (λx=>x.1.isSome)
   && decide ((e::es).length+([]:-Keyword).length+(if([]:-Keyword).isEmpty then 0 else 1)<30))=Uj:=by rfl)
  (hline:(apos.endLine==cpos.line)=Uj:=by rfl) (hs:Uv (e::es) X.env=(Uk,eval e X.env)::Uv es X.env:=by rfl) (hplain:(backTo cpos (Uv es X.env)).any (·.1)=Uk:=by rfl) :
  PE X (.Call (.Attribute o name apos) (e::es) [] cpos) (PJ X.K T r to t):=by
 intro a s Y H Q I h;show wpAny_Call_method_late hbase hfew hline rfl (a8 (l a s Y H _ I h) λv s1 ⟨x,D,d,f,w,y⟩=>?_);let⟨A,u⟩:=yy d f w;rwa[T,id,j,b,c,A,u,?_];let g:=C cpos a s1 Y D _ d y;rw[hs] at g⊢
 show Calls.callWith_builtin (by change(Uk||(backTo cpos (Uv es X.env)).any (·.1))=Uk;rw[hplain]<;>rfl) (Calls.evalArgs_plain ?_)
 show a8 g λn s2 ⟨k,p,z,q,m⟩=>i a s2 Y p x k v n Q z f q m
end
def Km(X:Cx)(id:String)(r:V->-V->Hp->VK->Prop):Prop:=
 ∀(pins:-(Up×Obj)) (s:Uq) (Y:St) (H:Hp) (x:V) (xs:-V) (v:Um) (us:-Um) (Q:VK),Inv X pins Y H s->RelV x v->Vals xs us->r x xs H Q->
  ⇑X (call (.builtin id) (v::us)) (EP X pins Y Q) X.xe s
def Vals.one{x:V}(h:Vals [x] us):Σu,us=[u]/\RelV x u:=by
 cases h with
 |cons r t=>ext t;rwa[_,rfl,r]
theorem Vals.zero:∀{us:-Um},Vals [] us->us=[]
 |_,.nil=>rfl
def Vals.dropLast{xs:-V}{us:-Um}(h:Vals xs us):Vals xs.dropLast us.dropLast:=by
 induction h with
 |nil=>show .nil
 |cons r t a=>
  cases t with
  |nil=>show .nil
  |cons q b=>show .cons r a
theorem Vals.eraseIdx:∀{xs:-V} {us:-Um} (i:Nat),Vals xs us->Vals (xs.eraseIdx i) (us.eraseIdx i)
 |_,_,_,.nil=>.nil
 |_,_,0,.cons _ t=>t
 |_,_,i+1,.cons r t=>.cons r (Vals.eraseIdx i t)
theorem Vals.rep(h:Vals xs us):∀k:Nat,Vals (QR k xs).flatten (QR k us).flatten
 |0=>.nil
 |k+1=>by
  rw[Rg,Rg,Sf,Sf];show Vals.append h (Vals.rep h k)
def sw{α:Type}(l:List α):l.eraseIdx (l.length-1)=l.dropLast:=by
 induction l with
 |nil=>rfl
 |cons a r c=>
  cases r with
  |nil=>rfl
  |cons b r=>
   let e:(a::b::r).length-1=((b::r).length-1)+1:=by
    let f:(a::b::r).length=r.length+2:=rfl;let d:(b::r).length=r.length+1:=rfl
    lia
   rw[e,List.eraseIdx_cons_succ,c]
   all_goals rfl
theorem mP{α:Type}:∀(l:List α) (i:Nat),(l.eraseIdx i).length<=l.length
 |[],_=>Qe _
 |_::_,0=>RN _
 |_::r,i+1=>TY (mP r i)
theorem mQ(b:-Um):∀(k:Nat) (a:-Um),
  To (λd c=>d++c) a.toArray (QR k b.toArray)=(a++(QR k b).flatten).toArray
 |0,a=>∎
 |k+1,a=>by
  let e:a.toArray++b.toArray=(a++b).toArray:=∎
  let e2:(a++b)++(QR k b).flatten=a++(QR (k+1) b).flatten:=by
   rw[Rg,Sf,Q9]
  rw[<- e2,<- mQ b k (a++b),<- e,Rg,Ss]
section
variable {X:Cx} {pins:-(Up×Obj)} {Y:St} {H:Hp} {s:Uq} {l b:Up} {xs ys zs:-V}
def Inv.lset{a its':-Um}{f:Array Um->Array Um}{t':Nat}(I:Inv X pins Y H s)(g:H l=B (.lst xs))(e:s.heap.get? l=B { cls:=.type "list",data:=.seq a.toArray n })(d:f a.toArray=its'.toArray)(c:Vals ys its')(hz:ys.length<=sizeLine) :
  Inv X pins Y (upd H l (.lst ys)) { s with heap:=s.heap.update l (Obj.mapSeq f),toks:=t' }:=by
 let q:=PySem.IsL.update e f;rw[d] at q;show I.write (x:=l) (e:=l) (by rw[g];show trivial) (.inl rfl) (λi u h b=>(RO s.heap (Obj.mapSeq f) (Ne.symm h)).trans b) #[_,q] ?_;rwa[hz,its',_,c,q]
theorem Inv.lnew{a:-Um}{t':Nat}(I:Inv X pins Y H s)(b:Vals ys a)(hz:ys.length<=sizeLine) :
  Inv X pins Y (upd H s⁻¹ (.lst ys)) { s with heap:=s.heap.push { cls:=.type "list",data:=.seq a.toArray },toks:=t' }:=
 I.laid (λZ Z q=>Qg _ q) (Qe _) #[hz,a,0,b,Qm _ rfl]
theorem Inv.fresh(I:Inv X pins Y H s):H s⁻¹=L:=I.hok.fresh (Qe _)
def Inv.lstM(I:Inv X pins Y H s)(b:H l=B (.lst xs)):xs.length<=sizeLine/\Σ(a:-Um) (n:Nat),Vals xs a/\xs.length=a.length/\s.heap.get? l=B { cls:=.type "list",data:=.seq a.toArray n }:=by
 let⟨z,a,n,r,e⟩:=I.hok l _ b;rwa[z,a,n,r,r.length,e]
def kZ{n:Nat}(h:n<=sizeLine):Builtin.List.listTooLong n=Uk:=by
 delta Builtin.List.listTooLong;show decide_eq_false ∅
end
section
variable {X:Cx}
def uu:V->-V->Hp->VK->Prop:=λx vs H Q=>Σl xs y,x=.ref l/\vs=[y]/\H l=B (.lst xs)/\xs.length<sizeLine/\Q .non (upd H l (.lst (xs++[y])))
def mR:Km X "list.append" uu:=by
 intro b s Y H x i v j Q I d g h;let⟨l,m,y,rfl,rfl,c,o,q⟩:=h;ext d;let⟨u,rfl,f⟩:=g.one;let⟨z,a,n,r,k,e⟩:=I.lstM c;show call_meets F.slot_list_append #[_,e,rfl] F.entry_list_append (F.args_list_append_2 _ _) (PySem.list_append l a.toArray n u (by rw[Qk];lia)) #[e,?_];rwa[.non,_,I.lset (its':=a++[u]) c e ∎ (r.append (.cons f .nil)) ?_,rfl,q];rw[Qz,Rv]
 lia
def Ca:V->-V->Hp->VK->Prop:=λx vs H Q=>Σl b xs zs,x=.ref l/\vs=[.ref b]/\H l=B (.lst xs)/\H b=B (.lst zs)/\xs.length+zs.length<=sizeLine/\Q .non (upd H l (.lst (xs++zs)))
def wL:Km X "list.extend" Ca:=by
 intro i s Y H x C v y Q I p m h;let⟨l,b,E,M,rfl,rfl,g,k,K,q⟩:=h;ext p;let⟨u,rfl,t⟩:=m.one;ext t;let⟨z,c,n,r,A,e⟩:=I.lstM g;let⟨D,a,j,w,o,e2⟩:=I.lstM k;let f:c.toArray.size+a.toArray.size<=sizeLine:=by rw[Qk,Qk];lia
 let d:¬(!c.toArray.isEmpty&&Builtin.List.listTooLong (c.toArray.size+a.toArray.size))=Uj:=by
  rw[kZ f,Se];show Qx
 show call_meets F.slot_list_extend #[_,e,rfl] F.entry_list_extend (F.args_list_extend_2 _ _)
  (AutoSeq1.list_extend_list_list_0 l c.toArray n b a.toArray j d (by rw[Qk];lia) ∅) #[e,e2,?_]
 rwa[.non,_,I.lset (its':=c++a) g e ∎ (r.append w) ?_,rfl,q];rw[Qz]
 lia
def Ko:V->-V->Hp->VK->Prop:=λx vs H Q=>Σl xs y,x=.ref l/\vs=[]/\H l=B (.lst xs)/\xs[xs.length-1]?=B y/\Q y (upd H l (.lst xs.dropLast))
def Gw:Km X "list.pop" Ko:=by
 intro d s Y H x p v t Q I g o h;let⟨l,w,y,rfl,rfl,f,i,q⟩:=h;ext g;let b:=o.zero;subst b;let⟨z,a,n,r,m,e⟩:=I.lstM f;let⟨u,k,j⟩:=r.get i
 let c:a.toArray[a.toArray.size-1]?=B u:=by
  change a.toArray[a.length-1]?=B u;rw[<- Q4,<- m];show k
 show call_meets F.slot_list_pop #[_,e,rfl] F.entry_list_pop (F.args_list_pop_1 _) (MeetsSeq.list_pop_last l a.toArray n u c (by rw[Qk];lia)) #[e,?_];rwa[y,_,I.lset (its':=a.dropLast) f e ?_ r.dropLast ?_,j,q]
 .change a.toArray.eraseIdxIfInBounds (a.toArray.size-1)=a.dropLast.toArray;rw[Qk,So,sw]
 .rw[List.length_dropLast]
  lia
def yz:V->-V->Hp->VK->Prop:=λx vs H Q=>Σl xs i k y,x=.ref l/\vs=[.int i]/\H l=B (.lst xs)/\-(2^63)<=i/\i<2^63/\seqIndex? i xs.length=B k/\xs[k]?=B y/\Q y (upd H l (.lst (xs.eraseIdx k)))
def yA:Km X "list.pop" yz:=by
 intro c s Y H x E v K Q I f A h;let⟨l,p,i,k,y,rfl,rfl,d,C,m,hk,g,q⟩:=h;ext f;let⟨u,rfl,j⟩:=A.one;let⟨t,rfl⟩:=j;let⟨z,a,n,r,o,e⟩:=I.lstM d;let⟨w,D,b⟩:=r.get g;show call_meets F.slot_list_pop #[_,e,rfl] F.entry_list_pop (F.args_list_pop_2 _ _)
  (MeetsSeq.list_pop_at l a.toArray n i t k w (fitsIndex_both C m) (by rw[Qk,<- o];show hk) (by rw[<- Q4];show D) (by rw[Qk];lia)) #[e,?_]
 rwa[y,_,I.lset (its':=a.eraseIdx k) d e ?_ (r.eraseIdx k) ?_,b,q]
 .change a.toArray.eraseIdxIfInBounds k=(a.eraseIdx k).toArray;rw[So]
 .have:=mP p k
  lia
def NH:R2:=λx y H Q=>Σl b xs zs,x=.ref l/\y=.ref b/\H l=B (.lst xs)/\H b=B (.lst zs)/\xs.length+zs.length<=sizeLine/\∀p,H p=L->Q (.ref p) (upd H p (.lst (xs++zs)))
def Gx:gN X (binaryOp .Add) NH:=by
 intro d s Y H x y v u Q I f o h;let⟨l,b,C,t,rfl,rfl,m,g,D,q⟩:=h;ext f;ext o;let⟨z,c,n,r,A,e⟩:=I.lstM m;let⟨w,a,p,k,i,e2⟩:=I.lstM g;show PySem.P.add_list e e2 ?_ (by rw[Qk,Qk];lia);let j:c.toArray++a.toArray=(c++a).toArray:=∎
 rw[j];rwa[.ref _,_,I.lnew (t':=s.toks) (r.append k) (by rw[Qz];lia),rfl,q _ I.fresh]
def NI:R2:=λx y H Q=>Σl k xs,x=.ref l/\y=.int k/\H l=B (.lst xs)/\-(2^63)<=k/\k<2^63/\xs.length*k.toNat<=sizeLine/\
 ∀p,H p=L->Q (.ref p) (upd H p (.lst (QR k.toNat xs).flatten))
def Cb{α:Type}(xs:List α)(k:Nat):(QR k xs).flatten.length=k*xs.length:=by
 induction k with
 |zero=>simp
 |succ k a=>rw[Rg,Sf,Qz,a,Nat.succ_mul,RI]
def Gy:gN X (binaryOp .Mult) NI:=by
 intro p s Y H x y v u Q I M O h;let⟨l,k,R,rfl,rfl,C,K,A,w,q⟩:=h;ext M;let⟨t,rfl⟩:=O;let⟨z,b,n,r,E,e⟩:=I.lstM C;let d:b.toArray.size*k.toNat<=sizeLine:=by rw[Qk,<- E];show w
 let g:¬b.toArray.size*k.toNat > (2^63-1) / 8:=by
  have:(sizeLine:Nat)<=(2^63-1) / 8:=⋯
  lia
 let f:¬(!Builtin.List.listFitsIndex k)=Uj:=by
  rw[fitsIndex_both K A];show Qx
 let c:¬Builtin.List.listTooLong (b.toArray.size*k.toNat)=Uj:=by
  rw[kZ d];show Qx
 let i:To (λj o=>j++o) ([].toArray) (QR (if b.toArray.isEmpty=Uj then 0 else k.toNat) b.toArray)=(QR k.toNat b).flatten.toArray:=by
  let N:∀m:Nat,To (λj o=>j++o) ([].toArray) (QR m b.toArray)=(QR m b).flatten.toArray:=λm=>by
   have:=mQ b m [];rw[Rw] at this;show this
  rw[N]
  cases b with
  |nil=>simp
  |cons a P=>rw[if_neg ∎]
 show wpAny_binaryOp_repeat_ref ⋯ #[_,e,rfl] (λD=>typeIs_int D k t) noFill_list_mul F.fills_int_mul F.slot_int_rmul repeat_list F.slot_int_index.lookup
  (call_meets F.slot_int_rmul (typeIs_int s k t) F.entry_int_rmul (F.args_int_rmul_2 _ _) (int___rmul___int_list k t l b.toArray n)
   #[e,rfl,#[_,e,rfl],call_meets F.slot_list_mul #[_,e,rfl] F.entry_list_mul (F.args_list_mul_2 _ _) (AutoListH.list___mul___list_int_3 l b.toArray n k t f g c) #[e,?_]])
 rw[i];rwa[.ref _,_,I.lnew (t':=s.toks) (r.rep k.toNat) (by rw[Cb,SZ];show w),rfl,q _ I.fresh]
end
end L2
namespace Att
open PySem PySem.W PySem.Calls PyProof.Rows
def j9:∀(ns:-Int) (vs:-Um),WellAll P h vs (ns.map WData.int)->IntsAre vs ns:=by
 intro ns
 induction ns with
 |nil=>
  intro vs w;rw[Su] at w;ext w;show .nil
 |cons n ns c=>
  intro vs w;rw[QE] at w
  cases w with
  |cons a b=>
   ext a;show .cons _ _ (c _ b)
def wM{l:OpenLaw}(v:l.most=B n){h:Uz}(b:l.row.toRowW.claim.pre args=Uj)(j:WellAll P h vals args) :
  Σa k ns,vals=[Value.ref a]/\args=[WData.list (ns.map WData.int)]/\h.get? a=B { cls:=.type "list",data:=.seq k.toArray }/\IntsAre k ns/\ns.length<=n:=by
 let i:WShape.hasAll [] args [.list .int]=Uj:=(pre_splitW b).1;let m:l.pre.holds [] { args:=args }=Uj:=(pre_splitW b).2;let⟨d,r,rfl,w,u⟩:=hasAllW_cons i;obtain rfl:=hasAllW_nil u;let⟨x,rfl,t⟩:=hasW_list w;let⟨ns,rfl⟩:=items_int t
 let c:ns.length<=n:=by
  unfold OpenLaw.pre at m
  let g:(WTm.not (.lt (.lit (.int (n:Int))) (.len (.arg 0)))).holds [] { args:=[.list (ns.map .int)] }=Uj:=by
   let g:=(holds_andW m).1;rw[v] at g;show g
  let f:=condW_of g (w_not (w_lt w_lit (w_len_list (w_arg rfl))));rw[Qa] at f;show Nat.le_of_not_lt λq=>?_;let o:(n:Int)<((ns.length:Nat):Int):=∅
  first
   |(rw[decide_eq_true o] at f;show absurd f ⋯)
   |(simp at f;lia)
 cases j with
 |cons p w2=>
  ext w2
  cases p with
  |list s e=>rwa[_,_,ns,rfl,rfl,s,j9 ns _ e,c]
theorem wN(l:OpenLaw)(args:-WData):l.row.toRowW.claim.post args (.bool Uj) args=Uj:=
 postW_of (r:=l.row.toRowW) (X:=(Uj==Uj))
  (show WShape.has [] (.bool Uj) .bool=Uj by first|rfl|decide|simp[WShape.has,WShape.arms,WShape.armsAll])
  (show(WTm.eq .res (.lit (.bool Uj))).value [] { args:=args,res:=B (.bool Uj),after:=args }=B (.bool (Uj==Uj)) from w_eq_bool (w_res rfl) w_lit) rfl
def pA{l:OpenLaw}{n:Nat}{YP:Ux->Uz->Prop}{d:DefRec}(M:l.most=B n)(s:d.params.defaults=[])(i:∀(w:Ux) (t b:Uq) (mg x:Str->@&Um) (k:Up) (o:Obj) (p m c:Um) (a:Up) (vs:-Um) (ns:-Int),
   Ground q loose [] XP w t mg x b.heap->YP w b.heap->
   b.heap.get? k=B o->o.data=.func (docDef d.name d.params d.body d.scope p m c)->b.heap.CodeRec m d.name->mg d.name=B (.ref k)->
   b.heap.get? a=B { cls:=.type "list",data:=.seq vs.toArray }->IntsAre vs ns->ns.length<=n->b.gens=([].toArray)->
   codeAny (Ut l.prog w) callerA (.call (.ref k) #[[.ref a],[]]) (λr s'=>r=.ok (.ret (.bool Uj))/\OldK b.heap s'.heap/\s'.os=b.os/\AllBare s'.gens) b) :
  WalkO q loose XP YP l.row.toRowW d [] (λf vs=>PySem.call f vs):=by
 intro w t b mg x G R k o p m c N kV E I v A u P z vals S j C Q y D;obtain rfl:N=.none:=Dflts.none A s;obtain rfl:kV=.none:=Dflts.noKw A;let⟨a,vs,ns,rfl,rfl,g,e,h⟩:=wM M j y;show enter_call (codeAny_mono (i w t b mg x k o p m c a vs ns G R E (fd_plain I) v u g e h P) λr s' hq=>?_);let⟨rfl,H,F,O⟩:=hq
 rwa[.inl #[.bool Uj,.bool Uj,[],rfl,λZ=>rfl,.bool Uj,wN l _,λZ=>#[List.Pairwise.nil,λZ K=>(nomatch K)]],H,F,O]
end Att
namespace L2
open PyProof.Rows
theorem mS:∀{vs:-Um} {ns:-Int},IntsAre vs ns->Vals (ns.map V.int) vs
 |_,_,.nil=>.nil
 |_,_,.cons n t h=>.cons #[t,rfl] (mS h)
def Gz(H:Hp):Prop:=∀b,H b=L\/Σo xs,H b=B (.frz o (.lst xs))
def yB{K:P9}{mg S:Str->@&Um}{x:Str}{c:Uq}{vs:-Um}{ns:-Int}(W:K.In c.heap)(hns:c.heap.Ns UB mg)(g:c.heap.Ns builtinsNs S)(T:∀x:Str,x≠"__name__"->S x=bootBuiltins x)(y:c.heap.NoLimit)(hg:c.gens=([].toArray))(M:c.heap.get? a=B { cls:=.type "list",data:=.seq vs.toArray })(hi:IntsAre vs ns)(Z:ns.length<=sizeLine)(hr:Room k callerA)(F:∀base:Uz,K.In base->base.Ns UB mg->FnOk P w K mg base CX k fa fd [x] sp)(j:∀(s:Uq) (u:Um),BindsTo s fd #[[u],[]] [(x,u)])(O:∀H:Hp,Gz H->SqL K H a (ns.map V.int)->sp [.ref a] H (λv J=>v=.bl Uj) λJ J J=>False)(Q:∀H e s',CX [] H c (λJ J J=>False) e s'->False) :
  codeAny (Ut P w) callerA (.call (.ref fa) #[[.ref a],[]]) (λr s'=>r=.ok (.ret (.bool Uj))/\OldK c.heap s'.heap/\s'.os=c.os/\AllBare s'.gens) c:=by
 let rv:=mS hi;let A:=hi.length
 let i:∀H:Hp,Gz H->SqL K H a (ns.map V.int)->HOk P w H c.heap->(∀b,H b≠L->b=a)->(H a≠L->K.lookup a=L)->
   codeAny (Ut P w) callerA (.call (.ref fa) #[[.ref a],[]]) (λr s'=>r=.ok (.ret (.bool Uj))/\OldK c.heap s'.heap/\s'.os=c.os/\AllBare s'.gens) c:=by
  intro H Y hS C U hK;let f:∀{b:Up} {o:Obj},c.heap.get? b=B o->H b=L->(nE c.heap H).get? b=B o:=λe n=>xV e n
  let R:∀{b:Up} {o:Obj} {l:Array DictEntry} {I:Nat},c.heap.get? b=B o->o.data=.dict l I->H b=L:=λ{b o l I} e d=>by
   cases q:H b with
   |none=>rfl
   |some u=>
    let N:b=a:=U b (by rw[q];simp);subst N;rw[M] at e;ext e;let d':Data.seq vs.toArray _=Data.dict l I:=d;ext d'
  let wP:∀{b:Up} {m:Str->@&Um},c.heap.Ns b m->(nE c.heap H).Ns b m:=λ{b m} ⟨o,l,I,e,d,r⟩=>#[o,l,I,f e (R e d),d,r]
  let p:K.In (nE c.heap H):=λb o e=>f (W b o e) (by
   cases q:H b with
   |none=>rfl
   |some u=>
    let N:b=a:=U b (by rw[q];simp);subst N;rw[hK (by rw[q];simp)] at e;ext e)
  let hM:Mod K mg (nE c.heap H):=#[p,wP hns,#[S,wP g,T],let ⟨mc,h1,h2⟩:=y;#[mc,wP h1,h2]];let e0:Env0 P w K mg (nE c.heap H) callerA [] c H:=#[rfl,hM,λb o e=>BJ e,Nat.le_of_eq (wx _ _),trivial,λb g=>absurd (show b∈([]:-Up) from g) ∎,C,.of_eq hg];show codeAny_mono ((F _ p (wP hns)).run callerA [] c H #[[.ref a],[]] [.ref a] [.ref a] _ _ hr e0 (j c (.ref a)) (.cons rfl .nil) (O H Y hS)) λr s' h=>?_
  cases r with
  |error e=>show(Q H e s' h).elim
  |ok fl=>
   cases fl with
   |next=>show False.elim h
   |brk=>show False.elim h
   |cont=>show False.elim h
   |ret u=>
    let⟨v,H',os,t,X,D,r',q⟩:=h;let q':v=.bl Uj:=q;subst q';obtain rfl:u=Value.bool Uj:=r';rwa[rfl,OldK.of_keep λb o e=>?_,os,t]
    cases q:H b with
    |none=>show X.keep b o e q (by intro z;show absurd (show b∈([]:-Up) from z) ∎) ∎
    |some u=>
     obtain z|⟨ob,xs,z⟩:=Y b
     .rw[q] at z;ext z
     .let z2:=X.frzs b ob _ z;let⟨e1,z_⟩:=C b _ z;let⟨e2,z_⟩:=D b _ z2;rw[e] at e1;ext e1;show e2
 cases hk:K.lookup a with
 |some o=>
  let e:=W a o hk;rw[M] at e;ext e;show i (λJ=>L) (λJ=>.inl rfl) (.inr #[_,vs.toArray,_,hk,rfl,rfl,rfl,by rw[Qk,A];show Z,↥rv]) (λb u z=>by let E:(L:@&HO)=B u:=z;ext E) (λb z=>absurd rfl z) λz=>absurd rfl z
 |none=>
  show i (λb=>if b=a then B (.frz { cls:=.type "list",data:=.seq vs.toArray } (.lst (ns.map V.int))) else L) (λb=>?_) (.inl (.inr #[{ cls:=.type "list",data:=.seq vs.toArray },if_pos rfl])) (λb u z=>?_) (λb z=>?_) λJ=>hk
  .by_cases g:b=a
   .show .inr #[_,_,if_pos g]
   .show .inl (if_neg g)
  .by_cases g:b=a
   .let E:=(if_pos g).symm.trans z;ext E;subst g;rwa[M,by rw[Qa];show Z,vs,_,rv,M]
   .let E:=(if_neg g).symm.trans z;ext E
  .by_cases g:b=a
   .show g
   .show absurd (if_neg g) z
def Cc{l:PySem.W.OpenLaw}{n k:Nat}{YP:Ux->Uz->Prop}{d:DefRec}{K:Params->P9}{CX:Ux->wJ}{sp:Ux->Sp}{x:Str}(M:l.most=B n)(A:n<=sizeLine)(p:d.params.defaults=[])(X:Room k callerA)(z:∀(w:Ux) (h:Uz),YP w h->(K w.params).In h)(F:∀(w:Ux) (mg:Str->@&Um) (m:Up) (h:Uz),(K w.params).In h->h.Ns UB mg->mg d.name=B (.ref m)->
   Σfd:UH,(∀(s:Uq) (u:Um),BindsTo s fd #[[u],[]] [(x,u)])/\
    ∀base:Uz,(K w.params).In base->base.Ns UB mg->FnOk l.prog w (K w.params) mg base (CX w) k m fd [x] (sp w))(t:∀(w:Ux) (H:Hp) (a:Up) (ns:-Int),ns.length<=n->Gz H->SqL (K w.params) H a (ns.map V.int)->sp w [.ref a] H (λv L=>v=.bl Uj) λL L L=>False)(y:∀(w:Ux) (H:Hp) (s:Uq) (e:Um) (s':Uq),CX w [] H s (λL L L=>False) e s'->False) :
  PySem.W.WalkO q loose XP YP l.row.toRowW d [] (λf C=>PySem.call f C):=by
 show Att.pA M p λw s₀ Q mg mb m o Z cd I a C ns G U Y hd O r j i c S=>?_;let D:=z w _ U;let⟨fd,P,N⟩:=F w mg m _ D G.T.g r;show yB D G.T.g G.T.b G.T.builtins G.T.nolimit S j i (QG c A) X N P (λH R E=>t w H a ns c R E) λH e s'=>y w H Q e s'
meta def cy(s:Uw):Arguments:=match s with
 |.FunctionDef _ a _ _ _ _ _ _ _ _=>a
 |_=>{ posonlyargs:=[],args:=[],vararg:=L,kwonlyargs:=[],kw_defaults:=[],kwarg:=L,defaults:=[] }
meta def aE(s:Uw):-Uw:=match s with
 |.FunctionDef _ _ b _ _ _ _ _ _ _=>b
 |_=>[]
meta def ab(s:Uw):UC:=match s with
 |.FunctionDef _ _ _ _ _ _ sc _ _ _=>sc
 |_=>{ kind:=.function,names:=[],isGenerator:=Uk,isCoroutine:=Uk }
abbrev i9:wJ:=λZ Z Z Z Z Z=>False
abbrev E0:XK:=λZ Z Z=>False
theorem pB:i8 i9 X E0:=λZ Z Z Z Z Z Z h=>h.elim
structure Fun(K:P9)(x qual:Str)(st:Stmt)(f:Addr)(fd:FuncData):Prop where
 ex:Σ(oc:Um) (od:@&Up) (kV doc pm:Um) (an:@&Up) (cdv ct:Um) (osl:Array (@&Um)),
  fd=Rb x qual (cy st) (aE st) (ab st) .none kV doc pm an cdv ct/\K.lookup f=B #[oc,od,.func fd,osl]/\Sd K cdv qual=Uj
 kp:Q7 K (.ref f)=Uj
section
variable {P:Uu} {w:Ux} {K:P9} {mg:Str->@&Um} {base:Uz}
def Fun.ok{x qual:Str}{st:Uw}{f:Up}{fd:UH}{N ps:-Str}{k:Nat}{sp:Sp}(F:Fun K x qual st f fd)(S:a6 N ps (ab st))(e:∀vs H Q E,sp vs H Q E->vs.length=ps.length)
  (hbody:∀(b:Um) (A:Uy) (a:-Env) (s:Uq) (H:Hp) (vs:-V) (Q:VK) (E:XK),Room k (A.deeper (envOfC qual (ab st) s⁻¹ f b))->sp vs H Q E->
   Σt,PSs (ma i9 P w K mg base N qual (ab st) f b A a s H E).nox (aE st) t/\t { nx:=λZ i=>Q .non i,rt:=Q } (bU N vs) H):FnOk P w K mg base i9 (k+1) f fd ps sp:=by
 let⟨p,n,kV,g,o,an,b,r,j,rfl,l,d⟩:=F.ex;show Kc l d S e λA a s H vs Q E m c=>?_;let⟨t,h,q⟩:=hbody b A a s H vs Q E m c;rwa[t,h.nox,q]
def Fun.binds{x qual:Str}{st:Uw}{f:Up}{fd:UH}{ps:-Str}(F:Fun K x qual st f fd)
  (h:∀(kV b c:Um) (an:@&Up) (a e:Um) (d:-Um),d.length=ps.length->bindArgs (Rb x qual (cy st) (aE st) (ab st) .none kV b c an a e) #[d,[]]=pure (ps.zip d)):Binds K fd ps []:=by
 let⟨k,j,kV,b,c,an,a,e,i,rfl,l,g⟩:=F.ex;show .all (h kV b c an a e)
theorem k4{x qual:Str}{st:Uw}{f:Up}{i:Um}{h an:@&Up}{d:Array (@&Um)}{kV b e a g:Um}(l:K.lookup f=B #[i,h,.func (Rb x qual (cy st) (aE st) (ab st) .none kV b e an a g),d])
  (c:Sd K a qual=Uj) (k:Q7 K (.ref f)=Uj):Fun K x qual st f (Rb x qual (cy st) (aE st) (ab st) .none kV b e an a g):=#[#[i,h,kV,b,e,an,a,g,d,rfl,l,c],k]
end
def wQ{A Bqq:Prop}(h:Bqq):if Uk=Uj then A else Bqq:=by
 rw[if_neg Qx];show h
def wR{A Bqq:Prop}(h:A):if Uj=Uj then A else Bqq:=by
 rw[if_pos rfl];show h
def Same(H H':Hp):Prop:=∀b o,H b=B o->H' b=B o
theorem Same.refl(H:Hp):Same H H:=λZ Z h=>h
theorem Same.trans(a:Same H H1)(b:Same H1 H2):Same H H2:=λc o h=>b c o (a c o h)
def Same.free{H H':Hp}(e:Same H H')(h:H' l=Option.none):H l=Option.none:=by
 cases q:H l with
 |none=>rfl
 |some o=>
  rw[e l o q] at h;ext h
end L2
namespace HT
open PyProof.Rows
section
variable {prog:Uu} {w:Ux} {A:Uy} {E:Um->Uq->Prop} {s:Uq}
def ib{t d:Up}{a:Array Um}{g i:Um}{lo hi:@&Int}{Q:Um->Uq->Prop}(b:IsTup s.heap t a)(f:s.heap.IsSliceOf d g i .none)(pl:IsPart g lo)(k:IsPart i hi)
  (h0:ck a.size 0 lo=0) (h1:ck a.size a.size hi=a.size) (h:Q (.ref t) s):Us (Ut prog w) A (getItem (.ref t) (.ref d)) Q E s:=by
 let⟨l,e,c,n⟩:=id f;let j:s.TypeIs (.ref d) "slice":=#[l,e,c];delta getItem
 try with_reducible show UF ?_
 first|show Ul (Ur ?_)|skip
 show Ul (wpAny_sequenceKey b.typeIs ⋯ ?_);show Ul (wpAny_callSpecial?_slot (name:=Str.ofString "__getitem__") b.typeIs PyProof.Rows.slot_tuple_getitem (UG PyProof.Rows.slot_tuple_getitem b.typeIs entry_tuple_getitem ?_ (args_tuple_getitem _ _)));change Us _ _ (Builtin.Tuple.tupleItemsOf (.ref t) >>= _) _ _ s;show Ul (tupleItemsOf_ b ?_);show Ul (wpAny_typeOf j ?_);rw[if_pos ⋯];show Ul (dX f pl k ?_);rw[h0,h1]
 change Us _ _ (if((((0:Nat):Int))==0&&(1:Int)==1&&(a.size-0)==a.size)=Uj then _ else _) _ _ s
 rw[if_pos ∎];show Ul (m:=Builtin.Tuple.tupleIsExact _) ?_;delta Builtin.Tuple.tupleIsExact;show Ul (wpAny_typeOf b.typeIs (Ur ?_));rw[if_pos ⋯]
 first
  |show Ul (wpAny_rule (Ur ⟨_,rfl,Ur h⟩))
  |show Ur ⟨_,rfl,Ur h⟩
  |show Ul (Ur (Ur ⟨_,rfl,Ur h⟩))
end
end HT
namespace L2
open PyProof.Rows
section
variable {X:Cx}
def Cd:SlR X (λx lo hi H Q=>Σa xs,x=.ref a/\SqT X.K H a xs/\HT.ck xs.length 0 lo=0/\HT.ck xs.length xs.length hi=xs.length/\Q (.ref a) H):=by
 intro d s Y H x v t p lo hi n Q I j f g i h;let⟨a,xs,rfl,k,l,m,q⟩:=h;ext j;let⟨b,r,e,o⟩:=I.tuple k;let c:b.toArray.size=xs.length:=by rw[Qk];show r.length.symm
 rwa["tuple",_,PyProof.Rows.slot_tuple_getitem.lookup,e.typeIs,HT.ib e f g i (by rw[c];show l) (by rw[c];show m) #[.ref a,H,I,rfl,q]]
end
section
variable {κ:Type} [DecidableEq κ]
meta def ig(O:-(κ×V))(k:κ):@&V:=(O.find? λR=>decide (R.1=k)).map (·.2)
meta def cR(O:-(κ×V))(k:κ)(v:V):-(κ×V):=
 if(O.any λR=>decide (R.1=k))=Uj then O.map (λR=>if R.1=k then(R.1,v) else R) else O++[(k,v)]
def k5{p:κ×V}(e:p.1=k):ig (p::r) k=B p.2:=by simp[ig,Rx,e]
def k7{p:κ×V}(e:¬p.1=k):ig (p::r) k=ig r k:=by simp[ig,Rx,e]
theorem pC(k:κ):∀a:-(κ×V),(a.any λb=>decide (b.1=k))=(ig a k).isSome
 |[]=>rfl
 |p::r=>by
  rw[SS];by_cases e:p.1=k
  .dsimp[k5 e,decide_eq_true e,Bool.true_or,TC]
  .rw[k7 e,decide_eq_false e,Ts];show pC k r
def dJ(a:-(κ×V))(k:κ)(v:V):(cR a k v).length<=a.length+1:=by
 delta cR;split
 .rw[Qa];lia
 .rw[Qz,QI,Sv];lia
def RelO.isSome_eq{o:@&V}{u:@&Um}(r:RelO o u):o.isSome=u.isSome:=by
 cases o with
 |none=>cases u with
  |none=>rfl
  |some _=>show(show False from r).elim
 |some _=>cases u with
  |none=>show(show False from r).elim
  |some _=>rfl
def KV.val(r:KV kvs vs)(k:κ):RelO (ig kvs k) (valueAt vs k):=by
 unfold KV at r
 induction r with
 |nil=>show True.intro
 |@cons p q ps c h t f=>
  let⟨d,g⟩:=h;by_cases e:p.1=k
  .let a:q.1=k:=d.symm.trans e;let b:valueAt (q::c) k=B q.2:=by simp[valueAt,Rx,a]
   rw[k5 e,b];show g
  .let a:¬q.1=k:=λz=>e (d.trans z);let b:valueAt (q::c) k=valueAt c k:=by simp[valueAt,Rx,a]
   rw[k7 e,b];show f
def KV.any{a:-(κ×V)}{vs:-(κ×Um)}(r:KV a vs)(k:κ):(a.any λb=>decide (b.1=k))=vs.any λb=>decide (b.1=k):=by
 unfold KV at r
 induction r with
 |nil=>rfl
 |cons h t c=>rw[SS,SS,c,h.1]
def KV.repl{b:-(κ×V)}{vs:-(κ×Um)}(r:KV b vs)(k:κ)(g:RelV y u) :
  KV (b.map λa=>if a.1=k then(a.1,y) else a) (vs.map λa=>if a.1=k then(a.1,u) else a):=by
 unfold KV at r⊢
 induction r with
 |nil=>show .nil
 |@cons p q ps i h t d=>
  rw[QE,QE];show .cons ?_ d;let⟨c,f⟩:=h;by_cases e:p.1=k
  .rw[if_pos e,if_pos (c.symm.trans e)];rwa[c,g]
  .rw[if_neg e,if_neg (λz=>e (c.trans z))];rwa[c,f]
def KV.put(r:KV kvs vs)(k:κ)(a:RelV y u):KV (cR kvs k y) (stored vs k u):=by
 unfold cR stored;rw[r.any k];by_cases e:(vs.any λb=>decide (b.1=k))=Uj
 .rw[if_pos e,if_pos e];show r.repl k a
 .rw[if_neg e,if_neg e];show Paired.snoc r #[rfl,a]
theorem KV.length{a:-(κ×V)}{vs:-(κ×Um)}(r:KV a vs):a.length=vs.length:=Paired.length r
end
def k8(r:RelV (kV k) u):(aN P w).is k u=Uj:=by
 cases k with
 |inl i=>let⟨t,e⟩:=(show Σt,u=Value.int i t from r);subst e;show o5 P w i t
 |inr x=>let⟨t,e⟩:=(show Σt,u=Value.str x t from r);subst e;show o6 P w x t
theorem mT:∀{ks:-aD} {us:-Um},Vals (ks.map kV) us->ItemsAre (aN P w) ks us
 |[],_,r=>by rw[Su] at r;ext r;show .nil
 |k::ks,_,r=>by
  rw[QE] at r
  cases r with
  |cons h t=>show .cons (k8 h) (mT t)
abbrev KT(m:Nat)(H:Hp):-(-(aD ⊕ -aD)×V)->-(-(aD ⊕ -aD)×Up×Um)->Prop:=Paired λp q=>p.1=q.1/\TkAt H m p.1 q.2.1/\RelV p.2 q.2.2
def KT.val(r:KT m H kvs xs)(k:-(aD ⊕ -aD)):RelO (ig kvs k) ((atKey xs k).map (·.2)):=by
 induction r with
 |nil=>show True.intro
 |@cons p q ps c h t f=>
  let⟨d,z_,g⟩:=h;by_cases e:p.1=k
  .let a:q.1=k:=d.symm.trans e;let b:atKey (q::c) k=B q.2:=by simp[atKey,Rx,a]
   rw[k5 e,b];show g
  .let a:¬q.1=k:=λz=>e (d.trans z);let b:atKey (q::c) k=atKey c k:=by simp[atKey,Rx,a]
   rw[k7 e,b];show f
def KT.repl{a:-(-(aD ⊕ -aD)×V)}{xs:-(-(aD ⊕ -aD)×Up×Um)}(r:KT m H a xs)(k:-(aD ⊕ -aD))(g:RelV y u) :
  KT m H (a.map λc=>if c.1=k then(c.1,y) else c) (xs.map (putAt k u)):=by
 induction r with
 |nil=>show .nil
 |@cons p q ps j h t f=>
  rw[QE,QE];show .cons ?_ f;let⟨b,d,i⟩:=h;delta putAt;by_cases e:p.1=k
  .rw[if_pos e,if_pos (b.symm.trans e)];rwa[b,d,g]
  .rw[if_neg e,if_neg (λz=>e (b.trans z))];rwa[b,d,i]
def KT.put{m:Nat}{H:Hp}{a:-(-(aD ⊕ -aD)×V)}{xs:-(-(aD ⊕ -aD)×Up×Um)}(r:KT m H a xs)(k:-(aD ⊕ -aD)){b:Up}{y:V}{u:Um}(f:TkAt H m k b)(c:RelV y u) :
  KT m H (cR a k y) (storedH xs k b u):=by
 let e:(a.any λd=>decide (d.1=k))=(atKey xs k).isSome:=by
  rw[pC,(r.val k).isSome_eq,Sh]
 unfold cR storedH;rw[e];by_cases q:(atKey xs k).isSome=Uj
 .rw[if_pos q,if_pos q];show r.repl k c
 .rw[if_neg q,if_neg q];show Paired.snoc r #[rfl,f,c]
theorem KT.keeps{H H':Hp}(r:KT m H kvs xs)(a:∀b ys,H b=B (.tup ys)->H' b=B (.tup ys)):KT m H' kvs xs:=
 Paired.mapP r λZ Z z=>#[z.1,z.2.1.keep a,z.2.2]
section
variable {P:Uu} {w:Ux} {H:Hp} {h:Uz} {a:Up}
theorem Ex(ok:HOk P w H h)(e:Rd H a u):ObjOk P w H h a u:=e.ok ok
theorem pF{b:-(aD×V)}(ok:HOk P w H h)(e:Rd H a (.dK b)):b.length<=sizeLine/\(a==sysModules)=Uk/\Σvs,KV b vs/\h.DictOf (aN P w) a vs:=
 show ObjOk P w H h a (.dK b) from Ex ok e
theorem Ey{b:-(aD×V)}(ok:HOk P w H h)(e:H a=B (.dK b)):b.length<=sizeLine/\(a==sysModules)=Uk/\Σvs,KV b vs/\h.DictOf (aN P w) a vs:=pF ok (.inl e)
def GA{ks:-aD}(ok:HOk P w H h)(e:H a=B (.tup (ks.map kV))):(tupleKind (aN P w)).is h ks a:=by
 let⟨z_,b,r,o,d,c,n,f⟩:=(show ObjOk P w H h a (.tup (ks.map kV)) from ok a _ e);rwa[o,b.toArray,n,d,c,f,↥(mT r)]
def fY{A:Uy}(a:A.units+9<cLine):(bH m (aN P w)).room A.in1:=by
 change A.units+1+8<cLine
 lia
theorem k9:∀{m:Nat} {ks:-(aD ⊕ -aD)} {vs:-V} {us:-Um},HOk P w H h->TkIts H m ks vs->Vals vs us->Its2 (aN P w) h m ks us
 |_,[],_,_,ok,r,v=>by cases(show _=[] from r);ext v;show .nil
 |m,.inl k::xs,_,_,ok,r,v=>by
  let⟨d,rfl,z,t⟩:=r
  cases v with
  |cons c a=>show .key z (k8 c) (k9 ok t a)
 |m,.inr ks::xs,_,_,ok,r,v=>by
  let⟨b,d,rfl,z,g,t⟩:=r
  cases v with
  |@cons _ u _ _ c a=>
   cases(show u=Value.ref b from c);show .tup z (GA ok g) (k9 ok t a)
def eN(ok:HOk P w H h)(e:TkAt H m ks a):(bH m (aN P w)).is h ks a:=by
 let⟨c,g,r⟩:=e;let⟨z_,b,q,o,f,d,n,i⟩:=(show ObjOk P w H h a (.tup c) from ok a _ g);rwa[o,b.toArray,n,f,d,i,↥(k9 ok r q)]
def pG{b:-(-(aD ⊕ -aD)×V)}(ok:HOk P w H h)(e:Rd H a (.dT m ep b)):b.length<=sizeLine/\(a==sysModules)=Uk/\
  Σd,KT m H b d/\h.DictOfH (bH m (aN P w)) a d:=by
 let⟨z,y,d,r,o,i,v,u,k,s,j⟩:=(show ObjOk P w H h a (.dT m ep b) from Ex ok e);rwa[z,y,d,r,o,i,ep,v,u,k,s,λx c=>?_,j]
 let f:∀{l:-(-(aD ⊕ -aD)×V)} {n:-(-(aD ⊕ -aD)×Up×Um)},KT m H l n->∀x∈n,(bH m (aN P w)).is h x.1 x.2.1:=by
  intro l n q
  induction q with
  |nil=>intro x c;show nomatch c
  |@cons p q ps A hq t g=>
   intro x c;obtain e|c:=Qf.mp c
   .subst e;show eN ok (by rw[<- hq.1];show hq.2.1)
   .show g x c
 show f r x c
theorem fA(ok:HOk P w H h)(e:H a=B (.dT m ep kvs)):(a==sysModules)=Uk/\Σxs o es,KT m H kvs xs/\h.get? a=B o/\o.ExactDict/\o.data=.dict es ep/\es.toList=xs.map (entryOfKey (bH m (aN P w))):=
 let ⟨_,y,xs,r,o,es,h1,h2,h3,h4,_⟩:=(show ObjOk P w H h a (.dT m ep kvs) from ok a _ e)
 #[y,xs,o,es,r,h1,h2,h3,h4]
theorem uw{b:-(-(aD ⊕ -aD)×V)}(ok:HOk P w H h)(e:H a=B (.dT m ep b)):b.length<=sizeLine/\(a==sysModules)=Uk/\
  Σc,KT m H b c/\h.DictOfH (bH m (aN P w)) a c:=pG ok (.inl e)
end
def DGet(H:Hp)(a:Up)(y:V)(r:@&V):Prop:=
 (ΣO k,Rd H a (.dK O)/\y=kV k/\r=ig O k)\/Σm ep O k b,Rd H a (.dT m ep O)/\y=.ref b/\TkAt H m k b/\r=ig O k
def DPut(H:Hp)(a:Up)(y v:V)(F:Nat->Hp):Prop:=
 (ΣO k,H a=B (.dK O)/\y=kV k/\O.length<sizeLine/\F=λZ=>upd H a (.dK (cR O k v)))\/
 Σm ep O k b,H a=B (.dT m ep O)/\y=.ref b/\TkAt H m k b/\O.length<sizeLine/\F=λe=>upd H a (.dT m e (cR O k v))
theorem DGet.k{H:Hp}{a:Up}{b:-(aD×V)}{k:aD}(e:H a=B (.dK b)):DGet H a (kV k) (ig b k):=.inl #[b,k,.inl e,rfl,rfl]
theorem DGet.t{H:Hp}{a b:Up}{m ep:Nat}{c:-(-(aD ⊕ -aD)×V)}{k:-(aD ⊕ -aD)}(e:H a=B (.dT m ep c))(d:TkAt H m k b):DGet H a (.ref b) (ig c k):=.inr #[m,ep,c,k,b,.inl e,rfl,d,rfl]
theorem DPut.k{H:Hp}{a:Up}{b:-(aD×V)}{k:aD}{v:V}(e:H a=B (.dK b))(c:b.length<sizeLine):DPut H a (kV k) v λZ=>upd H a (.dK (cR b k v)):=.inl #[b,k,e,rfl,c,rfl]
theorem DPut.t{H:Hp}{a b:Up}{m ep:Nat}{c:-(-(aD ⊕ -aD)×V)}{k:-(aD ⊕ -aD)}{v:V}(e:H a=B (.dT m ep c))(f:TkAt H m k b)(d:c.length<sizeLine) :
  DPut H a (.ref b) v λe=>upd H a (.dT m e (cR c k v)):=.inr #[m,ep,c,k,b,e,rfl,f,d,rfl]
section
variable {X:Cx} {pins:-(Up×Obj)} {Y:St} {H:Hp} {s:Uq} {a:Up} {y v:V} {u r:Um} {o:@&V} {A:Uy} {E:Um->Uq->Prop}
def Inv.big(I:Inv X pins Y H s):sysModules<s⁻¹:=by
 let h:UB<s⁻¹:=(I.mod.glob.keeps I.bk).lt;show Sw ⋯ h
def wS{Q:Um->Uq->Prop}(K:A.units+9<cLine)(I:Inv X pins Y H s)(g:DGet H a y (B v))(t:RelV y u)(h:∀f s',Inv X pins Y H s'->RelV v f->Q f s') :
  Us (Ut X.prog X.w) A (getItem (.ref a) u) Q E s:=by
 rcases g with⟨n,k,e,i,l⟩|⟨m,N,n,k,b,e,i,F,l⟩
 .subst i;let⟨z,x,C,d,q⟩:=pF I.hok e;let⟨f,r,c⟩:=RelO.some_of (v:=v) (o:=valueAt C k) (by rw[l];show d.val k);show wpAny_getItem_of (k8 t) q.mapOf r (h f _ (I.tok _) c)
 .subst i;cases(show u=Value.ref b from t);let⟨z,x,M,d,q⟩:=pG I.hok e;let⟨f,r,c⟩:=RelO.some_of (v:=v) (o:=(atKey M k).map (·.2)) (by rw[l];show d.val k);let⟨p,D,j⟩:=Tg.mp r;show wpAny_getItem_heap (fY K) (eN I.hok F) q D ?_;rw[j];show h f _ (I.tok _) c
def NJ{Q:Um->Uq->Prop}(r:A.units+9<cLine)(I:Inv X pins Y H s)(g:DGet H a y o)(n:RelV y u)(h:∀s',Inv X pins Y H s'->Q (.bool o.isSome) s') :
  Us (Ut X.prog X.w) A (compareOp .In u (.ref a)) Q E s:=by
 rcases g with⟨f,k,e,d,l⟩|⟨m,v,f,k,b,e,d,p,l⟩
 .subst d;let⟨z,j,t,c,i⟩:=pF I.hok e;show wpAny_in_of (k8 n) j i.mapOf ?_;rw[<- (c.val k).isSome_eq,<- l];show h _ (I.tok _)
 .subst d;cases(show u=Value.ref b from n);let⟨z,j,x,c,i⟩:=pG I.hok e;show wpAny_in_heap (fY r) (eN I.hok p) j i ?_;let q:=(c.val k).isSome_eq;rw[Sh] at q;rw[<- q,<- l];show h _ (I.tok _)
def Ce{Q:Um->Uq->Prop}(r:A.units+9<cLine)(I:Inv X pins Y H s)(g:DGet H a y o)(n:RelV y u)(h:∀s',Inv X pins Y H s'->Q (.bool (!o.isSome)) s') :
  Us (Ut X.prog X.w) A (compareOp .NotIn u (.ref a)) Q E s:=by
 rcases g with⟨f,k,e,d,l⟩|⟨m,v,f,k,b,e,d,p,l⟩
 .subst d;let⟨z,j,t,c,i⟩:=pF I.hok e;show wpAny_notIn_of (k8 n) j i.mapOf ?_;rw[<- (c.val k).isSome_eq,<- l];show h _ (I.tok _)
 .subst d;cases(show u=Value.ref b from n);let⟨z,j,x,c,i⟩:=pG I.hok e;show wpAny_notIn_heap (fY r) (eN I.hok p) j i ?_;let q:=(c.val k).isSome_eq;rw[Sh] at q;rw[<- q,<- l];show h _ (I.tok _)
theorem kq{h':Uz}{t':Nat}(I:Inv X pins Y H s)(g:JQ (H a))(d:Heap.SameBut a s.heap h')(f:Σq,h'.get? a=B q)(c:ObjOk X.prog X.w (upd H a ob) h' a ob) :
  Inv X pins Y (upd H a ob) { s with heap:=h',toks:=t' }:=
 I.write (x:=a) (e:=a) g (.inl rfl) (λb q h z=>(d.2 b h).trans z) f c
theorem yC{h':Uz}{b:-(aD×V)}(z:b.length<=sizeLine)(hd:(a==sysModules)=Uk)(c:KV b vs)(d:h'.DictOf (aN P w) a vs) :
  ObjOk P w H' h' a (.dK b):=#[z,hd,vs,c,d]
def wU{F:Nat->Hp}{Q:Unit->Uq->Prop}(V:A.units+9<cLine)(I:Inv X pins Y H s)(g:DPut H a y v F)(D:RelV y u)(P:RelV v r)(h:∀e s',Inv X pins Y (F e) s'->Q () s') :
  Us (Ut X.prog X.w) A (setItem (.ref a) u r) Q E s:=by
 rcases g with⟨d,k,e,p,l,t⟩|⟨m,O,d,k,b,e,p,M,l,t⟩
 .subst p t;let⟨z,C,S,f,n⟩:=Ey I.hok e;let o:S.length<=sizeLine:=by rw[<- f.length];show z
  let x:(cR d k v).length<=sizeLine:=by have:=dJ d k v;lia
  show wpAny_setItem_pairs (hsz:=o) (k8 D) n λK i j=>h 0 _ ?_;let he:Σq,K.get? a=B q:=let ⟨q,_,_,hq,_⟩:=i;#[q,hq];show kq I (by rw[e];show True.intro) j he (yC x C (f.put k P) i)
 .subst p t;cases(show u=Value.ref b from D);let⟨z,C,Z,f,n⟩:=uw I.hok e;let o:Z.length<=sizeLine:=by rw[<- Paired.length f];show z
  let x:(cR d k v).length<=sizeLine:=by have:=dJ d k v;lia
  show wpAny_setItem_heap (hsz:=o) (fY V) (eN I.hok M) n λK i j=>?_;let⟨q,R,O,hq,W,U,h4,z_,T⟩:=i;show h O _ ?_;show kq I (by rw[e];show True.intro) j #[q,hq] #[x,C,_,(f.put k M P).keeps λc ys N=>?_,q,R,hq,W,U,h4,T]
  rw[ac (Er N e (λz=>nomatch z))]
  show N
end
def Kp(i:Uo):Prop:=∀ov O,subscripted i Uk ov O=operate [ov,O] (getItem ov O)
def Cf{T id:String}(l:typeLookup (.type T) "__getitem__" = pure (B (.builtin id)))(j:Kp slice)(h:Us (Ut prog w) A (eval value env) (λo d=>Us (Ut prog w) A (eval slice env) (λi b=>b.TypeIs o T/\Us (Ut prog w) A (getItem o i) Q E b) E d) E s) :
  Us (Ut prog w) A (eval (.Subscript value slice pos) env) Q E s:=by
 show Subscript_ (wpAny_mono h (λo d g=>wpAny_mono g (λi b c=>?_) λZ Z x=>x) λZ Z x=>x);let⟨e,c⟩:=c;delta subscriptTail;show Ul ?_;rw[getitemInPython_of_ne e.not_modules];show Ul (wpAny_specialOf e l ?_)
 let a:Us (Ut prog w) A (subscripted slice Uk o i) (λr f=>Us (Ut prog w) A (letTemporaryGo value o r >>= λZ=>pure r) Q E f) E b:=by
  rw[j o i];show wpAny_operating (wpAny_mono c (λr f k=>Ul (wpAny_letTemporaryGo (Ur k))) λZ Z x=>x)
 first
  |show Ur (Ul a)
  |show Ul (Ur (Ul a))
  |show Ul a
def pH{s:Uq}(I:Inv X pins Y H s)(g:DGet H a y o):s.TypeIs (.ref a) "dict":=by
 rcases g with⟨c,k,e,_,_⟩|⟨m,h,c,k,b,e,_,_,_⟩
 .let⟨z_,y_,f,x_,d⟩:=pF I.hok e;show d.typeIs
 .let⟨z_,y_,i,x_,d⟩:=pG I.hok e;show d.typeIs
def Kq(td ty:TE):TE:=λY H Q=>td Y H λx H1=>ty Y H1 λy H2=>Σa v,x=.ref a/\DGet H2 a y (B v)/\Q v H2
def Kr(td ty tv:TE):TS:=λD Y H=>tv Y H λv H1=>td Y H1 λx H2=>ty Y H2 λy O=>Σa F,x=.ref a/\DPut O a y v F/\∀e,D.nx Y (F e)
section
variable {X:Cx} {o i e value:Uo} {pos pos' tpos:Pos} {td ty tv:TE}
def uA(p:X.A.units+9<cLine)(l:PE X o td)(hi:PE X i ty)(e:Kp i):PE X (.Subscript o i pos) (Kq td ty):=by
 intro b s Y H Q I h;show Cf PySem.F.slot_dict_getitem.lookup e (a8 (l b s Y H _ I h) λu s1 ⟨x,w,f,k,r⟩=>a8 (hi b s1 Y w _ f r) λC s2 ⟨y,n,d,t,a,v,j,g,m⟩=>?_);subst j;obtain rfl:u=Value.ref a:=k;rwa[pH d g,wS p d g t λz s3 q c=>#[v,n,q,c,m]]
def Cg(t:X.A.units+9<cLine)(m:PE X o td)(hi:PE X i ty)(f:PE X value tv)(d:swapsWith value (B (.Subscript o i pos')) pos.line X.env=pure Uk) :
  PS X (.Assign [.Subscript o i pos'] value pos) (Kr td ty tv):=by
 intro b s Y H D I h;show wpAny_Assign_Subscript (a8 (f b s Y H _ I h) λr s1 ⟨v,M,j,E,w⟩=>a8 (m b s1 Y M _ j w) λu s2 ⟨x,q,K,l,n⟩=>a8 (hi b s2 Y q _ K n) λN s3 ⟨y,O,C,z,a,F,k,g,p⟩=>?_) d;subst k;obtain rfl:u=Value.ref a:=l;show wU t C g z E λe s4 c=>#[Y,F e,c,p e]
end
theorem yD(h:Uz)(a:sysModules<h.objs.size):ObjOk P w H (h.push { cls:=.type "dict",data:=.dict ([].toArray) }) h.objs.size (.dK []):=
 #[QM _,beq_eq_false_iff_ne.mpr (Ne.symm (Qu a)),[],.nil,Heap.DictOf.new h]
theorem yE(h:Uz)(a:sysModules<h.objs.size):ObjOk P w H (h.push { cls:=.type "dict",data:=.dict ([].toArray) }) h.objs.size (.dT m 0 []):=
 #[QM _,beq_eq_false_iff_ne.mpr (Ne.symm (Qu a)),[],.nil,_,([].toArray),Qm _ rfl,#[rfl,rfl,rfl],rfl,rfl,Ti]
def GB:TE:=λZ H Q=>∀p,H p=L->Q (.ref p) (upd H p (.dK []))
def GC(m:Nat):TE:=λZ H Q=>∀p,H p=L->Q (.ref p) (upd H p (.dT m 0 []))
section
variable {X:Cx} {pos:Pos}
theorem yF:PE X (.Dict [] [] pos) GB:=λb s Y H Q I h=>
 wpAny_Dict_empty #[.ref s⁻¹,_,I.laid (a:=s⁻¹) (o:=.dK []) (t':=s.toks) (λZ Z q=>Qg _ q) (Qe _) (yD s.heap I.big),rfl,h _ (I.hok.fresh (Qe _))]
theorem yG:PE X (.Dict [] [] pos) (GC m):=λb s Y H Q I h=>
 wpAny_Dict_empty #[.ref s⁻¹,_,I.laid (a:=s⁻¹) (o:=.dT m 0 []) (t':=s.toks) (λZ Z q=>Qg _ q) (Qe _) (yE s.heap I.big),rfl,h _ (I.hok.fresh (Qe _))]
end
structure M1(X:Cx)(o:Expr)(m:Str)(apos:Pos)(e:Expr)(cpos:Pos):Prop where
 base:attributeBase o m X.env (eval o X.env)=eval o X.env
 few:((backTo cpos (Uv [e] X.env)).all (λx=>!x.1)&&(backToKw cpos (keywordEach [] X.env)).all (λx=>x.1.isSome)
  && decide (([e]:-Uo).length+([]:-Keyword).length+(if([]:-Keyword).isEmpty then 0 else 1)<30))=Uj
 line:(apos.endLine==cpos.line)=Uj
 trees:backTo cpos (Uv [e] X.env)=[(Uk,eval e X.env)]
structure M2(X:Cx)(o:Expr)(m:Str)(apos:Pos)(e f:Expr)(cpos:Pos):Prop where
 base:attributeBase o m X.env (eval o X.env)=eval o X.env
 few:((backTo cpos (Uv [e,f] X.env)).all (λx=>!x.1)&&(backToKw cpos (keywordEach [] X.env)).all (λx=>x.1.isSome)
  && decide (([e,f]:-Uo).length+([]:-Keyword).length+(if([]:-Keyword).isEmpty then 0 else 1)<30))=Uj
 line:(apos.endLine==cpos.line)=Uj
 trees:backTo cpos (Uv [e,f] X.env)=[(Uk,eval e X.env),(Uk,eval f X.env)]
section
variable {prog:Uu} {w:Ux} {A:Uy} {E:Um->Uq->Prop} {s:Uq} {d it:Up} {o:Obj} {es:Array DictEntry} {ep i:Nat}
def Ks{Q:Um->Uq->Prop}(hd:(d==sysModules)=Uk)(b:s.heap.get? d=B o)(e:o.cls=.type "dict")(a:o.data=.dict es ep)
  (hQ:Q (.ref s⁻¹) { s with heap:=s.heap.push { cls:=.type "dict_keyiterator",data:=.fields [.ref d,.int 0 0,.int es.size 0,.int ep 0].toArray } }):Us (Ut prog w) A (pyIter (.ref d)) Q E s:=by
 let c:s.TypeIs (.ref d) "dict":=#[o,b,e];show wpAny_pyIter_slot c PySem.F.slot_dict_iter (UG PySem.F.slot_dict_iter c PySem.F.entry_dict_iter ?_ (PySem.F.args_dict_iter_1 _));unfold Builtin.«dict.__iter__» Builtin.Dict.dictSlotNone;show Ul (Ul (wpAny_notOrdered_dict c ?_));change Us _ _ (pure (Value.ref d)) _ _ s;show Ur ?_;change Us _ _ (Builtin.Dict.showsAll d >>= _) _ _ s;delta Builtin.Dict.showsAll;rw[if_neg (by rw[hd];show Qx)];show Ul (Ur (Ul (wpAny_dictEntries b a (Ul (wpAny_dictEpoch b a ?_)))));show Ul (UA (Ur #[_,rfl,"dict_keyiterator",_,#[_,Qm _ rfl,rfl],PySem.F.slot_dict_keyiterator_next.lookup,by simpa[UN] using hQ]))
def Ez{Q:@&Um->Uq->Prop}(u:A.handled=L)(hit:s.heap.IsKeyIter it d i es.size ep)(j:s.heap.get? d=B o)(k:o.data=.dict es ep)
  (yes:∀e g,es[i]?=B e->g.IsKeyIter it d (i+1) es.size ep->Heap.SameBut it s.heap g->Q (B e.key) { s with heap:=g })
  (no:∀g,es[i]?=L->Heap.ExtBut it s.heap g->Q L { s with heap:=g }):Us (Ut prog w) A (pyNext (.ref it)) Q E s:=by
 let c:=hit.typeIs;rcases hit with⟨v,n,t,l⟩;let p:=PySem.F.slot_dict_keyiterator_next;let h:Builtin.Dict_items.ownsTuple "dict_keyiterator" = Uk:=⋯
 delta pyNext;show Ul (wpAny_attempt (wpAny_callSpecial?_slot (name:=Str.ofString "__next__") c p (UG p c PySem.F.entry_dict_keyiterator_next ?_ (PySem.F.args_dict_keyiterator_next_1 _))));show Ul (Ur (Ul (Ul ?_)))
 first|show Ul (wpAny_typeNameOfWhole_keyiter c (Ur ?_))|show Ul (wpAny_typeNameOf_keyiter c (Ur ?_))
 show Ul (wpAny_fieldsOf n l ?_);rw[h,if_neg Qx]
 change Us _ _ (if(Value.ref d==Value.none)=Uj then _ else _) _ _ s
 rw[if_neg (show ¬((Value.ref d==Value.none)=Uj) from Qx)];show Ul (Ur (Ul (wpAny_dictEntries j k ?_)));rw[if_neg ∎];show Ul (Ur (Ul (wpAny_dictEpoch j k ?_)));rw[if_neg ∎];show Ur ?_;let r:¬((i:Int)<0):=∅
 cases e:es[i]? with
 |some q=>
  cbv;rw[if_neg r,QV,e];show Ul ?_
  first|show Ul (wpAny_typeNameOfWhole_keyiter c (Ur ?_))|show Ul (wpAny_typeNameOf_keyiter c (Ur ?_))
  show Ul (wpAny_isOneOf_keyiter c ?_);change Us _ _ (setField (.ref it) 1 (UN ((i:Int)+1)) >>= _) _ _ s;show Ul (wpAny_setField n l ∎ ?_)
  let f:(s.heap.update it (Obj.mapFields (·.setIfInBounds 1 (UN ((i:Int)+1))))).IsKeyIter it d (i+1) es.size ep:=
   #[_,RW _ n (Obj.isFreed_of_fields (Obj.data_mapFields l _)),(Obj.cls_mapFields ..).trans t,by rw[Obj.data_mapFields l];simp[UN]]
  show Ul (UF (Ul (wpAny_isOneOf_keyiter (s:={ s with heap:=s.heap.update it (Obj.mapFields (·.setIfInBounds 1 (UN ((i:Int)+1)))) }) f.typeIs ?_)));change Us _ _ (pure q.key) _ _ _;show Ur (Ur #[_,rfl,Ur (yes q _ e f (Heap.SameBut.update ..))])
 |none=>
  cbv;rw[if_neg r,QV,e];show Ul ?_
  first|show Ul (wpAny_typeNameOfWhole_keyiter c (Ur ?_))|show Ul (wpAny_typeNameOf_keyiter c (Ur ?_))
  change Us _ _ (setField (.ref it) 0 .none >>= _) _ _ s;show Ul (wpAny_setField n l ∎ (Ul (m:=newExc (.type "StopIteration") []) ?_));unfold newExc newTuple
  show Ul (UA (Ul (m:=firstArgMember _ _) (wpAny_of_eq (a:=Value.none) (by first|rfl|(dsimp[firstArgMember];rfl)) (UA ?_ (by size_fits)))) (by size_fits))
  delta raiseNew;show Ul (wpAny_handled ?_);rw[show A.in1.handled=L from u];show Ul (Ur (wpAny_throw ?_));show Ul (wpAny_isInstance (T:="StopIteration") (b:=Uj) #[_,Qm _ rfl,rfl] isSubtype_stop ?_);show Ur (no _ e (((Heap.SameBut.update ..).extBut.push _).push _))
end
theorem Paired.get{α β:Type}{F:α->β->Prop}:∀{l:List α} {r:List β} {i:Nat} {y:β},Paired F l r->r[i]?=B y->Σx,l[i]?=B x/\F x y
 |_,_,i,_,.nil,h=>by simp at h
 |_,_,0,_,.cons q t,h=>by simp at h;subst h;rwa[_,rfl,q]
 |_,_,i+1,_,.cons q t,h=>by simpa using Paired.get t ↥h
meta def gg(O:-(Str×Up)):-(Str×UJ)->-(Str×Up)->-(Str×Up)
 |[],acc=>acc
 |(n,k)::r,acc=>gg O r (if k=.free then(match O.lookup n with|some c=>(n,c)::acc|none=>acc) else acc)
theorem dY{a:-(Str×Up)}:∀{f:-(Str×UJ)} {b:-(Str×Up)},(∀x c,b.lookup x=B c->a.lookup x=B c)->
  ∀x c,(gg a f b).lookup x=B c->a.lookup x=B c
 |[],_,h=>h
 |(n,k)::r,b,h=>by
  delta gg;show dY λx c=>?_;split
  .cases e:a.lookup n with
   |none=>show h x c
   |some d=>
    cbv;intro q;rw[QJ] at q
    cases g:x==n with
    |true=>
     rw[g] at q;have:x=n:=by simpa using g
     subst this;ext q;show e
    |false=>
     rw[g] at q;show h x c q
  .show h x c
theorem mU:∀{b:-(Str×UJ)} {a:-(Str×Up)} {x:Str},(Σc,a.lookup x=B c)->Σc,(gg cells b a).lookup x=B c
 |[],_,_,h=>h
 |(n,k)::r,a,x,h=>by
  delta gg;show mU ?_;split
  .cases e:cells.lookup n with
   |none=>show h
   |some d=>
    cbv;rw[QJ]
    cases x==n with
    |true=>rwa[d,rfl]
    |false=>show h
  .show h
theorem la{a:-(Str×Up)}:∀{b:-(Str×UJ)} {d:-(Str×Up)} {x:Str},(x,NameKind.free)∈b->(Σc,a.lookup x=B c)->Σc,(gg a b d).lookup x=B c
 |(n,k)::r,d,x,h,f=>by
  delta gg;obtain e|h:=Qf.mp h
  .ext e;let⟨c,f⟩:=f;show mU #[c,?_];rw[if_pos rfl,f];simp
  .show la h f
def gr{scope:UC}{env:Env}(h:∀y∈scope.names,y.2=.free->Σc,env.cells.lookup y.1=B c):closureFor scope env=pure (gg env.cells scope.names []):=by
 let f:∀(b:-(Str×UJ)) (d:-(Str×Up)),(∀y∈b,y.2=.free->Σc,env.cells.lookup y.1=B c)->
   (forIn b d λ(x:Str×UJ) (r:-(Str×Up))=>(match x with|(name,kind)=>if(kind==.free)=Uj then do let a <- cellOf env name;pure (ForInStep.yield ((name,a)::r)) else pure (ForInStep.yield r):Sem (ForInStep (-(Str×Up)))))=pure (gg env.cells b d):=by
  intro b
  induction b with
  |nil=>intro d _;rfl
  |cons y r o=>
   intro d j;let⟨n,k⟩:=y;rw[List.forIn_cons];cbv;by_cases hk:k=.free
   .let⟨c,l⟩:=j (n,k) Qr hk;subst hk;let e:cellOf env n=pure c:=by delta cellOf;rw[l]
    rw[e];dsimp[beq_self_eq_true,if_true,pure_bind];rw[o _ λy i=>j y (Qh _ i)]
    conv=>rhs;unfold gg
    rw[if_pos rfl];let g:env.cells.lookup n=B c:=l;rw[g]
   .let e:(k==NameKind.free)=Uk:=by simpa using hk
    rw[e];dsimp[Q2,if_false,pure_bind];rw[o _ λy i=>j y (Qh _ i)]
    conv=>rhs;unfold gg
    rw[if_neg hk]
 delta closureFor;show(congrArg (λm=>m >>= λr=>pure r) (f scope.names [] h)).trans ∎
theorem cK:∀(b:-(Str×UJ)) (n:Nat) (a:-(Str×Up)),UE n b a=UE n b []++a
 |[],n,a=>rfl
 |(x,k)::r,n,a=>by
  delta UE;split
  .rw[cK r (n+1) ((x,n)::a),cK r (n+1) [(x,n)],Q9];rfl
  .show cK r n a
theorem yH{x:Str}{c:Up}:∀{a:-(Str×UJ)} {n:Nat} {d:-(Str×Up)},(UE n a d).lookup x=B c->((x,NameKind.cell)∈a/\n<=c)\/d.lookup x=B c
 |[],_,_,h=>.inr h
 |(y,k)::r,n,d,h=>by
  delta UE at h
  .ext1 hk;let hk:k=.cell:=by simpa using hk
   subst hk;rcases yH h with⟨b,e⟩|b
   .show .inl #[Qh _ b,SW e]
   .rw[QJ] at b
    cases f:x==y with
    |true=>
     rw[f] at b;have:x=y:=by simpa using f
     subst this;ext b;show .inl #[Qr,Qe _]
    |false=>rw[f] at b;show .inr b
  .rcases yH h with⟨b,e⟩|b
   .show .inl #[Qh _ b,e]
   .show .inr b
theorem sA:∀{a:-(Str×UJ)} {n:Nat} {b:-(Str×Up)},(x,NameKind.cell)∉a->(UE n a b).lookup x=b.lookup x
 |[],_,_,_=>rfl
 |(y,k)::r,n,b,h=>by
  delta UE;let c:(x,NameKind.cell)∉r:=λz=>h (Qh _ z);split
  .ext1 hk;let hk:k=.cell:=by simpa using hk
   subst hk;rw[sA c,QJ]
   have:(x==y)=Uk:=by
    have:x≠y:=λz=>h (by rw[z];show Qr);simpa using this
   rw[this]
  .show sA c
theorem nP{x:Str}:∀{a:-(Str×UJ)} {n:Nat} {b:-(Str×Up)},((x,NameKind.cell)∈a\/Σc,b.lookup x=B c)->Σc,(UE n a b).lookup x=B c
 |[],_,_,h=>by
  obtain h|h:=h
  .simp at h
  .show h
 |(y,k)::r,n,b,h=>by
  delta UE;split
  .ext1 hk;let hk:k=.cell:=by simpa using hk
   subst hk;show nP ?_;by_cases d:x=y
   .subst d;show .inr #[n,by rw[QJ];simp]
   .let e:(x==y)=Uk:=by simpa using d
    obtain h|h:=h
    .obtain z|z:=Qf.mp h
     .show absurd (by ext z;rfl) d
     .show .inl z
    .show .inr (by rw[QJ,e];show h)
  .ext1 hk;show nP ?_;obtain h|h:=h
   .obtain z|z:=Qf.mp h
    .show absurd (by ext z;rfl) hk
    .show .inl z
   .show .inr h
theorem sB{x:Str}{m:Nat}:∀{a:-(Str×UJ)} {n:Nat} {b:-(Str×Up)},((x,NameKind.cell)∈a\/∀c,b.lookup x=B c->m<=c)->m<=n->∀c,(UE n a b).lookup x=B c->m<=c
 |[],_,_,h,_,c,e=>by
  obtain h|h:=h
  .simp at h
  .show h c e
 |(y,k)::r,n,b,h,hm,c,e=>by
  delta UE at e
  .ext1 hk;let hk:k=.cell:=by simpa using hk
   subst hk;show sB ?_ (RQ hm) c e;by_cases d:x=y
   .subst d;show .inr λc e=>?_;rw[QJ] at e;simp at e;show e▸hm
   .let e2:(x==y)=Uk:=by simpa using d
    obtain h|h:=h
    .obtain z|z:=Qf.mp h
     .show absurd (by ext z;rfl) d
     .show .inl z
    .show .inr (by intro c e;rw[QJ,e2] at e;show h c e)
  .ext1 hk;show sB ?_ hm c e;obtain h|h:=h
   .obtain z|z:=Qf.mp h
    .show absurd (by ext z;rfl) hk
    .show .inl z
   .show .inr h
theorem sC:∀{b:-(Str×UJ)} {n:Nat} {a:-(Str×Up)},(∀x c,a.lookup x=B c->c<n)->(∀x y c,a.lookup x=B c->a.lookup y=B c->x=y)->∀x y c,(UE n b a).lookup x=B c->(UE n b a).lookup y=B c->x=y
 |[],_,_,_,h=>h
 |(z,k)::r,n,a,hb,h=>by
  delta UE;split
  .show sC (λx c e=>?_) λx y c e1 e2=>?_
   .rw[QJ] at e
    cases d:x==z with
    |true=>rw[d] at e;ext e;show Rr _
    |false=>rw[d] at e;show RR (hb x c e)
   .rw[QJ] at e1 e2
    cases d:x==z with
    |true=>
     rw[d] at e1;ext e1
     cases f:y==z with
     |true=>rw[(by simpa using d:x=z),(by simpa using f:y=z)]
     |false=>rw[f] at e2;show absurd (hb y _ e2) (Re _)
    |false=>
     rw[d] at e1
     cases f:y==z with
     |true=>rw[f] at e2;ext e2;show absurd (hb x _ e1) (Re _)
     |false=>rw[f] at e2;show h x y c e1 e2
  .show sC hb h
def GD(R:-(Str×Up))(O:-(Str×UJ))(C:Up):-(Str×Up):=UE (C+1) O (gg R O [])
def yI{a:-(Str×Up)}{C:Up}{x:Str}(h:(GD a names C).lookup x=B c):C+1<=c\/a.lookup x=B c:=by
 obtain h|h:=yH h
 .show .inl h.2
 .show .inr (dY (λZ Z z=>by ext z) x c h)
def gu{s:Uq}{scope:UC}{Q:Env->Uq->Prop}(e:Q (newEnv scope s⁻¹ globals (UE (s⁻¹+1) scope.names cl) qual L .none (B outer) builtinsNs) { s with heap:=pushCells (s.heap.push { cls:=.type "dict",data:=.dict ([].toArray) }) scope.names }) :
  Us M A (newFunctionEnv scope globals cl [] qual L .none (B outer)) Q E s:=by
 dsimp[newFunctionEnv,TC,if_true];show Ul (wpAny_alloc ?_)
 show Ul (wpAny_layCells _ (λd a b=>by cases c:a==NameKind.cell<;>simp[c]) _ _ _ _ ?_)
 rw[show({ s with heap:=s.heap.push { cls:=.type "dict",data:=.dict ([].toArray) } }:Uq).heap.objs.size=s⁻¹+1 from RE ..];rw[List.forIn_nil];show Ul (Ur (Ur e))
def ai(X:Cx)(O:-Str)(scope:UC)(C:Up)(s:Uq)(H:Hp)(ex:-Up):Cx where
 prog:=X.prog
 w:=X.w
 K:=X.K
 mg:=X.mg
 base:=X.base
 A:=X.A
 N:=O
 s₀:=s
 H₀:=H
 env:=compEnvC scope (GD X.env.cells scope.names C) C X.env
 outer:=X.stack
 stack:=X.stack
 ex:=ex
 fn:=λx=>scope.names.lookup x==B .cell
 calm:=X.calm
 pn:=[]
 xe:=λZ Z=>False
theorem ce{α β:Type}[BEq α][LawfulBEq α]:∀{l:-(α×β)} {x:α} {y:β},l.lookup x=B y->(x,y)∈l
 |(a,b)::r,x,y,h=>by
  rw[QJ] at h
  cases e:x==a with
  |true=>
   rw[e] at h;have:x=a:=by simpa using e
   subst this;ext h;show Qr
  |false=>
   rw[e] at h;show Qh _ (ce h)
def lc{scope:UC}{x:Str}(h:(relabel scope env).names.lookup x=B .cell\/(relabel scope env).names.lookup x=B .free):(x,NameKind.cell)∈scope.names\/(x,NameKind.free)∈scope.names:=by
 let a:∀k,(k=NameKind.cell\/k=NameKind.free)->(x,k)∈(relabel scope env).names->(x,NameKind.cell)∈scope.names\/(x,NameKind.free)∈scope.names:=λk hk c=>by
  obtain⟨⟨n,d⟩,b,e⟩:=Qv.mp c;cbv at e;ext e e
  .ext1 q
   have:d=NameKind.free:=by
    dsimp[Qd,beq_iff_eq] at q;show q.1.1
   subst this;ext e;show .inr b
  .ext e;obtain rfl|rfl:=hk
   .show .inl b
   .show .inr b
 obtain h|h:=h
 .show a _ (.inl rfl) (ce h)
 .show a _ (.inr rfl) (ce h)
section
variable {X:Cx} {pins:-(Up×Obj)} {Y:St} {H:Hp} {s:Uq}
theorem yJ(I:Inv X pins Y H s){k:-Up}{scope:UC}(l:∀b∈k,i5 X pins H b)(i:∀b∈k,b<s⁻¹)(f:scope.kind=.function)(j:s⁻¹<=C)(a:∀y∈scope.names,y.2=.free->X.env.kindOf y.1=B .cell\/X.env.kindOf y.1=B .free):(ai X N' scope C s H k).Ok where
 mod:=I.ok.mod
 kind:=f
 glob:=I.ok.glob
 blt:=I.ok.blt
 above:=j
 inj:=sC (λx c h=>by
   let⟨v,o,g,z_⟩:=I.cell x c (dY (λZ Z z=>by ext z) x c h);show RR (Qn (Qj g) j)) λx y c p n=>I.ok.inj x y c (dY (λZ Z z=>by ext z) x c p) (dY (λZ Z z=>by ext z) y c n)
 has:=λx q=>by
  obtain m|m:=lc q
  .show nP (.inl m)
  .show nP (.inr (la m (I.ok.has x (a _ m rfl))))
 cab:=λx c h e=>by
  let h:scope.names.lookup x=B .cell:=by simpa[ai] using h
  show QG j (SW (sB (.inl (ce h)) (Qe _) c e))
 hd:=I.ok.hd
 frames:=I.ok.frames
 stk:=.inl rfl
 exf:=λb d=>#[Qu (Qn (i b d) j),λx c h=>by
  obtain h|h:=yI h
  .show Rh (Qn (RR (Qn (i b d) j)) h)
  .show(l b d).2.2.2.2.1 x c h]
 bs:=I.bs
 bsz:=QG I.ok.bsz I.sz
 noex:=λb o e d=>by
  let⟨z_,y_,x_,h,w_⟩:=l b d;obtain h|h:=h
  .show I.ok.noex b o e h
  .show absurd (Qn (Qj e) (QG I.ok.bsz h)) (Re _)
 exfs:=λb d r=>by
  let⟨z_,p,n,y_⟩:=l b d;obtain e|e:=Qf.mp (I.stkSub b r)
  .show p e
  .show n e
 funs:=I.stack
 frf:=I.stkFree
meta def cU(Y:St)(cap:-(@&Nat)):St:=cap.map λo=>o.bind λi=>(Y[i]?).join
structure fC(X:Cx)(N':-Str)(scope:Scope)(cap:-(@&Nat)):Prop where
 kind:scope.kind=.function
 cell:∀y∈scope.names,y.2=.cell->scope.names.lookup y.1=B .cell
 names:∀y∈scope.names,y.2=.local->scope.names.lookup y.1=B .local
 free:∀y∈scope.names,y.2=.free->X.env.kindOf y.1=B .cell\/X.env.kindOf y.1=B .free
 len:cap.length=N'.length
 cap:∀(j i:Nat) (x:Str),N'[j]?=B x->cap[j]?=B (B i)->X.N[i]?=B x/\scope.names.lookup x=B .free/\(X.env.kindOf x=B .cell\/X.env.kindOf x=B .free)
theorem ii{scope:UC}{env:Env}{x:Str}:∀{a:-(Str×UJ)},a.lookup x=B .free->
  (a.map λ(n,k)=>if(k==NameKind.free&&env.scope.kind==.function&&env.kindOf n==B .cell) then(n,NameKind.cell) else(n,k)).lookup x=B .cell\/
  (a.map λ(n,k)=>if(k==NameKind.free&&env.scope.kind==.function&&env.kindOf n==B .cell) then(n,NameKind.cell) else(n,k)).lookup x=B .free
 |(n,k)::r,h=>by
  let d:=@ii scope env x r
  change Rf x ((if(k==NameKind.free&&env.scope.kind==.function&&env.kindOf n==B .cell)=Uj then(n,NameKind.cell) else(n,k))::_)=_\/Rf x ((if(k==NameKind.free&&env.scope.kind==.function&&env.kindOf n==B .cell)=Uj then(n,NameKind.cell) else(n,k))::_)=_
  cases b:x==n with
  |true=>
   dsimp[QJ,b] at h;ext h;by_cases c:(NameKind.free==NameKind.free&&env.scope.kind==.function&&env.kindOf n==B .cell)=Uj
   .rw[if_pos c];left;dsimp[QJ,b]
   .rw[if_neg c];right;dsimp[QJ,b]
  |false=>
   dsimp[QJ,b] at h;by_cases c:(k==NameKind.free&&env.scope.kind==.function&&env.kindOf n==B .cell)=Uj
   .rw[if_pos c];dsimp[QJ,b];show d h
   .rw[if_neg c];dsimp[QJ,b];show d h
def pI(I:Inv X pins Y H s){F:-Up}{scope:UC}{C D:Up}{A:Uz}{tk:Nat}(O:fC X N' scope cap)(hf:∀b∈F,i5 X pins H b)(P:∀b∈F,b<s⁻¹)(V:s⁻¹<=C)(M:s⁻¹<=D)(y:D<C)(U:∀x c,(UE (C+1) scope.names []).lookup x=B c->A.IsCell c L)(hn:A.Ns C m)(old:∀b o,s.heap.get? b=B o->A.get? b=B o){o:HO}(T:ObjOk X.prog X.w (upd H D o) A D o) :
  Inv (ai X N' scope C s H F) [] (cU Y cap) (upd H D o) { s with heap:=A,toks:=tk }:=by
 let r:∀x c,(gg X.env.cells scope.names []).lookup x=B c->X.env.cells.lookup x=B c:=dY (λJ J z=>by ext z)
 let t:∀x,scope.names.lookup x=B .free->(GD X.env.cells scope.names C).lookup x=(gg X.env.cells scope.names []).lookup x:=λx h=>sA λz=>by
  have:=O.cell _ z rfl;rw[h] at this;ext this
 rwa[yJ I hf P O.kind V O.free,rfl,I.bare,Un.laid old M (I.hok.fresh M),#[m,hn,λj x v h1 h2 h3=>?_],λx c e=>?_,?_,λx c e=>?_,λp hp=>absurd hp (by simp[ai]),I.hok.laid old M T,?_]
 .let a:(cU Y cap)[j]?=B (B v):=h2;unfold cU at a;rw[Qc] at a
  cases R:cap[j]? with
  |none=>rw[R] at a;ext a
  |some o=>
   rw[R] at a
   cases o with
   |none=>ext a
   |some i=>
    let E:(Y[i]?).join=B v:=by simpa using a
    let Q:Y[i]?=B (B v):=by
     cases q:Y[i]? with
     |none=>rw[q] at E;ext E
     |some z=>rw[q] at E;have:z=B v:=E;rw[this]
    let⟨c1,N,W⟩:=O.cap j i x h1 R;let⟨mo,ha,hl⟩:=I.loc;let S:JR X.env.scope x:=W.elim (λz=>.inr (.inl z)) λz=>.inr (.inr z);let⟨u,ru,l⟩:=hl i x v c1 Q S;rwa[u,ru,?_];rcases l with⟨k,_⟩|⟨_,c,Z,ic⟩
    .obtain z|z:=W
     .rw[z] at k;ext k
     .rw[z] at k;ext k
    .let⟨c',n⟩:=la (ce N) #[c,Z];let e2:=r x c' n;rw[Z] at e2;ext e2;let⟨K,d,f⟩:=ic;show .inr #[ii (scope:=scope) N,c,(t x N).trans n,K,old _ _ d,f]
 .let e:(GD X.env.cells scope.names C).lookup x=B c:=e;unfold GD at e;rw[cK,List.lookup_append] at e
  cases q:(UE (C+1) scope.names []).lookup x with
  |some c'=>
   rw[q] at e;ext e;rwa[L,U x _ q]
  |none=>
   rw[q] at e;let⟨v,K,d,f⟩:=I.cell x c (r x c e);rwa[v,K,old _ _ d,f]
 .rw[show(ai X N' scope C s H F).env.locals=C from rfl,ac (Ne.symm (Qu y))];show I.hok.fresh V
 .obtain g|g:=yI e
  .rw[ac (Rh (Sw y g))];show I.hok.fresh (QG V (SW g))
  .let⟨v,K,d,f⟩:=I.cell x c g;rw[ac (Qu (Qn (Qj d) M))];show I.freeC x c g
 .change(cU Y cap).length=N'.length;delta cU;rw[Qa,O.len]
def ij(I:Inv X pins Y H s){j:-Up}{s':Uq}(w:∀b∈j,i5 X pins H b)(J:Inv (ai X N' scope C s H j) [] Y' H' s')(d:Heap.SameBut C s'.heap h') :
  Inv X pins Y H' { s' with heap:=h' }:=by
 let x:s⁻¹<=C:=J.ok.above;let f:∀b o,s.heap.get? b=B o->b≠C:=λb o e=>Qu (Qn (Qj e) x);let a:Un (xP X.stack) j H H' s.heap s'.heap:=J.base;show I.call' (J.os) #[λb o e n h g=>?_,λb o e n h g=>?_,a.free,λb o e g=>?_,a.tups,a.frzs,a.tbls] (λb o e=>?_) J.bare λb p=>?_
 .show(d.2 b (f b o e)).trans (a.keep b o e n h g)
 .let⟨l,q⟩:=a.slot b o e n h g;rwa[l,(d.2 b (f b o e)).trans q]
 .let⟨u,q⟩:=a.there b o e g;rwa[u,(d.2 b (f b o e)).trans q]
 .let k:H' C=L:=J.free;show(J.hok b o e).stay (λc v i q=>(d.2 c ?_).trans q) (λZ q=>q) λZ Z q=>q
  rintro rfl
  obtain rfl|i:=i
  .rw[k] at e;ext e
  .rw[k] at i;ext i
 .let⟨y,h,g,r,t,m⟩:=w b p;rwa[r,h,t,m]
def nQ{R:Result->Uq->Prop}{s:Uq}(I:Nat->Uq->Prop)(b:∀n s,I n s->Us (Ut prog w) A (pyNext it) (λr e=>match r with
   |none=>R (.ok .next) e
   |some v=>Us (Ut prog w) A (letOwnedTupleGo target it v) (λZ d=>Us (Ut prog w) A (assign target env v) (λZ k=>
     Us (Ut prog w) A (forIn ifs Uj λc r=>if r=Uj then do let ok <- isTrue c env (eval c env);pure (ForInStep.yield ok) else pure (ForInStep.yield r)) (λok g=>
      if ok=Uj then Us (Ut prog w) A (eval elt env) (λx j=>
       Us (Ut prog w) A (call (.builtin "list.append") [acc,x]) (λZ o=>Σm,m<n/\I m o) (λZ Z=>False) j) (λZ Z=>False) g
      else Σm,m<n/\I m g) (λZ Z=>False) k) (λZ Z=>False) d) (λZ Z=>False) e) (λZ Z=>False) s)(n:Nat)(h:I n s) :
  codeAny (Ut prog w) A (.compLoop (.ListComp elt [#[target,iter,ifs,0]] scope pos) 0 it acc env) R s:=by
 show codeAny_loop rfl I (λn s q=>?_) n h;show wpAny_noted ?_;rw[compTurn_list];show Ul (wpAny_standAt (Ul (wpAny_mono (b n s q) (λr e i=>?_) λZ Z a=>a.elim)))
 cases r with
 |none=>show Ur i
 |some v=>
  show Ul (wpAny_mono i (λZ d f=>?_) λZ Z a=>a.elim);show Ul (wpAny_mono f (λZ k p=>Ul (wpAny_mono p (λok g l=>?_) λZ Z a=>a.elim)) λZ Z a=>a.elim)
  cases ok with
  |false=>show Ur #[rfl,l]
  |true=>
   show Ul (Ul (wpAny_mono l (λx j t=>Ul (wpAny_mono t (λZ o u=>Ur (Ur #[rfl,u])) λZ Z a=>a.elim)) λZ Z a=>a.elim))
end
section
variable {X:Cx} {pins:-(Up×Obj)} {Y:-(@&V)} {H:Hp} {s:Uq} {h':Uz}
def Inv.junk(I:Inv X pins Y H s)(f:Heap.SameBut C s.heap h')(K:X.s₀⁻¹<=C)(E:X.env.locals≠C)(u:∀x c,X.env.cells.lookup x=B c->c≠C)(D:∀p∈X.pn++pins,p.1≠C)(w:H C=L):Inv X pins Y H { s with heap:=h' }:=by
 let l:∀b o,X.s₀.heap.get? b=B o->b≠C:=λb o e=>Qu (Qn (Qj e) K);let⟨m,M,R⟩:=id I.loc;rwa[I.ok,I.os,I.bare,#[λb o e n t h=>?_,λb o e n t h=>?_,I.base.free,λb o e h=>?_,I.base.tups,I.base.frzs,I.base.tbls],#[m,M.sameBut f E,λj y O e1 e2 e3=>?_],λy c e=>?_,I.free,I.freeC,λp i=>?_,λb A e=>?_,I.len]
 .show(f.2 b (l b o e)).trans (I.base.keep b o e n t h)
 .let⟨N,e1⟩:=I.base.slot b o e n t h;rwa[N,(f.2 b (l b o e)).trans e1]
 .let⟨P,e1⟩:=I.base.there b o e h;rwa[P,(f.2 b (l b o e)).trans e1]
 .let⟨Q,F,q⟩:=R j y O e1 e2 e3;rwa[Q,F,?_];rcases q with⟨k,e⟩|⟨k,c,e,z⟩
  .show .inl #[k,e]
  .show .inr #[k,c,e,?_];let⟨o,g,d⟩:=z;rwa[o,(f.2 c (u y c e)).trans g,d]
 .let⟨v,o,g,d⟩:=I.cell y c e;rwa[v,o,(f.2 c (u y c e)).trans g,d]
 .let⟨g,r⟩:=I.pin p i;rwa[(f.2 _ (D p i)).trans g,r]
 .show(I.hok b A e).stay (λc S a q=>(f.2 c ?_).trans q) (λZ q=>q) λZ Z q=>q
  rintro rfl
  obtain rfl|a:=a
  .rw[w] at e;ext e
  .rw[w] at a;ext a
def NK(K:P9)(n:Nat)(t:ya):TG:=λv Y H Q=>Σa xs,v=.ref a/\SqL K H a xs/\xs.length=n/\t xs Y H Q
def GE(w:X.calm=Uj)(h:F5 X es t)(j:(UI es X.env).length=n)(d:(UI es X.env).findIdx? (·.1)=L):PG X (.Tuple es k pos) (NK X.K n t):=by
 intro c s Y H v u Q I r g;let⟨a,y,e1,hq,x,g⟩:=g;subst e1;ext r;let⟨f,i,q,z⟩:=I.list hq;rw[assign_Tuple];show Ul (wpAny_standAt ?_);delta unpack;rw[d,show(UI es X.env).length=f.toArray.size by rw[j,<- x,i.length,Qk]];show Ul (UF (PySem.W.kun_itemsOf (I.ok.hd w) q.isList λm p=>?_));let l:Inv X c Y H { s with heap:=m }:=I.kept λb o e=>p b o (Qu (Qj e)) e;show h c _ Y H y _ Q l ↥i g
end
end L2
open L2
namespace G
open PyProof.Rows
inductive D where
 |non|bl (b:Bool)|int (i:Int)|str (x:Str)|lst (xs:-D)|tup (xs:-D)|scr (ns:-Int)|dic (ks:-aD) (vs:-D)
def Ku(K:P9)(a:Up)(xs:-V):Prop:=
 Σ(o:Obj) (O:Array Um) (n:Nat),K.lookup a=B o/\o.cls=.type "list"/\o.dict=L/\o.data=.seq O n/\O.size<=sizeLine/\Vals xs O.toList
mutual
def Rp(K:P9)(H:Hp)(S:-Up):D->V->Prop
 |.non,v=>v=.non
 |.bl b,v=>v=.bl b
 |.int i,v=>v=.int i
 |.str x,v=>v=.str x
 |.lst ds,v=>Σa xs,v=.ref a/\a∉S/\H a=B (.lst xs)/\RpL K H S ds xs
 |.tup ds,v=>Σa xs,v=.ref a/\a∉S/\H a=B (.tup xs)/\RpL K H S ds xs
 |.scr ns,v=>Σa,v=.ref a/\((a∉S/\Rd H a (.lst (ns.map V.int)))\/Ku K a (ns.map V.int))
 |.dic ks vs,v=>Σa O,v=.ref a/\a∉S/\H a=B (.dK O)/\O.map (·.1)=ks/\RpL K H S vs (O.map (·.2))
def RpL(K:P9)(H:Hp)(S:-Up):-D->-V->Prop
 |[],xs=>xs=[]
 |d::ds,xs=>Σy ys,xs=y::ys/\Rp K H S d y/\RpL K H S ds ys
end
inductive Kd where
 |sh|fr|bo
 deriving DecidableEq
def VR(K:P9)(H0 H:Hp)(S:-Up):Kd->D->V->Prop
 |.sh,d,v=>Rp K H S d v
 |.fr,.lst ds,v=>Σa xs,v=.ref a/\H0 a=L/\H a=B (.lst xs)/\RpL K H (a::S) ds xs
 |.bo,.lst ds,v=>Σa xs,v=.ref a/\H a=B (.lst xs)/\RpL K H S ds xs
 |_,_,_=>False
def MM(K:P9)(a:Up):It:=
 #[λi H=>Σxs x,SqL K H a xs/\xs[i]?=B x,λi H x H'=>Σp v,H p=L/\H'=upd H p (.tup [.int i,v])/\x=.ref p/\∀xs,SqL K H a xs->xs[i]?=B v,λi H=>Σxs,SqL K H a xs/\xs.length<=i]
theorem wV{P:Uu}{w:Ux}{K:P9}{es:-Uo}{kk:Nat}{tp:Pos}(a e it:Up)(R:e≠it):rT P w K (.Tuple es kk tp) (MM K a) [e,it] e (λi h=>(Σold,IsEnum h e it ((i:Nat):Int) old)/\h.IsListIter it a i) where
 mem:=∎
 obj:=λi h y b g=>by
  obtain⟨⟨old,N⟩,o,r,h3,h4⟩:=y;obtain rfl|g:=Qf.mp g
  .show#[_,N,λv z=>by
    let z':Data.fields _=Data.cell v:=z;cases z']
  .have:b=it:=by simpa using g
   subst this;rwa[o,r,λv z=>by rw[h4] at z;cases z]
 keep:=λi h h' y k=>by
  obtain⟨⟨old,N⟩,r⟩:=y;rwa[#[old,k e ∎ _ N],r.at λo q=>k it ∎ o q]
 item:=by
  intro X hP hw hK hc i A s Y H E I F y hg;subst hP hw hK;obtain⟨⟨old,U⟩,hit⟩:=y;let⟨xs,x,hq,hx⟩:=hg;let⟨hn,rv,p,hz⟩:=I.list hq;let⟨u,hu,ru⟩:=rv.get hx;let⟨f0,T,f2,f3,W,f5⟩:=F e ∎;let⟨g0,g1,g2,g3,g4,g5⟩:=F it ∎;let S:=Qj U;show wpAny_pyNext_enum_item U hit p.isList ↥hu R λN ho Q ht hr V=>?_;rwa[_,rfl,wpAny_letOwnedTupleGo_enum ho λr hi hj=>?_];let l:Heap.SameBut e N r:=hj;let d:∀b o,b≠e->b≠it->s.heap.get? b=B o->r.get? b=B o:=λb o n1 n2 q=>(l.2 b n1).trans (V b o n1 n2 q);let D:=I.hok.fresh (Qe s⁻¹);let O:r.get? s⁻¹=B { cls:=.type "tuple",data:=.seq [.int i s.toks,u].toArray }:=(l.2 _ (Rh S)).trans ht
  let I1:Inv X A Y (upd H s⁻¹ (.tup [.int i,x])) { s with heap:=r,toks:=s.toks+1 }:=by
   let t:∀b o,H b=B o->b≠e/\b≠it:=λb o q=>#[(λz=>by rw[z,f0] at q;ext q),(λz=>by rw[z,g0] at q;ext q)]
   let M:HOk X.prog X.w (upd H s⁻¹ (.tup [.int i,x])) r:=λb o q=>by
    by_cases g:b=s⁻¹
    .subst g;rw[al] at q;ext q;rwa[(by change 2<=sizeLine;decide),[.int i s.toks,u],.cons #[_,rfl] (.cons ru .nil),_,O,rfl,_,rfl]
    .rw[ac g] at q;show(I.hok b o q).stay (λc v j C=>d c v ?_ ?_ C) (λc C=>by rw[ac (aw C D)];show C) λc ys C=>by rw[ac (aw C D)];show C
     .obtain rfl|j:=j
      .show(t _ _ q).1
      .show(t _ _ j).1
     .obtain rfl|j:=j
      .show(t _ _ q).2
      .show(t _ _ j).2
   show I.step (ch:=[e,it]) (λb g=>?_) (λb o L L f q L=>d b o (λz=>f (by simp[z])) (λz=>f (by simp[z])) q)
    (λb o L L f q L=>#[o.slots,d b o (λz=>f (by simp[z])) (λz=>f (by simp[z])) q]) (λb o f q n=>by rw[ac (Qu (Qj q))];show n)
    (λb o f q=>#[o,d b o (λz=>f (by simp[z])) (λz=>f (by simp[z])) q]) (λb ys q=>by rw[ac (aw q D)];show q) (λb o z q=>by rw[ac (aw q D)];show q)
    (λb ps q=>#[([].toArray),by rw[ac (aw q D),q];simp]) (λm hm=>?_) M I.bare
   .obtain rfl|g:=Qf.mp g
    .rwa[f3,T,W,f5]
    .have:b=it:=by simpa using g
     subst this;rwa[g3,g1,g4,g5]
   .let⟨o,hh,ep,hp,r'⟩:=hm;rwa[o,hh,ep,d _ o (Ne.symm T) (Ne.symm g1) hp,r']
  show#[.ref s⁻¹,_,I1,rfl,#[s⁻¹,x,D,rfl,rfl,λys hy=>by rw[I.list_inj hy hq];show hx],#[#[u,by
    have:(((i+1:Nat):Int))=(i:Int)+1:=∅
    rw[this];show hi],Q.extBut l.extBut (Ne.symm R)],λb g=>?_]
  let ha:=(F b g).1
  let Z:b<s⁻¹:=by
   obtain rfl|g:=Qf.mp g
   .show S
   .have:b=it:=by simpa using g
    subst this;let⟨o,q,z_⟩:=hit;show Qj q
  rw[ac (Qu Z)];show ha
 done:=by
  intro X hP hw hK hc i A s Y H E I F y hg;subst hP hw hK;obtain⟨⟨old,U⟩,hit⟩:=y;let⟨xs,hq,hx⟩:=hg;let⟨hn,rv,p,hz⟩:=I.list hq;let⟨f0,T,f2,f3,W,f5⟩:=F it ∎;let hl:=rv.length;show wpAny_pyNext_enum_end (I.ok.hd hc) U hit p.isList (by simp;lia) λh' eb=>#[rfl,I.turned (λb o g q=>eb b o g q) f0 T f3 W f5]
 self:=λL L L L L y h=>let ⟨_,q⟩:=y.1;wpAny_pyIter_enum q h
section
variable {X:Cx}
def Kw(K:P9)(ta:TA):TI:=λY H R=>ta Y H λvs H1=>Σa,vs=[.ref a]/\(Σxs,SqL K H1 a xs)/\R (MM K a) H1
def Ch{a:Uo}(y:Gl X "enumerate")(t:X.mg "enumerate" = L)(A:PA X [a] ta)(k:Uv [a] X.env=[(Uk,eval a X.env)]) :
  PI X (.Tuple es kk tp) (.Call (.Name "enumerate" p) [a] [] pos) (Kw X.K ta):=by
 intro c s Y H R I h;show Call_ (dR I y t boot_enumerate (PyProof.Rows.callWith_type1 (a8 (A pos c s Y H _ I h) λF s1 ⟨C,i,f,n,r⟩=>?_) k rfl));obtain⟨l,e,⟨D,hq⟩,q⟩:=r;subst e;let⟨u,rfl,o⟩:=mG n;ext o;let⟨w,M,m,E⟩:=f.list hq;show call_enumerate_list m.isList λv j hit x hk=>?_;show wpAny_pyIter_enum j ?_;let z:Inv X c Y i { s1 with heap:=v }:=f.kept hk;rwa[s1⁻¹+1,[s1⁻¹+1,s1⁻¹],_,_,i,rfl,z,wV l _ _ (Rh (Rr _)),#[#[_,j],hit],λb g=>?_,q]
 let d:s1⁻¹<=b:=by
  obtain rfl|g:=Qf.mp g
  .show RN _
  .have:b=s1⁻¹:=by simpa using g
   rw[this];show Qe _
 show f.fpOk d (f.hok.fresh d)
end
def NL(K:P9)(a b:Up):It:=
 #[λi H=>Σxs ys x y,SqL K H a xs/\SqL K H b ys/\xs[i]?=B x/\ys[i]?=B y,λi H x H'=>Σp v u,H p=L/\H'=upd H p (.tup [v,u])/\x=.ref p/\(∀xs,SqL K H a xs->xs[i]?=B v)/\∀ys,SqL K H b ys->ys[i]?=B u,
  λi H=>Σxs ys,SqL K H a xs/\SqL K H b ys/\(xs.length<=i\/ys.length<=i)]
theorem mV{h:Uz}{z TI TO g n l a b:Up}{us:Array Um}{x y:Um}{i j:Nat}(t:h.IsList l us)(hz:IsZip h z TI TO .none)(m:IsPair h TI (.ref g) (.ref n))(k:IsPair h TO x y)(h1:h.IsListIter g a i)(h2:h.IsListIter n b j):∀c∈[z,TI,TO,g,n],l≠c:=λc p e=>by
 subst e;let⟨o,q,d,z_⟩:=t;dsimp[Qf,Qw,or_false] at p;obtain rfl|rfl|rfl|rfl|rfl:=p
 .rw[hz] at q;ext q;show absurd (show Value.type "zip" = .type "list" from d) ⋯
 .rw[m] at q;ext q;show absurd (show Value.type "tuple" = .type "list" from d) ⋯
 .rw[k] at q;ext q;show absurd (show Value.type "tuple" = .type "list" from d) ⋯
 .let⟨s,r,f,z_⟩:=h1;rw[r] at q;ext q;rw[f] at d;show absurd d ⋯
 .let⟨s,r,f,z_⟩:=h2;rw[r] at q;ext q;rw[f] at d;show absurd d ⋯
def EA{h:Uz}{z TI TO f k a b:Up}{us vs:Array Um}{x y:Um}{i j:Nat}(m:[z,TI,TO,f,k].Nodup)(t:h.IsList a us)(l:h.IsList b vs)(hz:IsZip h z TI TO .none)(d:IsPair h TI (.ref f) (.ref k))(c:IsPair h TO x y)(h1:h.IsListIter f a i)(h2:h.IsListIter k b j):ZipApart z TI TO f k a b:=by
 let g:=mV t hz d c h1 h2;let e:=mV l hz d c h1 h2;dsimp[QK,Qf,Qw,or_false,not_or,Ti,and_true,not_false_iff] at m;obtain⟨⟨q,u,p,r⟩,⟨b1,b2,b3⟩,⟨o,n⟩,s⟩:=m;rwa[Ne.symm q,Ne.symm u,Ne.symm p,Ne.symm r,b1,b2,b3,o,n,s,g _ ∎,g _ ∎,g _ ∎,g _ ∎,e _ ∎,e _ ∎,e _ ∎,e _ ∎]
theorem yK{P:Uu}{w:Ux}{K:P9}{es:-Uo}{kk:Nat}{tp:Pos}(a b z TI TO N O:Up)(nd:[z,TI,TO,N,O].Nodup):rT P w K (.Tuple es kk tp) (NL K a b) [z,TI,TO,N,O] z (λi h=>IsZip h z TI TO .none/\IsPair h TI (.ref N) (.ref O)/\(Σx y,IsPair h TO x y)/\h.IsListIter N a i/\h.IsListIter O b i) where
 mem:=∎
 obj:=λi h T c g=>by
  obtain⟨h1,R,⟨x,y,h3⟩,⟨o4,h4,h5,h6⟩,o7,h7,h8,h9⟩:=T;dsimp[Qf,Qw,or_false] at g;obtain rfl|rfl|rfl|rfl|rfl:=g
  .show#[_,h1,λv z=>by
    let z':Data.fields _=Data.cell v:=z;cases z']
  .show#[_,R,λv z=>by
    let z':Data.seq _ _=Data.cell v:=z;cases z']
  .show#[_,h3,λv z=>by
    let z':Data.seq _ _=Data.cell v:=z;cases z']
  .rwa[o4,h4,λv z=>by rw[h6] at z;cases z]
  .rwa[o7,h7,λv z=>by rw[h9] at z;cases z]
 keep:=λi h h' T k=>by
  obtain⟨h1,R,⟨x,y,h3⟩,h4,h5⟩:=T;rwa[k z ∎ _ h1,k TI ∎ _ R,#[x,y,k TO ∎ _ h3],h4.at λo q=>k N ∎ o q,h5.at λo q=>k O ∎ o q]
 item:=by
  intro X hP hw hK g i U s Y H E I W T hg;subst hP hw hK;obtain⟨V,r,⟨x0,y0,M⟩,F,A⟩:=T;let⟨xs,ys,x,y,hq,S,hx,hy⟩:=hg;let⟨gd,rv,p,hv⟩:=I.list hq;let⟨hs,Z,p2,hi⟩:=I.list S;let⟨u,hu,ru⟩:=rv.get hx;let⟨u2,h0,gi⟩:=Z.get hy;let un:∀c∈[z,TI,TO,N,O],H c=L:=λc g=>(W c g).1;let D:=EA nd p.isList p2.isList V r M F A
  let hl:∀c∈[z,TI,TO,N,O],c<s⁻¹:=λc g=>by
   dsimp[Qf,Qw,or_false] at g;obtain rfl|rfl|rfl|rfl|rfl:=g
   .show Qj V
   .show Qj r
   .show Qj M
   .let⟨o,q,z_⟩:=F;show Qj q
   .let⟨o,q,z_⟩:=A;show Qj q
  show wpAny_pyNext_zip_item D V r M F A p.isList p2.isList ↥hu ↥h0 λh1 ga hr ho hn ht gj hh=>?_;rwa[_,rfl,wpAny_letOwnedTupleGo_zip ga λR gc gb=>?_];let l:Heap.SameBut z h1 R:=gb
  let f:∀c o,c∉[z,TI,TO,N,O]->s.heap.get? c=B o->R.get? c=B o:=λc o n q=>
   (l.2 c (λe=>n (by simp[e]))).trans (hh c o (λe=>n (by simp[e])) (λe=>n (by simp[e])) (λe=>n (by simp[e])) (λe=>n (by simp[e])) q)
  let fr:=I.hok.fresh (Qe s⁻¹);let hp:R.get? s⁻¹=B { cls:=.type "tuple",data:=.seq [u,u2].toArray }:=(l.2 _ (Rh (hl z ∎))).trans ht
  let I1:Inv X U Y (upd H s⁻¹ (.tup [x,y])) { s with heap:=R }:=by
   let Q:∀c o,H c=B o->c∉[z,TI,TO,N,O]:=λc o q g=>by rw[un c g] at q;ext q
   let hj:HOk X.prog X.w (upd H s⁻¹ (.tup [x,y])) R:=λc o q=>by
    by_cases hb:c=s⁻¹
    .subst hb;rw[al] at q;ext q;rwa[(by change 2<=sizeLine;decide),[u,u2],.cons ru (.cons gi .nil),_,hp,rfl,_,rfl]
    .rw[ac hb] at q;show(I.hok c o q).stay (λd v t C=>f d v ?_ C) (λd C=>by rw[ac (aw C fr)];show C) λd ys C=>by rw[ac (aw C fr)];show C
     obtain rfl|t:=t
     .show Q _ _ q
     .show Q _ _ t
   show I.step (λc g=>?_) (λc o J J j q J=>f c o j q)
    (λc o J J j q J=>#[o.slots,f c o j q]) (λc o j q n=>by rw[ac (Qu (Qj q))];show n)
    (λc o j q=>#[o,f c o j q]) (λc ys q=>by rw[ac (aw q fr)];show q) (λc o z q=>by rw[ac (aw q fr)];show q)
    (λc ps q=>#[([].toArray),by rw[ac (aw q fr),q];simp]) (λm hm=>?_) hj I.bare
   .let⟨f0,f1,f2,f3,f4,f5⟩:=W c g;rwa[f3,f1,f4,f5]
   .let⟨o,ha,ep,he,r'⟩:=hm;rwa[o,ha,ep,f _ o (λg=>(W _ g).2.1 rfl) he,r']
  rwa[.ref s⁻¹,_,I1,rfl,#[s⁻¹,x,y,fr,rfl,rfl,λzs hy=>by rw[I.list_inj hy hq];show hx,λzs V=>by rw[I.list_inj V S];show hy],#[gc,?_,#[u,u2,(l.2 TO D.TOz).trans hr],ho.extBut l.extBut D.i1z,hn.extBut l.extBut D.i2z],λc g=>?_]
  .show(l.2 TI D.TIz).trans (hh TI _ D.TIz D.TITO D.TIi1 D.TIi2 r)
  .rw[ac (Qu (hl c g))];show un c g
 done:=by
  intro X hP hw hK g i U s Y H E I W T hg;subst hP hw hK;obtain⟨V,r,⟨x0,y0,M⟩,F,A⟩:=T;let⟨xs,ys,hq,S,hx⟩:=hg;let⟨gd,rv,p,hv⟩:=I.list hq;let⟨hs,Z,p2,hi⟩:=I.list S;let D:=EA nd p.isList p2.isList V r M F A;let l1:=rv.length;let l2:=Z.length;show wpAny_pyNext_zip_end (I.ok.hd g) D V r M F A p.isList p2.isList (hx.imp (λh=>by simp;lia) λh=>by simp;lia) λh' kk=>#[rfl,?_];let un:∀c∈[z,TI,TO,N,O],H c=L:=λc g=>(W c g).1
  let f:∀c o,c∉[z,TI,TO,N,O]->s.heap.get? c=B o->h'.get? c=B o:=λc o n q=>
   kk c o (λe=>n (by simp[e])) (λe=>n (by simp[e])) (λe=>n (by simp[e])) (λe=>n (by simp[e])) q
  let Q:∀c o,H c=B o->c∉[z,TI,TO,N,O]:=λc o q g=>by rw[un c g] at q;ext q
  show I.step (λc g=>?_) (λc o J J j q J=>f c o j q)
   (λc o J J j q J=>#[o.slots,f c o j q]) (λJ J J J n=>n)
   (λc o j q=>#[o,f c o j q]) (λJ J q=>q) (λJ J J q=>q)
   (λc ps q=>#[([].toArray),by rw[q];simp]) (λm hm=>?_) (λc o q=>?_) I.bare
  .let⟨f0,f1,f2,f3,f4,f5⟩:=W c g;rwa[f3,f1,f4,f5]
  .let⟨o,ha,ep,he,r'⟩:=hm;rwa[o,ha,ep,f _ o (λg=>(W _ g).2.1 rfl) he,r']
  .show(I.hok c o q).stay (λd v t C=>f d v ?_ C) (λd C=>C) λd ys C=>C;obtain rfl|t:=t
   .show Q _ _ q
   .show Q _ _ t
 self:=λJ J J J J T h=>wpAny_pyIter_zip T.1 h
section
variable {X:Cx}
def NM(K:P9)(ta:TA):TI:=λY H R=>ta Y H λvs H1=>Σa b,vs=[.ref a,.ref b]/\(Σxs,SqL K H1 a xs)/\(Σys,SqL K H1 b ys)/\R (NL K a b) H1
def GF{a b:Uo}(Q:Gl X "zip")(D:X.mg "zip" = L)(T:PA X [a,b] ta)(x:Uv [a,b] X.env=[(Uk,eval a X.env),(Uk,eval b X.env)])(hs2:Uv [b] X.env=[(Uk,eval b X.env)]) :
  PI X (.Tuple es kk tp) (.Call (.Name "zip" p) [a,b] [] pos) (NM X.K ta):=by
 intro d s Y H R I h;show Call_ (dR I Q D boot_zip (PyProof.Rows.callWith_type1 (a8 (T pos d s Y H _ I h) λus s1 ⟨U,v,f,g,A⟩=>?_) #v[x,hs2] (by rw[hs2];rfl)));obtain⟨l,N,e,⟨W,hq⟩,⟨V,o⟩,q⟩:=A;subst e
 cases g with
 |cons z g=>cases g with
  |cons C g=>
   ext g;ext z;ext C;let⟨O,rv,y,Z⟩:=f.list hq;let⟨t,E,j,F⟩:=f.list o;show call_zip_2 y.isList j.isList λM w m r k n P hk=>?_;show wpAny_pyIter_zip w ?_;let S:Inv X d Y v { s1 with heap:=M }:=f.kept hk
   rwa[s1⁻¹+4,[s1⁻¹+4,s1⁻¹+2,s1⁻¹+3,s1⁻¹,s1⁻¹+1],_,_,v,rfl,S,yK l N _ _ _ _ _ (by simp<;>lia),#[w,m,#[_,_,r],k,n],λc u=>?_,q]
   let i:s1⁻¹<=c:=by
    dsimp[Qf,Qw,or_false] at u;obtain rfl|rfl|rfl|rfl|rfl:=u
    .show RY _ _
    .show RY _ _
    .show RY _ _
    .show Qe _
    .show RY _ _
   show f.fpOk i (f.hok.fresh i)
end
end G
namespace L2
open PyProof.Rows
section
variable {X:Cx} {pins:-(Up×Obj)} {Y:St} {H:Hp} {s:Uq}
def ja(wi:TI)(g:TG)(tt:TT)(te:TE)(cap:-(@&Nat)):TE:=λY H Q=>wi Y H λJ H1=>∀D,H1 D=L->ΣW:Nat->Nat->St->Hp->Prop,(Σm,W 0 m (cU Y cap) (upd H1 D (.lst [])))/\∀i m Y' H',W i m Y' H'->
 (J.stop i H'/\Q (.ref D) H')\/(J.go i H'/\∀x H2,J.yld i H' x H2->g x Y' H2 λR U=>tt R U λok U=>if ok=Uj then te R U λy H4=>Σys,H4 D=B (.lst ys)/\ys.length<sizeLine/\ΣO,O<m/\W (i+1) O R (upd H4 D (.lst (ys++[y]))) else ΣO,O<m/\W (i+1) O R U)
def Cj(X:Cx)(O:-Uo)(R:TT):Prop:=∀(pins:-(Up×Obj)) (s:Uq) (Y:St) (H:Hp) (Q:Bool->Hp->Prop),Inv X pins Y H s->R Y H Q->
 ⇑X (forIn O Uj λc r=>if r=Uj then do let ok <- isTrue c X.env (eval c X.env);pure (ForInStep.yield ok) else pure (ForInStep.yield r)) (TP X pins Y Q) X.xe s
theorem uB:Cj X [] (λZ H Q=>Q Uj H):=λa s Y H Q I h=>wpAny_tests_nil #[H,I,h]
theorem Ck{c:Uo}(h:PT X c t):Cj X [c] t:=λa s Y H Q I q=>wpAny_tests_one (h a s Y H Q I q)
def mW(hc:X.calm=Uj)(O:fC X N' scope cap)(hi:PI X tg iter wi)(hg:∀C s H ex,PG (ai X N' scope C s H ex) tg g)(ht:∀C s H ex,Cj (ai X N' scope C s H ex) ifs tt)(he:∀C s H ex,PE (ai X N' scope C s H ex) elt te){Q:VK}(I:Inv X pins Y H s)(h:ja wi g tt te cap Y H Q)(hs:∀x,foldedSetIterable iter X.env x=pure x)(hX:X.xe=E)(hQ:∀(C D:Up) (s1:Uq) (H1:Hp) (f:-Up) (Y':St) (H':Hp) (s':Uq),Inv X pins Y H1 s1->(∀b∈f,i5 X pins H1 b)->Inv (ai X N' scope C s1 H1 f) [] Y' H' s'->Q (.ref D) H'->
   compPost (Ut X.prog X.w) X.A E use Q' (.ref D) C (.ok .next) s') :
  ⇑X (comprehension (.ListComp elt [#[tg,iter,ifs,0]] scope pos) scope X.env cpos (newList []) Uk (eval iter X.env) use) Q' E s:=by
 let h5:closureFor scope X.env=pure (gg X.env.cells scope.names []):=gr λy hy e=>I.ok.has _ (O.free y hy e);show wpAny_comprehension_free rfl hs h5 O.kind O.names ?_;subst hX;show a8 (hi pins s Y H _ I h) λv s1 h1=>a8 h1 λh6 s2 h2=>?_;let⟨it,f,tn,J,M,e,I2,T,P,f2,hW⟩:=h2;subst e;show UA (gu ?_);cbv;generalize z:s2.heap.push { cls:=.type "list",dict:=L,data:=.seq ([]:-Um).toArray }=HH;let ha:HH.objs.size=s2⁻¹+1:=by rw[<- z,RE]
 let ho:s2⁻¹<HH.objs.size:=by rw[ha];show Rr _
 generalize F:pushCells (HH.push { cls:=.type "dict",data:=.dict ([].toArray) }) scope.names=h₁;let kp:∀b o,HH.get? b=B o->h₁.get? b=B o:=λb o e=>F▸pushCells_keeps _ _ b o (Qg _ e);let Z:h₁.Ns HH.objs.size λG=>L:=F▸(Heap.Ns.new HH (.type "dict")).keeps (pushCells_keeps _ _)
 let hv:∀x c,(UE (HH.objs.size+1) scope.names []).lookup x=B c->h₁.IsCell c L:=λx c e=>by
  let ok:=cellsFrom_ok scope.names (HH.push { cls:=.type "dict",data:=.dict ([].toArray) }) 0 [] #[λG G V=>(nomatch V),List.Pairwise.nil] (QM _)
  rw[RE] at ok;show F▸(ok.empty x c (ce e)).1
 let old:∀b o,s2.heap.get? b=B o->h₁.get? b=B o:=λb o e=>kp b o (z▸Qg _ e);let hu:h₁.get? s2⁻¹=B { cls:=.type "list",data:=.seq ([]:-Um).toArray }:=kp _ _ (z▸Qm _ rfl);let hf:∀b∈f,b<s2⁻¹:=λb a=>let ⟨o,e,_⟩:=T.obj 0 _ P b a;Qj e;let K:=I2.hok.fresh (Qe s2⁻¹);obtain⟨W,⟨m0,w0⟩,R⟩:=hW s2⁻¹ K;let J0:=pI (tk:=s2.toks) (o:=.lst []) I2 O f2 hf (by rw[ha];show RN _) (Qe _) ho hv Z old #[QM _,[],_,.nil,hu];let hd:tn 0 h₁:=T.keep 0 _ _ P λb G o e=>old b o e
 let h0:∀b∈f,(upd M s2⁻¹ (.lst [])) b=L:=λb a=>by
  rw[ac (Qu (hf b a))];show(f2 b a).1
 let j:∀{H':Hp},(∀b∈f,H' b=L)->∀b∈f,i5 (ai X N' scope HH.objs.size s2 M f) [] H' b:=λhn b a=>
  #[hn b a,(J0.ok.exf b a).1,J0.ok.exfs b a,.inl a,(J0.ok.exf b a).2,λp hp=>absurd hp (by simp[ai])]
 let t:codeAny (Ut X.prog X.w) X.A (.compLoop (.ListComp elt [⟨tg,iter,ifs,0⟩] scope pos) 0 (.ref it) (.ref s2⁻¹) (compEnvC scope (GD X.env.cells scope.names HH.objs.size) HH.objs.size X.env))
   (compPost (Ut X.prog X.w) X.A X.xe use Q' (.ref s2⁻¹) HH.objs.size) { s2 with heap:=h₁,toks:=s2.toks }:=by
  show nQ (λn s'=>Σi Y' H',Inv (ai X N' scope HH.objs.size s2 M f) [] Y' H' s'/\tn i s'.heap/\(∀b∈f,H' b=L)/\W i n Y' H') ?_ m0 #[0,_,_,J0,hd,h0,w0]
  rintro n s3 ⟨i,U,H3,I3,S,hj,w3⟩
  rcases R i n U H3 w3 with⟨hh,qn⟩|⟨go,N⟩
  .show a8 (T.done (ai X N' scope HH.objs.size s2 M f) rfl rfl rfl hc i [] s3 U H3 _ I3 (j hj) S hh) λr s4 ⟨hr,I4⟩=>?_;subst hr;show hQ _ _ s2 M f U H3 s4 I2 f2 I4 qn
  .show a8 (T.item (ai X N' scope HH.objs.size s2 M f) rfl rfl rfl hc i [] s3 U H3 _ I3 (j hj) S go) λr s4 ⟨u,hr,h4⟩=>?_;subst hr;show a8 h4 λG s5 k=>?_;let⟨x,H5,I5,r5,y5,l,hl⟩:=k;let hw:=I5.pinned (j hl) (T.obj _ _ l);show a8 (hg _ _ _ _ _ s5 U H5 x u _ hw r5 (N x H5 y5)) λG s6 k=>?_;let⟨Y6,H6,I6,q6⟩:=k;show a8 (ht _ _ _ _ _ s6 Y6 H6 _ I6 q6) λok hx k=>?_;let⟨h3,m,q⟩:=k
   cases ok with
   |false=>
    rw[if_neg Qx] at q⊢;let⟨m',V,w7⟩:=q;rwa[m',V,i+1,Y6,_,m.unpinned,T.keep _ _ _ l λb a o e=>(m.pin (b,o) (Ql _ (Ql _ (br a e)))).1,λb a=>?_,w7];let⟨o,e,d⟩:=T.obj _ _ l b a;show(m.pin (b,o) (Ql _ (Ql _ (br a e)))).2.1
   |true=>
   rw[if_pos rfl] at q⊢;show a8 (he _ _ _ _ _ hx Y6 h3 _ m q) λyv s7 k=>?_;let⟨y,H7,I7,r7,ys,hD,k,m',V,w7⟩:=k;show a8 (mR _ s7 Y6 H7 (.ref s2⁻¹) [y] (.ref s2⁻¹) [yv] (λv H'=>v=.non/\H'=upd H7 s2⁻¹ (.lst (ys++[y]))) I7 rfl (.cons r7 .nil) #[_,ys,y,rfl,rfl,hD,k,rfl,rfl]) λG s8 k=>?_;let⟨z_,H8,I8,y_,x_,e8⟩:=k;subst e8;rwa[m',V,i+1,Y6,_,I8.unpinned,T.keep _ _ _ l λb a o e=>(I8.pin (b,o) (Ql _ (Ql _ (br a e)))).1,λb a=>?_,w7];let⟨o,e,d⟩:=T.obj _ _ l b a;show(I8.pin (b,o) (Ql _ (Ql _ (br a e)))).2.1
 show codeAny_compStart_list t (T.self _ 0 _ _ _ hd t)
def pJ(j:X.calm=Uj)(O:fC X N' scope cap)(hi:PI X tg iter wi)(l:∀C s H ex,PG (ai X N' scope C s H ex) tg g)(i:∀C s H ex,Cj (ai X N' scope C s H ex) ifs tt)(n:∀C s H ex,PE (ai X N' scope C s H ex) elt te)(c:∀x,foldedSetIterable iter X.env x=pure x:=by intro _;rfl):PE X (.ListComp elt [#[tg,iter,ifs,0]] scope pos) (ja wi g tt te cap):=by
 intro b s Y H Q I h;rw[eval_ListComp];show mW j O hi l i n I h c rfl λC D s1 u r o k t e f J q=>?_;let⟨m,d,z_⟩:=J.loc;rwa[m,d,λp a=>#[.ref D,k,ij e f J a,rfl,q]]
def yL{cpos pos' pos:Pos}{i:Nat}(S:X.calm=Uj)(O:fC X N' scope cap)(hi:PI X tg iter wi)(hg:∀C s H ex,PG (ai X N' scope C s H ex) tg g)(R:∀C s H ex,Cj (ai X N' scope C s H ex) ifs tt)(he:∀C s H ex,PE (ai X N' scope C s H ex) elt te)(K:∀x,foldedSetIterable iter X.env x=pure x)(U:X.N.Nodup)(t:X.N[i]?=B x)(P:Es X.env.scope x)(T:X.fn x=Uj\/X.env.scope.names.lookup x=B .local)(w:swapsWith (.ListComp elt [#[tg,iter,ifs,0]] scope cpos) (B (.Name x pos')) pos.line X.env=pure Uj) :
  PS X (.Assign [.Name x pos'] (.ListComp elt [#[tg,iter,ifs,0]] scope cpos) pos) (BV (ja wi g tt te cap) (hV i)):=by
 intro d s Y H D I h;rw[exec_Assign_Name_used _ _ _ _ w];show Ul (wpAny_standAt (Ul ?_));show Ul (wpAny_mono (mW S O hi hg R he I h K rfl λC Z s1 H1 fp Y' A r j M J q=>?_) (λL r hq=>Ur (Ur hq)) λL L e=>e);let I2:Inv X d Y A r:=ij j M J (Heap.SameBut.refl C r.heap);let F:s1⁻¹<=C:=J.ok.above;let old:∀b o,s1.heap.get? b=B o->b≠C:=λb o e=>Qu (Qn (Qj e) F);obtain⟨m1,⟨oL,_,_,E,_⟩,_⟩:=id j.loc;let z:X.env.locals≠C:=old _ _ E
 let k:∀x c,X.env.cells.lookup x=B c->c≠C:=λx c e=>by
  let⟨v,o,g,z_⟩:=j.cell x c e;show old _ _ g
 let n:∀p∈X.pn++d,p.1≠C:=λp Q=>old _ _ (j.pin p Q).1
 let V:X.s₀⁻¹<=C:=by
  show QG ?_ F;show Rt (Rc j.ok.above (Qj E))
 let⟨m,W,z_⟩:=J.loc;show wpAny_assign_Name (i3 I2 U t P (v:=.ref Z) rfl (λs3 I3 f=>?_) T);let⟨a,f,y⟩:=f
 let l:C≠a:=by
  obtain rfl|y:=y
  .show Ne.symm z
  .show Ne.symm (k _ _ y)
 rwa[m,W.sameBut f l,λh' u=>#[_,A,I3.junk u V z k n J.free,q]]
end
end L2
namespace J
open PyProof.Rows
abbrev DK:=aD ⊕ -(aD ⊕ -aD)
inductive Hd where
 |lst|tup|dic (t:Nat) (ks:-DK)|obj (c:Str) (ns:-Str)
 deriving DecidableEq
inductive D where
 |non|bl (b:Bool)|int (i:Int)|str (x:Str)|scr (ns:-Int)|nd (h:Hd) (ds:-D)
noncomputable abbrev D.lst(ds:-D):D:=.nd .lst ds
noncomputable abbrev D.tup(ds:-D):D:=.nd .tup ds
noncomputable abbrev D.dic(t:Nat)(ks:-DK)(ds:-D):D:=.nd (.dic t ks) ds
noncomputable abbrev D.obj(c:Str)(ns:-Str)(ds:-D):D:=.nd (.obj c ns) ds
meta def Hd.mu:Hd->Bool
 |.tup=>Uk
 |_=>Uj
def Ku(K:P9)(a:Up)(xs:-V):Prop:=
 Σ(o:Obj) (O:Array Um) (n:Nat),K.lookup a=B o/\o.cls=.type "list"/\o.dict=L/\o.data=.seq O n/\O.size<=sizeLine/\Vals xs O.toList
def c7(K:P9)(o:HO):Hd->-V->Prop
 |.lst,xs=>o=.lst xs
 |.tup,xs=>o=.tup xs
 |.dic t ks,xs=>(t=0/\ΣO:-(aD×V),o=.dK O/\ks=O.map (λp=>Sum.inl p.1)/\xs=O.map (·.2))\/(Σm,t=m+1/\Σ(O:-(-(aD ⊕ -aD)×V)) (ep:Nat),o=.dT m ep O/\ks=O.map (λp=>Sum.inr p.1)/\xs=O.map (·.2))
 |.obj c ns,xs=>ΣC dx,QX K UB c=B (B (.ref C))/\(Cls K C/\∀f∈ns,NoAttr K C f)/\o=.ins C dx (ns.zip xs)/\ns.length=xs.length
abbrev Pr:=Up->Prop
mutual
def Rp(K:P9)(H:Hp)(S:Pr):D->V->Prop
 |.non,v=>v=.non
 |.bl b,v=>v=.bl b
 |.int i,v=>v=.int i
 |.str x,v=>v=.str x
 |.scr ns,v=>Σa,v=.ref a/\((¬S a/\Rd H a (.lst (ns.map V.int)))\/Ku K a (ns.map V.int))
 |.nd h ds,v=>Σa o xs,v=.ref a/\¬S a/\H a=B o/\c7 K o h xs/\RpL K H S ds xs
def RpL(K:P9)(H:Hp)(S:Pr):-D->-V->Prop
 |[],xs=>xs=[]
 |d::ds,xs=>Σy ys,xs=y::ys/\Rp K H S d y/\RpL K H S ds ys
end
section
variable {K:P9} {H H':Hp} {S S':Pr}
mutual
theorem Rp.go(k:∀b o,¬S b->H b=B o->H' b=B o/\¬S' b):∀{d:D} {v:V},Rp K H S d v->Rp K H' S' d v
 |.non,_,h=>h
 |.bl _,_,h=>h
 |.int _,_,h=>h
 |.str _,_,h=>h
 |.scr ns,v,h=>by
  unfold Rp at h⊢;let⟨a,e,h⟩:=h;rwa[a,e,?_];rcases h with⟨n,g|⟨o,g⟩⟩|h
  .show .inl #[(k _ _ n g).2,.inl (k _ _ n g).1]
  .show .inl #[(k _ _ n g).2,.inr #[o,(k _ _ n g).1]]
  .show .inr h
 |.nd hd ds,v,h=>by
  unfold Rp at h⊢;let⟨a,o,c,e,n,g,q,r⟩:=h;rwa[a,o,c,e,(k _ _ n g).2,(k _ _ n g).1,q,RpL.go k r]
theorem RpL.go(k:∀b o,¬S b->H b=B o->H' b=B o/\¬S' b):∀{ds:-D} {vs:-V},RpL K H S ds vs->RpL K H' S' ds vs
 |[],_,h=>by unfold RpL at h⊢;show h
 |d::ds,_,h=>by
  unfold RpL at h⊢;let⟨y,a,e,r,t⟩:=h;rwa[y,a,e,Rp.go k r,RpL.go k t]
end
theorem Rp.same(s:Same H H')(h:Rp K H S d v):Rp K H' S d v:=h.go λb o n e=>#[s b o e,n]
theorem RpL.same(s:Same H H')(h:RpL K H S d v):RpL K H' S d v:=h.go λb o n e=>#[s b o e,n]
theorem Rp.weak(k:∀b,S' b->S b){d:D}{v:V}(h:Rp K H S d v):Rp K H S' d v:=h.go λb o n e=>#[e,λz=>n (k b z)]
theorem RpL.weak(k:∀b,S' b->S b)(h:RpL K H S d v):RpL K H S' d v:=h.go λb o n e=>#[e,λz=>n (k b z)]
theorem RpL.len:∀{ds:-D} {vs:-V},RpL K H S ds vs->vs.length=ds.length
 |[],_,h=>by unfold RpL at h;rw[h];rfl
 |d::ds,_,h=>by
  unfold RpL at h;let⟨y,a,rfl,z_,t⟩:=h;rw[QI,QI,RpL.len t]
def RpL.nil:RpL K H S [] []:=by delta RpL;rfl
def RpL.cons{d:D}{v:V}{ds:-D}{vs:-V}(h1:Rp K H S d v)(h2:RpL K H S ds vs):RpL K H S (d::ds) (v::vs):=by delta RpL;rwa[v,vs,rfl,h1,h2]
def RpL.nil_inv(h:RpL K H S [] vs):vs=[]:=by unfold RpL at h;show h
def RpL.cons_inv(h:RpL K H S (d::ds) vs):Σy ys,vs=y::ys/\Rp K H S d y/\RpL K H S ds ys:=by unfold RpL at h;show h
theorem RpL.getD:∀{ds:-D} {vs:-V} {i:Nat} {d:D},RpL K H S ds vs->ds[i]?=B d->Σv,vs[i]?=B v/\Rp K H S d v
 |[],_,_,_,_,e=>by simp at e
 |d::ds,_,0,d',h,e=>by let⟨y,a,rfl,r,t⟩:=h.cons_inv;simp at e;subst e;rwa[y,rfl,r]
 |d::ds,_,i+1,d',h,e=>by let⟨y,a,rfl,r,t⟩:=h.cons_inv;simpa using RpL.getD t ↥e
theorem RpL.append:∀{ds es:-D} {vs us:-V},RpL K H S ds vs->RpL K H S es us->RpL K H S (ds++es) (vs++us)
 |[],_,_,_,h,g=>by rw[h.nil_inv];show g
 |d::ds,_,_,_,h,g=>by let⟨y,a,rfl,r,t⟩:=h.cons_inv;show .cons r (RpL.append t g)
theorem RpL.take:∀{ds:-D} {vs:-V} (n:Nat),RpL K H S ds vs->RpL K H S (ds.take n) (vs.take n)
 |_,_,0,_=>by simpa using RpL.nil
 |[],_,_+1,h=>by rw[h.nil_inv];simpa using RpL.nil
 |d::ds,_,n+1,h=>by let⟨y,a,rfl,r,t⟩:=h.cons_inv;show .cons r (RpL.take n t)
theorem RpL.drop:∀{ds:-D} {vs:-V} (n:Nat),RpL K H S ds vs->RpL K H S (ds.drop n) (vs.drop n)
 |_,_,0,h=>h
 |[],_,_+1,h=>by rw[h.nil_inv];simpa using RpL.nil
 |d::ds,_,n+1,h=>by let⟨y,a,rfl,r,t⟩:=h.cons_inv;show RpL.drop n t
theorem RpL.set:∀{ds:-D} {vs:-V} (n:Nat) {d:D} {v:V},RpL K H S ds vs->Rp K H S d v->RpL K H S (ds.set n d) (vs.set n v)
 |[],_,_,_,_,h,_=>by rw[h.nil_inv];simpa using RpL.nil
 |d::ds,_,0,_,_,h,g=>by let⟨y,a,rfl,r,t⟩:=h.cons_inv;show .cons g t
 |d::ds,_,n+1,_,_,h,g=>by let⟨y,a,rfl,r,t⟩:=h.cons_inv;show .cons r (RpL.set n t g)
theorem RpL.rep(h:RpL K H S ds vs):∀n:Nat,RpL K H S (QR n ds).flatten (QR n vs).flatten
 |0=>by simpa using RpL.nil
 |n+1=>by simpa[Rg] using h.append (h.rep n)
theorem RpL.ints:∀ns:-Int,RpL K H S (ns.map D.int) (ns.map V.int)
 |[]=>.nil
 |n::ns=>.cons (by delta Rp;rfl) (RpL.ints ns)
theorem RpL.erase:∀{ds:-D} {vs:-V} (n:Nat),RpL K H S ds vs->RpL K H S (ds.eraseIdx n) (vs.eraseIdx n)
 |[],_,_,h=>by rw[h.nil_inv];simpa using RpL.nil
 |d::ds,_,0,h=>by let⟨y,a,rfl,r,t⟩:=h.cons_inv;show t
 |d::ds,_,n+1,h=>by let⟨y,a,rfl,r,t⟩:=h.cons_inv;show .cons r (RpL.erase n t)
end
mutual
def uC:D->Bool
 |.nd h ds=>!h.mu&&Cm ds
 |.scr _=>Uk
 |_=>Uj
def Cm:-D->Bool
 |[]=>Uj
 |d::ds=>uC d&&Cm ds
end
def MuOk(H:Hp)(S:Pr):Prop:=∀a,S a->Σo,H a=B o/\∀xs,o≠.tup xs
section
variable {K:P9} {H:Hp} {S S':Pr}
mutual
theorem Rp.im(m:MuOk H S'):∀{d:D} {v:V},uC d=Uj->Rp K H S d v->Rp K H S' d v
 |.non,_,_,h=>h
 |.bl _,_,_,h=>h
 |.int _,_,_,h=>h
 |.str _,_,_,h=>h
 |.scr ns,v,i,h=>by simp[uC] at i
 |.nd hd ds,v,i,h=>by
  unfold Rp at h⊢;let⟨a,o,f,e,n,g,q,r⟩:=h;rw[uC,Qd] at i;rwa[a,o,f,e,λz=>?_,g,q,RpL.im m i.2 r];let⟨j,b,c⟩:=m a z;rw[g] at b;ext b
  cases hd with
  |tup=>show c _ q
  |_=>show absurd i.1 (by simp[Hd.mu])
theorem RpL.im(m:MuOk H S'):∀{ds:-D} {vs:-V},Cm ds=Uj->RpL K H S ds vs->RpL K H S' ds vs
 |[],_,_,h=>by unfold RpL at h⊢;show h
 |d::ds,_,i,h=>by
  rw[Cm,Qd] at i;let⟨y,a,rfl,r,t⟩:=h.cons_inv;show .cons (Rp.im m i.1 r) (RpL.im m i.2 t)
end
end
inductive Ow where
 |fz|own (es:-Ow) (r:Ow)
mutual
def Tr(K:P9)(H:Hp)(S:Pr):D->Ow->V->Pr->Prop
 |.nd h ds,.own es r,v,F=>Σa o xs F',v=.ref a/\H a=B o/\c7 K o h xs/\(h.mu=Uj->¬F' a)/\(h.mu=Uk->¬S a)/\(∀b,F b↔(h.mu=Uj/\b=a)\/F' b)/\TrL K H S ds es r xs F'
 |d,_,v,F=>(∀b,¬F b)/\Rp K H S d v
def TrL(K:P9)(H:Hp)(S:Pr):-D->-Ow->Ow->-V->Pr->Prop
 |[],_,_,xs,F=>xs=[]/\∀b,¬F b
 |d::ds,es,r,xs,F=>Σy ys F1 F2,xs=y::ys/\(∀b,F b↔F1 b\/F2 b)/\(∀b,F1 b->¬F2 b)/\Tr K H S d (es.headD r) y F1/\TrL K H S ds es.tail r ys F2
end
section
variable {K:P9} {H H':Hp} {S S':Pr}
mutual
theorem Tr.go:∀{d:D} {k:Ow} {v:V} {F:Pr},(∀b o,(¬S b\/F b)->H b=B o->H' b=B o)->(∀b o,H b=B o->¬S b->¬S' b)->Tr K H S d k v F->Tr K H' S' d k v F
 |.non,_,_,_,k1,k2,h=>by unfold Tr at h⊢;rwa[h.1,h.2]
 |.bl _,_,_,_,k1,k2,h=>by unfold Tr at h⊢;rwa[h.1,h.2]
 |.int _,_,_,_,k1,k2,h=>by unfold Tr at h⊢;rwa[h.1,h.2]
 |.str _,_,_,_,k1,k2,h=>by unfold Tr at h⊢;rwa[h.1,h.2]
 |.scr ns,_,_,_,k1,k2,h=>by unfold Tr at h⊢;rwa[h.1,h.2.go λb o n e=>#[k1 b o (.inl n) e,k2 b o e n]]
 |.nd hd ds,.fz,_,_,k1,k2,h=>by unfold Tr at h⊢;rwa[h.1,h.2.go λb o n e=>#[k1 b o (.inl n) e,k2 b o e n]]
 |.nd hd ds,.own es r,v,F,k1,k2,h=>by
  unfold Tr at h⊢;let⟨a,o,m,j,e,g,q,p,i,f,t⟩:=h
  let l:H' a=B o:=by
   cases c:hd.mu with
   |true=>show k1 a o (.inr ((f a).mpr (.inl #[c,rfl]))) g
   |false=>show k1 a o (.inl (i c)) g
  rwa[a,o,m,j,e,l,q,p,λc=>k2 a o g (i c),f,TrL.go (λb o h=>k1 b o (h.imp id λz=>(f b).mpr (.inr z))) k2 t]
theorem TrL.go:∀{ds:-D} {es:-Ow} {r:Ow} {vs:-V} {F:Pr},(∀b o,(¬S b\/F b)->H b=B o->H' b=B o)->(∀b o,H b=B o->¬S b->¬S' b)->TrL K H S ds es r vs F->TrL K H' S' ds es r vs F
 |[],_,_,_,_,_,_,h=>by unfold TrL at h⊢;show h
 |d::ds,es,r,vs,F,k1,k2,h=>by
  unfold TrL at h⊢;let⟨y,c,k,i,e,a,f,j,g⟩:=h;rwa[y,c,k,i,e,a,f,Tr.go (λb o h=>k1 b o (h.imp id λz=>(a b).mpr (.inl z))) k2 j,TrL.go (λb o h=>k1 b o (h.imp id λz=>(a b).mpr (.inr z))) k2 g]
end
mutual
theorem Tr.rp:∀{d:D} {k:Ow} {v:V} {F:Pr},(∀b,S' b->S b/\¬F b)->Tr K H S d k v F->Rp K H S' d v
 |.non,_,_,_,k2,h=>by unfold Tr at h;show h.2
 |.bl _,_,_,_,k2,h=>by unfold Tr at h;show h.2
 |.int _,_,_,_,k2,h=>by unfold Tr at h;show h.2
 |.str _,_,_,_,k2,h=>by unfold Tr at h;show h.2
 |.scr ns,_,_,_,k2,h=>by unfold Tr at h;show h.2.weak λb z=>(k2 b z).1
 |.nd hd ds,.fz,_,_,k2,h=>by unfold Tr at h;show h.2.weak λb z=>(k2 b z).1
 |.nd hd ds,.own es r,v,F,k2,h=>by
  unfold Tr at h;delta Rp;let⟨a,o,l,m,e,g,q,n,i,f,t⟩:=h;rwa[a,o,l,e,λz=>?_,g,q,TrL.rp (λb z=>#[(k2 b z).1,λj=>(k2 b z).2 ((f b).mpr (.inr j))]) t]
  cases c:hd.mu with
  |true=>show(k2 a z).2 ((f a).mpr (.inl #[c,rfl]))
  |false=>show i c (k2 a z).1
theorem TrL.rp:∀{ds:-D} {es:-Ow} {r:Ow} {vs:-V} {F:Pr},(∀b,S' b->S b/\¬F b)->TrL K H S ds es r vs F->RpL K H S' ds vs
 |[],_,_,_,_,_,h=>by unfold TrL at h;delta RpL;show h.1
 |d::ds,es,r,vs,F,k2,h=>by
  unfold TrL at h;let⟨y,g,k,j,rfl,c,i,f,e⟩:=h;show .cons (Tr.rp (λb z=>#[(k2 b z).1,λa=>(k2 b z).2 ((c b).mpr (.inl a))]) f) (TrL.rp (λb z=>#[(k2 b z).1,λa=>(k2 b z).2 ((c b).mpr (.inr a))]) e)
end
theorem Tr.rd(h:Tr K H S d k v F):Rp K H (λZ=>False) d v:=h.rp λb z=>z.elim
def Tr.fz(h:Rp K H S d v):Tr K H S d .fz v (λZ=>False):=by
 cases d<;>(delta Tr;rwa[λb z=>z,h])
def Tr.fz_inv{F:Pr}(h:Tr K H S d .fz v F):(∀b,¬F b)/\Rp K H S d v:=by
 cases d<;>(unfold Tr at h;show h)
mutual
theorem Tr.dom:∀{d:D} {k:Ow} {v:V} {F:Pr},Tr K H S d k v F->∀b,F b->Σo,H b=B o/\∀xs,o≠.tup xs
 |.non,_,_,_,h=>by unfold Tr at h;show λb z=>absurd z (h.1 b)
 |.bl _,_,_,_,h=>by unfold Tr at h;show λb z=>absurd z (h.1 b)
 |.int _,_,_,_,h=>by unfold Tr at h;show λb z=>absurd z (h.1 b)
 |.str _,_,_,_,h=>by unfold Tr at h;show λb z=>absurd z (h.1 b)
 |.scr ns,_,_,_,h=>by unfold Tr at h;show λb z=>absurd z (h.1 b)
 |.nd hd ds,.fz,_,_,h=>by unfold Tr at h;show λb z=>absurd z (h.1 b)
 |.nd hd ds,.own es r,v,F,h=>by
  unfold Tr at h;let⟨a,o,xs,l,e,g,q,p,j,f,t⟩:=h;intro b z;rcases(f b).mp z with⟨hm,rfl⟩|z
  .rwa[o,g,λn i=>?_];subst i
   cases hd with
   |tup=>show absurd hm (by simp[Hd.mu])
   |lst=>ext q
   |dic t m=>rcases q with⟨_,_,e,_⟩|⟨_,_,_,_,e,_⟩<;>ext e
   |obj c ns=>let⟨z_,y_,x_,w_,e,v_⟩:=q;ext e
  .show TrL.dom t b z
theorem TrL.dom:∀{ds:-D} {es:-Ow} {r:Ow} {vs:-V} {F:Pr},TrL K H S ds es r vs F->∀b,F b->Σo,H b=B o/\∀xs,o≠.tup xs
 |[],_,_,_,_,h=>by unfold TrL at h;show λb z=>absurd z (h.2 b)
 |d::ds,es,r,vs,F,h=>by
  unfold TrL at h;let⟨y,g,k,j,e,a,i,f,c⟩:=h;intro b z;rcases(a b).mp z with z|z
  .show Tr.dom f b z
  .show TrL.dom c b z
end
end
end J
namespace J
abbrev Gh:=Up->@&(@&Nat)
def Sx(g:Gh)(F:Pr):Pr:=λb=>g b≠L\/F b
abbrev Sg(g:Gh):Pr:=λb=>g b≠L
inductive Kd where
 |sh|fr (k:Ow)|bo (i:Nat) (k:Ow)
def VR1(K:P9)(H:Hp)(g:Gh)(Ft:Pr):Kd->D->V->Pr->Prop
 |.sh,d,v,F=>(∀b,¬F b)/\Rp K H (Sx g Ft) d v
 |.fr k,d,v,F=>Tr K H (Sx g Ft) d k v F
 |.bo i k,d,v,F=>(∀b,¬F b)/\ΣO,(∀b,O b->g b=B (B i))/\Tr K H (Sx g Ft) d k v O
def VRL(K:P9)(H:Hp)(g:Gh)(Ft:Pr):-(Kd×D)->-V->Pr->Prop
 |[],vs,F=>vs=[]/\∀b,¬F b
 |(kd,d)::r,vs,F=>Σy ys F1 F2,vs=y::ys/\(∀b,F b↔F1 b\/F2 b)/\(∀b,F1 b->¬F2 b)/\VR1 K H g Ft kd d y F1/\VRL K H g Ft r ys F2
def VR(K:P9)(g:Gh)(H0 H:Hp)(O:Kd)(d:D)(v:V):Prop:=ΣF:Pr,(∀b,F b->H0 b=L)/\VR1 K H g F O d v F
def VRs(K:P9)(g:Gh)(H0 H:Hp)(kds:-(Kd×D))(vs:-V):Prop:=ΣF:Pr,(∀b,F b->H0 b=L)/\VRL K H g F kds vs F
section
variable {K:P9} {H H' H0 H1:Hp} {g:Gh} {Ft Ft' F:Pr}
def VR1.go(s:Same H H')(c:∀b o,H b=B o->Ft' b->Ft b)(h:VR1 K H g Ft kd d v F):VR1 K H' g Ft' kd d v F:=by
 let a:∀b o,H b=B o->¬Sx g Ft b->¬Sx g Ft' b:=λb o e n z=>n (z.imp id (c b o e))
 cases kd with
 |sh=>rwa[h.1,h.2.go λb o n e=>#[s b o e,a b o e n]]
 |fr k=>show Tr.go (λb o Z e=>s b o e) a h
 |bo i k=>let⟨j,m,f,l⟩:=h;rwa[j,m,f,Tr.go (λb o Z e=>s b o e) a l]
def VR1.dom(h:VR1 K H g Ft kd d v F):∀b,F b->Σo,H b=B o/\∀xs,o≠.tup xs:=by
 cases kd with
 |sh=>show λb z=>absurd z (h.1 b)
 |fr k=>show Tr.dom h
 |bo i k=>show λb z=>absurd z (h.1 b)
theorem VRL.dom:∀{kds:-(Kd×D)} {vs:-V} {F:Pr},VRL K H g Ft kds vs F->∀b,F b->Σo,H b=B o/\∀xs,o≠.tup xs
 |[],_,_,h=>λb z=>absurd z (h.2 b)
 |(kd,d)::r,_,_,h=>by
  let⟨y,i,l,k,e,a,j,f,c⟩:=h;intro b z;rcases(a b).mp z with z|z
  .show f.dom b z
  .show VRL.dom c b z
theorem VR.same(s:Same H H')(h:VR K g H0 H kd d v):VR K g H0 H' kd d v:=
 let ⟨F,h1,h2⟩:=h;#[F,h1,h2.go s λZ Z Z z=>z]
theorem VR.older(s:Same H0 H1)(h:VR K g H1 H kd d v):VR K g H0 H kd d v:=
 let ⟨F,h1,h2⟩:=h;#[F,λb z=>s.free (h1 b z),h2]
def VR1.rd(h:VR1 K H g Ft kd d v F):Rp K H (λZ=>False) d v:=by
 cases kd with
 |sh=>show h.2.weak λb z=>z.elim
 |fr k=>show Tr.rd h
 |bo i k=>let⟨z_,c,y_,a⟩:=h;show a.rd
theorem VR.rd(h:VR K g H0 H kd d v):Rp K H (λZ=>False) d v:=let ⟨F,h1,h2⟩:=h;h2.rd
theorem VRL.rd:∀{kds:-(Kd×D)} {vs:-V} {F:Pr},VRL K H g Ft kds vs F->RpL K H (λZ=>False) (kds.map (·.2)) vs
 |[],_,_,h=>by rw[h.1];show .nil
 |(kd,d)::r,_,_,h=>by
  let⟨y,c,j,i,rfl,e,f,b,a⟩:=h;show .cons b.rd (VRL.rd a)
def pK:Kd->D->Bool
 |.bo _ _,d=>uC d
 |_,_=>Uj
theorem MuOk.same(m:MuOk H S)(s:Same H H'):MuOk H' S:=λa z=>let ⟨o,e,n⟩:=m a z;#[o,s a o e,n]
def VR1.sh{S:Pr}(ok:pK kd d=Uj)(m:MuOk H S)(a:∀b,S b->(g b≠L\/Ft b)/\¬F b)(h:VR1 K H g Ft kd d v F):Rp K H S d v:=by
 cases kd with
 |sh=>show h.2.weak λb z=>(a b z).1
 |fr k=>show Tr.rp (λb z=>#[(a b z).1,(a b z).2]) h
 |bo i k=>let⟨z_,f,e,c⟩:=h;show c.rd.im m ok
def VR.sh(ok:pK kd d=Uj)(m:MuOk H0 (Sg g))(s:Same H0 H)(h:VR K g H0 H kd d v):Rp K H (Sg g) d v:=by
 let⟨F,c,a⟩:=h;show a.sh ok (m.same s) λb z=>#[.inl z,λf=>?_];let⟨o,e,z_⟩:=m b z;rw[c b f] at e;ext e
theorem VRL.sh{S:Pr}(m:MuOk H S):∀{kds:-(Kd×D)} {vs:-V} {F:Pr},(kds.all λp=>pK p.1 p.2)=Uj->(∀b,S b->(g b≠L\/Ft b)/\¬F b)->VRL K H g Ft kds vs F->RpL K H S (kds.map (·.2)) vs
 |[],_,_,_,_,h=>by rw[h.1];show .nil
 |(kd,d)::r,_,F,ok,hS,h=>by
  let⟨y,i,l,k,rfl,c,j,f,e⟩:=h;rw[Q3,Qd] at ok;show .cons (f.sh ok.1 m λb z=>#[(hS b z).1,λa=>(hS b z).2 ((c b).mpr (.inl a))]) (VRL.sh m ok.2 (λb z=>#[(hS b z).1,λa=>(hS b z).2 ((c b).mpr (.inr a))]) e)
def VRs.sh{kds:-(Kd×D)}(ok:(kds.all λp=>pK p.1 p.2)=Uj)(m:MuOk H0 (Sg g))(s:Same H0 H)(h:VRs K g H0 H kds vs):RpL K H (Sg g) (kds.map (·.2)) vs:=by
 let⟨F,c,a⟩:=h;show a.sh (m.same s) ok λb z=>#[.inl z,λd=>?_];let⟨o,e,z_⟩:=m b z;rw[c b d] at e;ext e
theorem VRs.rd{kds:-(Kd×D)}(h:VRs K g H0 H kds vs):RpL K H (λZ=>False) (kds.map (·.2)) vs:=let ⟨F,h1,h2⟩:=h;h2.rd
theorem VRs.nil:VRs K g H0 H [] []:=#[λZ=>False,λb z=>z.elim,rfl,λb z=>z]
open Classical in
meta def Gh.plus(g:Gh)(F:Pr):Gh:=λb=>if F b then B L else g b
def aj(b:Up):Sg (g.plus F) b↔Sg g b\/F b:=by
 unfold Gh.plus Sg;by_cases h:F b
 .simp[h]
 .simp[h]
def bM(h:g.plus F b=B (B i)):g b=B (B i):=by
 delta Gh.plus at h
 .ext h
 .show h
def cz(h:g b=B (B i))(n:¬F b):g.plus F b=B (B i):=by
 delta Gh.plus;rw[if_neg n];show h
def VR1.unplus{F1:Pr}(h:VR1 K H (g.plus F1) Ft kd d v F):VR1 K H g (λb=>F1 b\/Ft b) kd d v F:=by
 let a:∀b o,H b=B o->¬Sx (g.plus F1) Ft b->¬Sx g (λb=>F1 b\/Ft b) b:=λb o e n z=>n (z.elim (λz=>.inl ((aj b).mpr (.inl z))) λz=>z.elim (λz=>.inl ((aj b).mpr (.inr z))) .inr)
 cases kd with
 |sh=>rwa[h.1,h.2.go λb o n e=>#[e,a b o e n]]
 |fr k=>show Tr.go (λb o Z e=>e) a h
 |bo i k=>let⟨f,l,c,j⟩:=h;rwa[f,l,λb z=>bM (c b z),Tr.go (λb o Z e=>e) a j]
theorem VRL.unplus{F1:Pr}:∀{kds:-(Kd×D)} {vs:-V} {F:Pr},VRL K H (g.plus F1) Ft kds vs F->VRL K H g (λb=>F1 b\/Ft b) kds vs F
 |[],_,_,h=>h
 |(kd,d)::r,_,_,h=>by
  let⟨y,a,F1,j,e,c,f,k,i⟩:=h;rwa[y,a,F1,j,e,c,f,k.unplus,VRL.unplus i]
def VRs.cons{f:Kd}{d:D}{v:V}{kds:-(Kd×D)}{vs:-V}{F1:Pr}(s:Same H0 H)(s1:Same H H')(k:∀b,F1 b->H0 b=L)(c:VR1 K H g F1 f d v F1)(h2:VRs K (g.plus F1) H H' kds vs):VRs K g H0 H' ((f,d)::kds) (v::vs):=by
 let⟨a,b1,b2⟩:=h2;let h:=c.dom;rwa[λb=>F1 b\/a b,λb z=>z.elim (k b) λz=>s.free (b1 b z),v,vs,F1,a,rfl,λb=>Iff.rfl,λb i j=>?_,c.go s1 λb o e z=>z.elim id λz=>?_,b2.unplus]
 .let⟨o,e,z_⟩:=h b i;rw[b1 b j] at e;ext e
 .rw[b1 b z] at e;ext e
def VRs.one(h:VRs K g H0 H [(kd,d)] vs):Σv,vs=[v]/\VR K g H0 H kd d v:=by
 let⟨F,k,y,m,c,n,rfl,a,l,i,j,f⟩:=h;subst j;let e:∀b,F b->c b:=λb z=>((a b).mp z).elim id λz=>absurd z (f b);rwa[y,rfl,c,λb z=>k b ((a b).mpr (.inl z)),i.go (λZ Z h=>h) λb Z Z z=>(a b).mpr (.inl z)]
end
structure Sl where
 lk:Bool
 k:Ow
 d:D
abbrev Ro:=-(@&Sl)
meta def sD:Ow->Bool
 |.fz=>Uj
 |_=>Uk
def pL(i:Nat)(s:Sl):Kd×D:=(if sD s.k then .sh else .bo i s.k,s.d)
structure SE(K:P9)(g:Gh)(Z:Ro)(Y:St)(H:Hp):Prop where
 slot:∀(i:Nat) (s:Sl),Z[i]?=B (B s)->Σv F,Y[i]?=B (B v)/\(∀b,F b->g b=B (B i))/\Tr K H (Sg g) s.d s.k v F
 mu:MuOk H (Sg g)
 len:Z.length=Y.length
section
variable {K:P9} {H H' H0 H1:Hp} {g g':Gh} {Z:Ro} {Y:St}
theorem SE.same(h:SE K g Z Y H)(s:Same H H'):SE K g Z Y H':=
 #[λi a e=>let ⟨v,F,e1,e2,e3⟩:=h.slot i a e;#[v,F,e1,e2,e3.go (λb o W e=>s b o e) λb o W n=>n],h.mu.same s,h.len]
def kr(h:sD k=Uj):k=.fz:=by cases k with|fz=>rfl|own es r=>ext h
def SE.get(h:SE K g Z Y H){i:Nat}(e:Z[i]?=B (B s)):Σv,Y[i]?=B (B v)/\VR K g H H (pL i s).1 (pL i s).2 v:=by
 let⟨v,F,e1,e2,e3⟩:=h.slot i s e;rwa[v,e1,λW=>False,λb z=>z.elim,?_];let t:Tr K H (Sx g λW=>False) s.d s.k v F:=e3.go (λW W W h=>h) λb o W n z=>n (z.elim id λz=>z.elim);delta pL
 cases hk:sD s.k with
 |true=>
  rw[kr hk] at t;rwa[λb z=>z,t.fz_inv.2]
 |false=>rwa[λb z=>z,F,e2,t]
def SE.plus{F:Pr}(h:SE K g Z Y H)(s:Same H H')(a:∀b,F b->H b=L)(d:∀b,F b->Σo,H' b=B o/\∀xs,o≠.tup xs):SE K (g.plus F) Z Y H':=by
 rwa[λi c e=>?_,λb z=>?_,h.len]
 .let⟨v,j,e1,e2,e3⟩:=h.slot i c e;rwa[v,j,e1,λb z=>cz (e2 b z) λf=>?_,e3.go (λb o W e=>s b o e) λb o e n z=>?_]
  .let⟨o,q,z_⟩:=e3.dom b z;rw[a b f] at q;ext q
  .rcases(aj b).mp z with z|z
   .show n z
   .rw[a b z] at e;ext e
 .rcases(aj b).mp z with z|z
  .show h.mu.same s b z
  .show d b z
end
section
variable (X:Cx)
def wE(e:Uo):TE:=λY H Q=>∀pins s,Inv X pins Y H s->⇑X (eval e X.env) (EP X pins Y Q) X.xe s
def wT(e:Uo):TT:=λY H Q=>∀pins s,Inv X pins Y H s->⇑X (isTrue e X.env (eval e X.env)) (TP X pins Y Q) X.xe s
def wW(e:Uo):TT:=λY H Q=>∀O pins s,Inv X pins Y H s->⇑X (isTrue e X.env O) (TP X pins Y Q) X.xe s
def wA(es:-Uo):TA:=λY H Q=>∀pos pins s,Inv X pins Y H s->⇑X (spliced (backTo pos (Uv es X.env))) (AP X pins Y Q) X.xe s
def wG(tg:Uo):TG:=λv Y H Q=>∀pins s u,Inv X pins Y H s->RelV v u->⇑X (assign tg X.env u) (λZ s'=>ΣY' H',Inv X pins Y' H' s'/\Q Y' H') X.xe s
def wI(tg iter:Uo):TI:=λY H R=>∀pins s,Inv X pins Y H s->⇑X (eval iter X.env) (λv s1=>⇑X (pyIter v) (Nr X pins Y tg R) X.xe s1) X.xe s
end
section
variable {X:Cx}
theorem aC:PE X e (wE X e):=λa s Y H Q I h=>h a s I
theorem jb:PT X e (wT X e):=λa s Y H Q I h=>h a s I
theorem Co:PW X e (wW X e):=λb a s Y H Q I h=>h b a s I
theorem dI:PA X es (wA X es):=λb a s Y H Q I h=>h b a s I
theorem wX:PI X tg iter (wI X tg iter):=λa s Y H R I h=>h a s I
theorem wY:PG X tg (wG X tg):=λa s Y H v u Q I r h=>h a s u I r
theorem aB{t:TE}(p:PE X e t)(h:t Y H Q):wE X e Y H Q:=λa s I=>p a s Y H Q I h
theorem yM{t:TT}(p:PT X e t)(h:t Y H Q):wT X e Y H Q:=λa s I=>p a s Y H Q I h
theorem mX{t:TT}(p:PW X e t)(h:t Y H Q):wW X e Y H Q:=λb a s I=>p b a s Y H Q I h
theorem li{t:TA}(p:PA X es t)(h:t Y H Q):wA X es Y H Q:=λb a s I=>p b a s Y H Q I h
theorem lj{t:TI}(p:PI X tg iter t)(h:t Y H R):wI X tg iter Y H R:=λa s I=>p a s Y H R I h
theorem uD{t:TG}(p:PG X tg t)(h:t v Y H Q):wG X tg v Y H Q:=λa s u I r=>p a s Y H v u Q I r h
end
def SndE(X:Cx)(f:Ro->@&(Kd×D))(e:Uo):Prop:=∀Z O d,f Z=B (O,d)->∀g Y H Q,SE X.K g Z Y H->(∀v H',Same H H'->VR X.K g H H' O d v->Q v H')->wE X e Y H Q
def SndT(X:Cx)(f:Ro->@&Bool)(e:Uo):Prop:=∀Z b,f Z=B b->∀g Y H Q,SE X.K g Z Y H->(∀H',Same H H'->Q b H')->wT X e Y H Q
def kg(X:Cx)(f:Ro->@&(-(Kd×D)))(es:-Uo):Prop:=∀Z kds,f Z=B kds->∀g Y H Q,SE X.K g Z Y H->(∀vs H',Same H H'->VRs X.K g H H' kds vs->Q vs H')->wA X es Y H Q
end J
namespace G
open PyProof.Rows
meta def jZ(n:Nat)(lo st:@&Int):-Nat:=sliceRange (sliceBounds lo L st n).1 (sliceBounds lo L st n).2.1 (sliceBounds lo L st n).2.2
def cV{α:Type}(xs:List α)(lo st:@&Int):List α:=(jZ xs.length lo st).filterMap λi=>xs[i]?
theorem mY{xs:-V}{us:-Um}(r:Vals xs us):∀is:-Nat,Vals (is.filterMap λi=>xs[i]?) (is.filterMap λi=>us[i]?)
 |[]=>.nil
 |i::is=>by
  let a:=mY r is;by_cases h:i<xs.length
  .let b:i<us.length:=by rw[<- r.length];show h
   let⟨u,e1,e2⟩:=r.get (Qi h);rw[QN,QN,Qi h,e1];show .cons e2 a
  .rw[QN,QN,QT ∅,QT (by rw[<- r.length];lia)];show a
section
variable {X:Cx}
def NN(te:TE)(tl:TO)(R:TE):TE:=λY H Q=>te Y H λx H1=>tl Y H1 λl H2=>R Y H2 λy O=>Σa xs k,x=.ref a/\y=.int k/\k≠0/\SqL X.K O a xs/\∀p,O p=L->Q (.ref p) (upd O p (.lst (cV xs l (B k))))
def GH{e st:Uo}{lo:@&Uo}{te i:TE}{tl:TO}{p2 pos:Pos}(Z:PE X e te)(V:PO X lo tl)(m:PE X st i):PE X (.Subscript e (.Slice lo L (B st) p2) pos) (NN (X:=X) te tl i):=by
 intro c s Y H Q I h;show Subscript_ (a8 (Z c s Y H _ I h) λv s1 f=>?_);let⟨x,S,D,E,P⟩:=f;show wpAny_Slice (a8 (V c s1 Y S _ D P) λz s2 f=>?_);let⟨l,O,I2,C,K⟩:=f;rw[evalPart_none];show Ur ?_;show a8 (m c s2 Y O _ I2 K) λR s3 f=>?_;let⟨y,U,T,W,N⟩:=f;let⟨a,p,k,rfl,rfl,hk,M,q⟩:=N;let⟨t,rfl⟩:=W;ext E;let j:Inv X c Y U { s3 with heap:=s3.heap.push { cls:=.type "slice",data:=.fields [z,.none,.int k t].toArray } }:=T.kept (t':=s3.toks) λb F q=>Qg _ q;let⟨d,r,n,f⟩:=j.list M;change ⇑X (subscriptTail e (.Slice lo L (B st) p2) (.ref a) (.ref s3⁻¹)) (EP X c Y Q) X.xe { s3 with heap:=s3.heap.push { cls:=.type "slice",data:=.fields [z,.none,.int k t].toArray } };show tail_any (ops:=[.ref a,.ref s3⁻¹]) n.isList.typeIs slot_list_getitem.lookup ?_ (by with_unfolding_all rfl);show wpAny_getItem_list_slice n.isList (Heap.IsSliceOf.new ..) C .none (.int _ _) ↥hk ?_ (by rw[Qk,<- r.length];show f)
 let e1:slicePick d.toArray l L (B k)=(cV d l (B k)).toArray:=by
  unfold slicePick cV jZ;simp
 rw[e1];let g:=slicePick_size_le d.toArray l L (B k);rw[e1,Qk,Qk] at g
 let u:Vals (cV p l (B k)) (cV d l (B k)):=by
  delta cV;rw[r.length];show mY r _
 rwa[.ref _,_,j.laid (t':=s3.toks) (o:=.lst (cV p l (B k))) (λb F q=>Qg _ q) (Qe _) ?_,rfl,q _ (j.hok.fresh (Qe _))];rwa[by rw[u.length];show QG g (by rw[<- r.length];show f),_,0,u,Qm _ rfl]
end
abbrev Kk:=L2.aD
instance:LawfulBEq Kk where
 eq_of_beq:=λ{a b} h=>by
  cases a<;>ext b
  .let h:_==_:=h;show congrArg Sum.inl (eq_of_beq h)
  .ext h
  .ext h
  .show congrArg Sum.inr (eq_of_beq (h))
 rfl:=λ{a}=>by
  ext a
  .show beq_self_eq_true (α:=Int) _
  .show beq_self_eq_true (α:=Str) _
end G
set_option exponentiation.threshold 5000
namespace J
mutual
noncomputable def py:D->PyData
 |.non=>.none
 |.bl b=>.bool b
 |.int i=>.int i
 |.str x=>.str x
 |.scr ns=>.list (ns.map .int)
 |.nd .lst ds=>.list (uE ds)
 |.nd .tup ds=>.tuple (uE ds)
 |.nd (.dic _ _) _=>.dict []
 |.nd (.obj _ _) _=>.none
noncomputable def uE:-D->-PyData
 |[]=>[]
 |d::ds=>py d::uE ds
end
mutual
noncomputable def eZ:Nat->D->Bool
 |_,.non=>Uj
 |_,.bl _=>Uj
 |_,.int _=>Uj
 |_,.str x=>PyData.strOk x
 |n,.scr _=>decide (1<=n)
 |n,.nd .lst ds=>decide (1<=n)&&ll (n-1) ds
 |n,.nd .tup ds=>decide (1<=n)&&ll (n-1) ds
 |_,.nd (.dic _ _) _=>Uk
 |_,.nd (.obj _ _) _=>Uk
noncomputable def ll:Nat->-D->Bool
 |_,[]=>Uj
 |n,d::ds=>eZ n d&&ll n ds
end
section
variable {X:Cx} {pins:-(Up×Obj)} {Y:L2.St} {H:Hp} {s:Uq} {S:Pr}
theorem gw:∀{ns:-Int} {us:-Um},Vals (ns.map V.int) us->Σa,ReadsAll h us (ns.map .int) a
 |[],_,.nil=>#[_,.nil]
 |n::ns,_,.cons r t=>by
  let⟨b,e⟩:=(r);subst e;let⟨a,q⟩:=gw t;rwa[_,.cons (.int n b) q]
theorem ku:∀ns:-Int,PyData.canLayAll0 (ns.map .int)=Uj/\PyData.depthAll (ns.map .int)=0
 |[]=>by simp[PyData.canLayAll0,PyData.depthAll]
 |n::ns=>by
  have:=ku ns;simp[PyData.canLayAll0,PyData.depthAll,PyData.canLay0,PyData.depth,this]
mutual
theorem dv(I:Inv X pins Y H s):∀{d:D} {n:Nat} {v:V} {u:Um},eZ n d=Uj->Rp X.K H S d v->RelV v u->(Σw,Reads s.heap u (py d) w)/\(py d).canLay0=Uj/\(py d).depth<=n
 |.non,n,v,u,_,r,e=>by unfold Rp at r;subst r;ext e;dsimp[py];rwa[#[_,.none],by simp[PyData.canLay0],by simp[PyData.depth]]
 |.bl b,n,v,u,_,r,e=>by unfold Rp at r;subst r;ext e;dsimp[py];rwa[#[_,.bool b],by simp[PyData.canLay0],by simp[PyData.depth]]
 |.int i,n,v,u,_,r,e=>by unfold Rp at r;subst r;let⟨t,rfl⟩:=e;dsimp[py];rwa[#[_,.int i t],by simp[PyData.canLay0],by simp[PyData.depth]]
 |.str x,n,v,u,h,r,e=>by unfold Rp at r;subst r;let⟨t,rfl⟩:=e;dsimp[py];rwa[#[_,.str x t],by simpa[PyData.canLay0,eZ] using h,by simp[PyData.depth]]
 |.scr ns,n,v,u,h,r,e=>by
  unfold Rp at r;let⟨a,rfl,r⟩:=r;ext e;let q:SqL X.K H a (ns.map V.int):=r.elim (λr=>.inl r.2) .inr;obtain⟨j,f,⟨o,m,l,k,N,p⟩,z⟩:=I.list q;let⟨w,c⟩:=gw f;dsimp[py];let E:1<=n:=by simpa[eZ] using h
  rwa[#[_,.list l k p ↥c],by simpa[PyData.canLay0] using(ku ns).1,by simp[PyData.depth,(ku ns).2,E]]
 |.nd .lst ds,n,v,u,h,r,e=>by
  unfold Rp at r;let⟨a,o,A,rfl,F,g,q,y⟩:=r;ext e;let q:o=.lst A:=q;subst q;obtain⟨j,f,⟨o,m,l,k,N,p⟩,z⟩:=I.list (SqL.of g);dsimp[eZ,Qd,decide_eq_true_eq] at h;obtain⟨⟨w,c⟩,C,M⟩:=jc I h.2 y f;dsimp[py];rwa[#[_,.list l k p ↥c],by simpa[PyData.canLay0] using C,by dsimp[PyData.depth];lia]
 |.nd .tup ds,n,v,u,h,r,e=>by
  unfold Rp at r;let⟨a,o,A,rfl,F,g,q,y⟩:=r;ext e;let q:o=.tup A:=q;subst q;obtain⟨j,f,⟨o,l,k,m,p⟩,z⟩:=I.tuple (SqT.of g);dsimp[eZ,Qd,decide_eq_true_eq] at h;obtain⟨⟨w,c⟩,C,M⟩:=jc I h.2 y f;dsimp[py];rwa[#[_,.tuple l k p ↥c],by simpa[PyData.canLay0] using C,by dsimp[PyData.depth];lia]
 |.nd (.dic _ _) _,n,v,u,h,r,e=>by simp[eZ] at h
 |.nd (.obj _ _) _,n,v,u,h,r,e=>by simp[eZ] at h
theorem jc(I:Inv X pins Y H s):∀{ds:-D} {n:Nat} {xs:-V} {us:-Um},ll n ds=Uj->RpL X.K H S ds xs->Vals xs us->(Σa,ReadsAll s.heap us (uE ds) a)/\PyData.canLayAll0 (uE ds)=Uj/\PyData.depthAll (uE ds)<=n
 |[],n,xs,us,_,r,e=>by rw[r.nil_inv] at e;ext e;dsimp[uE];rwa[#[_,.nil],by simp[PyData.canLayAll0],by simp[PyData.depthAll]]
 |d::ds,n,xs,us,h,r,e=>by
  let⟨y,l,rfl,f,g⟩:=r.cons_inv;dsimp[ll,Qd] at h
  cases e with
  |cons e1 e2=>
   obtain⟨⟨a,b⟩,j,m⟩:=dv I h.1 f e1;obtain⟨⟨o,c⟩,i,k⟩:=jc I h.2 g e2;dsimp[uE];rwa[#[_,.cons b c],by simp[PyData.canLayAll0,j,i],by dsimp[PyData.depthAll];lia]
end
end
def Bz(x y:D):Bool:=PyData.eqv (py x) (py y)
meta def lim:Nat:=2^4000
noncomputable abbrev bQ:Ow:=.own [] .fz
def fD:Ow->Bool
 |.fz=>Uj
 |.own es r=>es.all sD&&sD r
def dZ:Kd->-D->Bool
 |.bo _ k,ds=>fD k||Cm ds
 |_,_=>Uj
abbrev KD:=Kd×D
def pM:UD->Int->Int->@&Int
 |.Add,i,j=>B (i+j)
 |.Sub,i,j=>B (i-j)
 |.Mult,i,j=>if i.natAbs<lim/\j.natAbs<lim then B (i*j) else L
 |.FloorDiv,i,j=>if 0<j/\j.natAbs<lim then B (i / j) else L
 |.Mod,i,j=>if 0<j then B (i%j) else L
 |.LShift,i,j=>if 0<=j/\j<=1000000/\i.natAbs<lim then B (i*2^j.toNat) else L
 |.Pow,i,j=>if 0<=j/\j<=1000000/\i.natAbs<2^64 then B (i^j.toNat) else L
 |.RShift,i,j=>if 0<=j then B (i / 2^j.toNat) else L
 |.BitAnd,i,j=>B (Builtin.bitAnd i j)
 |.BitOr,i,j=>B (Builtin.bitOr i j)
 |.BitXor,i,j=>B (Builtin.bitXor i j)
 |_,_,_=>L
def Kx(op:UD)(k:Kd)(xs:-D)(y:KD):@&KD:=match op with
 |.Add=>(match y.2 with
  |.nd hd ys=>(match hd with
   |.lst=>if dZ k xs=Uj/\dZ y.1 ys=Uj/\xs.length+ys.length<=100000 then B (.fr bQ,.lst (xs++ys)) else L
   |_=>L)
  |_=>L)
 |.Mult=>(match y.2 with
  |.int n=>if dZ k xs=Uj/\0<=n/\n<=100000/\xs.length*n.toNat<=100000 then B (.fr bQ,.lst (QR n.toNat xs).flatten) else L
  |_=>L)
 |_=>L
meta def Ky(op:UD)(k:Kd)(xs:-D)(y:KD):@&KD:=L
meta def Kz(op:UD)(i:Str)(y:D):@&KD:=L
def d8(op:UD)(x y:KD):@&KD:=match x.2 with
 |.int i=>(match y.2 with|.int j=>(match pM op i j with|some z=>B (.sh,.int z)|none=>L)|_=>L)
 |.nd hd xs=>(match hd with|.lst=>Kx op x.1 xs y|.tup=>Ky op x.1 xs y|_=>L)
 |.str i=>Kz op i y.2
 |_=>L
def fZ(h:pM op i j=B z):d8 op (k,.int i) (k',.int j)=B (.sh,.int z):=by
 change(match pM op i j with|some z=>B (Kd.sh,D.int z)|none=>L)=_
 rw[h]
def wZ{p:Prop}[Decidable p]{α:Type}{a b:α}(h:(if p then B a else L)=B b):p/\b=a:=by
 by_cases c:p
 .rw[if_pos c] at h;ext h;rwa[c,rfl]
 .rw[if_neg c] at h;ext h
theorem aO{n:Nat}(h:n<=100000):n<=sizeLine:=QG h ⋯
section
variable {K:P9} {H H' H0:Hp} {S:Pr} {g:Gh}
def Rp.int(h:Rp K H S (.int i) v):v=.int i:=by unfold Rp at h;show h
def Rp.bl(h:Rp K H S (.bl i) v):v=.bl i:=by unfold Rp at h;show h
def Rp.str(h:Rp K H S (.str i) v):v=.str i:=by unfold Rp at h;show h
def Rp.non(h:Rp K H S .non v):v=.non:=by unfold Rp at h;show h
def Rp.nd(h:Rp K H S (.nd hd ds) v):Σa o xs,v=.ref a/\¬S a/\H a=B o/\c7 K o hd xs/\RpL K H S ds xs:=by unfold Rp at h;show h
def Rp.scr{ns:-Int}(h:Rp K H S (.scr ns) v):Σa,v=.ref a/\SqL K H a (ns.map V.int):=by
 unfold Rp at h;let⟨a,e,h⟩:=h;rwa[a,e,h.elim (λh=>.inl h.2) .inr]
theorem pN:VR K g H0 H .sh (.int i) (.int i):=#[λZ=>False,λZ z=>z.elim,λZ z=>z,by delta Rp;rfl]
theorem EB:VR K g H0 H .sh (.bl i) (.bl i):=#[λZ=>False,λZ z=>z.elim,λZ z=>z,by delta Rp;rfl]
theorem KA:VR K g H0 H .sh (.str i) (.str i):=#[λZ=>False,λZ z=>z.elim,λZ z=>z,by delta Rp;rfl]
theorem GI:VR K g H0 H .sh .non .non:=#[λZ=>False,λZ z=>z.elim,λZ z=>z,by delta Rp;rfl]
theorem Ju(h:Rp K H (Sg g) d v):VR K g H0 H .sh d v:=#[λZ=>False,λZ z=>z.elim,λZ z=>z,h.weak λb z=>z.elim id λz=>z.elim]
theorem ag(a:H p=L):Same H (upd H p o):=λb u q=>by rw[ac (aw q a)];show q
theorem TrL.ofFz:∀{ds:-D} {xs:-V},RpL K H S ds xs->TrL K H S ds [] .fz xs λZ=>False
 |[],_,h=>by delta TrL;rwa[h.nil_inv,λZ z=>z]
 |d::ds,_,h=>by
  let⟨y,a,rfl,r,t⟩:=h.cons_inv;delta TrL;rwa[y,a,_,_,rfl,λb=>#[.inl,λz=>z.elim id id],λZ z=>z.elim,Tr.fz r,TrL.ofFz t]
def nR(a:H p=L)(r:RpL K H (Sg g) ds xs):VR K g H (upd H p (.lst xs)) (.fr bQ) (.lst ds) (.ref p):=by
 rwa[λb=>b=p,λb z=>z▸a,?_];change Tr K _ _ _ _ _ _;delta Tr
 rwa[p,_,xs,λZ=>False,rfl,al,rfl,λZ z=>z,(λh=>nomatch h),λb=>#[λz=>.inl #[rfl,z],λz=>z.elim (λz=>z.2) λz=>z.elim],.ofFz (r.go λb o n e=>#[ag a b o e,λz=>z.elim n λz=>?_])]
 subst z;rw[a] at e;ext e
def GJ(m:MuOk H (Sg g))(a:H p=L)(r:RpL K H (Sg g) ds xs):VR K g H (upd H p (.tup xs)) .sh (.tup ds) (.ref p):=by
 show Ju ?_;delta Rp;rwa[p,_,xs,rfl,λz=>?_,al,rfl,r.same (ag a)];let⟨o,e,z_⟩:=m p z;rw[a] at e;ext e
def uF{es:-Ow}(h:fD (.own es r)=Uj):(∀e∈es,e=.fz)/\r=.fz:=by
 dsimp[fD,Qd,QB] at h;rwa[λe a=>kr (h.1 e a),kr h.2]
theorem TrL.flat:∀{ds:-D} {es:-Ow} {xs:-V} {F:Pr},(∀e∈es,e=.fz)->TrL K H S ds es .fz xs F->(∀b,¬F b)/\RpL K H S ds xs
 |[],_,_,_,_,h=>by unfold TrL at h;rwa[h.2,by rw[h.1];show .nil]
 |d::ds,es,_,_,he,h=>by
  unfold TrL at h;let⟨y,n,p,o,rfl,f,m,c,k⟩:=h
  let e:es.headD .fz=.fz:=by
   cases es with
   |nil=>rfl
   |cons a r=>show he a (.head _)
  rw[e] at c;let⟨l,i⟩:=c.fz_inv
  let⟨g,j⟩:=TrL.flat (λe q=>he e (by cases es with|nil=>cases q|cons a r=>show .tail _ q)) k
  rwa[λb z=>((f b).mp z).elim (l b) (g b),.cons i j]
def VR.items(ok:dZ kd ds=Uj)(m:MuOk H0 (Sg g))(s:Same H0 H)(h:VR K g H0 H kd (.nd hd ds) v):Σa o xs,v=.ref a/\H a=B o/\c7 K o hd xs/\RpL K H (Sg g) ds xs:=by
 let ns:∀{f:Kd},pK f (.nd hd ds)=Uj->VR K g H0 H f (.nd hd ds) v->Σa o xs,v=.ref a/\H a=B o/\c7 K o hd xs/\RpL K H (Sg g) ds xs:=λok h=>by
  let⟨a,o,xs,e,z_,d,c,j⟩:=(h.sh ok m s).nd;rwa[a,o,xs,e,d,c,j]
 cases kd with
 |sh=>show ns rfl h
 |fr k=>show ns rfl h
 |bo i k=>
  dsimp[dZ,Rn] at ok;obtain ok|ok:=ok
  .let⟨F,A,y,D,x,l⟩:=h
   cases k with
   |fz=>
    let⟨z_,r⟩:=l.fz_inv;let⟨a,o,xs,e,z_,d,c,j⟩:=r.nd;rwa[a,o,xs,e,d,c,j.weak λb z=>.inl z]
   |own p r=>
    let⟨n,rfl⟩:=uF ok;unfold Tr at l;let⟨a,o,xs,w,e,d,c,C,q,u,t⟩:=l;rwa[a,o,xs,e,d,c,(t.flat n).2.weak λb z=>.inl z]
  .let⟨a,o,xs,e,z_,d,c,j⟩:=h.rd.nd;rwa[a,o,xs,e,d,c,j.im (m.same s) ok]
end
def NO(K:P9)(op:UD):R2:=λx y H Q=>Σg H0 kx O R d,MuOk H0 (Sg g)/\Same H0 H/\VR K g H0 H kx.1 kx.2 x/\VR K g H0 H O.1 O.2 y/\d8 op kx O=B (R,d)/\∀v H',Same H H'->VR K g H H' R d v->Q v H'
theorem KB{i j:Int}(h:i.natAbs<lim/\j.natAbs<lim):IntMulOk i j:=
 IntMulOk.of_bits (QG (PyProof.Rows.intBits_le h.1) ⋯) (QG (PyProof.Rows.intBits_le h.2) ⋯)
def Cp{j:Int}(h:j.natAbs<lim):j.natAbs.log2<9000:=by
 by_cases z:j.natAbs=0
 .rw[z];decide
 .show Qn ((Nat.log2_lt z).mpr h) ⋯
theorem Cq:gN X (binaryOp .Mult) (rI (λi j=>i.natAbs<lim/\j.natAbs<lim) λi j=>.int (i*j)):=Js λZ Z Z Z Z Z Z a q=>PyProof.Rows.mul_int q (KB a)
theorem yN:gN X (binaryOp .FloorDiv) (rI (λi j=>0<j/\j.natAbs<lim) λi j=>.int (i / j)):=Js λi j Z Z Z Z Z a q=>by
 let b:(0:Int)<j:=a.1;show PyProof.Rows.floordiv_int ∅ (by rw[SQ i ∅];show q) (.inl (PyProof.noPylong_of_log2 (Cp a.2)))
theorem Cr:gN X (binaryOp .LShift) (rI (λi j=>0<=j/\j<=1000000/\i.natAbs<lim) λi j=>.int (i*2^j.toNat)):=Js λi j Z Z Z Z Z a q=>by
 let b:=PyProof.Rows.intBits_le a.2.2;show PyProof.Rows.lshift_int a.1 (by have:=a.2.1;lia) q
def yO{X:Cx}(op:UD):gN X (binaryOp op) (NO X.K op):=by
 intro c s Y H x y v u Q I l r h;obtain⟨g,H0,⟨kx,W⟩,⟨ky,R⟩,kd,d,m,F,E,C,k,q⟩:=h;cbv at E C
 cases W with
 |int i=>cases R with
  |int j=>
   obtain⟨rfl,rfl⟩:x=.int i/\y=.int j:=#[E.rd.int,C.rd.int]
   let k:(match pM op i j with|some z=>B (Kd.sh,D.int z)|none=>L)=B (kd,d):=k
   cases f:pM op i j with
   |none=>rw[f] at k;ext k
   |some z=>
    rw[f] at k;ext k;let q:Q (.int z) H:=q _ H (Same.refl H) pN
    cases op with
    |Add=>ext f;show Gi c s Y H _ _ v u Q I l r #[_,_,rfl,rfl,q]
    |Sub=>ext f;show Gj c s Y H _ _ v u Q I l r #[_,_,rfl,rfl,q]
    |Mult=>let⟨t,rfl⟩:=wZ (f);show Cq c s Y H _ _ v u Q I l r #[_,_,rfl,rfl,t,q]
    |FloorDiv=>let⟨t,rfl⟩:=wZ (f);show yN c s Y H _ _ v u Q I l r #[_,_,rfl,rfl,t,q]
    |Mod=>let⟨t,rfl⟩:=wZ (f);show Gk c s Y H _ _ v u Q I l r #[_,_,rfl,rfl,t,q]
    |LShift=>let⟨t,rfl⟩:=wZ (f);show Cr c s Y H _ _ v u Q I l r #[_,_,rfl,rfl,t,q]
    |Pow=>let⟨t,rfl⟩:=wZ (f);show Gm c s Y H _ _ v u Q I l r #[_,_,rfl,rfl,t,q]
    |RShift=>let⟨t,rfl⟩:=wZ (f);show Gn c s Y H _ _ v u Q I l r #[_,_,rfl,rfl,t,q]
    |BitAnd=>ext f;show Go c s Y H _ _ v u Q I l r #[_,_,rfl,rfl,q]
    |BitOr=>ext f;show J1 c s Y H _ _ v u Q I l r #[_,_,rfl,rfl,q]
    |BitXor=>ext f;show Gp c s Y H _ _ v u Q I l r #[_,_,rfl,rfl,q]
    |_=>ext f
  |_=>ext k
 |nd V xs=>cases V with
  |lst=>cases op with
   |Add=>cases R with
    |nd O ys=>cases O with
     |lst=>
      let⟨f,e⟩:=wZ (k);ext e;let⟨a,o,N,rfl,M,P,w⟩:=E.items f.1 m F;let⟨b,o',T,rfl,U,Z,S⟩:=C.items f.2.1 m F;cases(P);cases(Z);show Gx c s Y H _ _ v u Q I l r #[a,b,N,T,rfl,rfl,M,U,by rw[w.len,S.len];show aO f.2.2,λp A=>q _ _ (ag A) (nR A (w.append S))]
     |_=>ext k
    |_=>ext k
   |Mult=>cases R with
    |int n=>
     let⟨f,e⟩:=wZ (k);ext e;let⟨a,o,N,rfl,M,P,w⟩:=E.items f.1 m F;cases(P);obtain rfl:=C.rd.int;show Gy c s Y H _ _ v u Q I l r #[a,_,N,rfl,rfl,M,∅,∅,by rw[w.len];show aO f.2.2.2,λp A=>q _ _ (ag A) (nR A (w.rep _))]
    |_=>ext k
   |_=>ext k
  |tup=>ext k
  |_=>ext k
 |str i=>ext k
 |_=>ext k
end J
namespace G
open PySem PySem.Spec PySem.Calls PyProof.Rows L2
meta def Ct:-Int->-Int->Bool
 |[],[]=>Uk
 |[],_::_=>Uj
 |_::_,[]=>Uk
 |a::r,b::t=>if a=b then Ct r t else decide (a<b)
def uG{xs:-Int}{a:-Um}(h:Vals (xs.map V.int) a){i:Nat}(hi:i<xs.length):Σt,a[i]?=B (.int xs[i] t):=by
 let⟨u,e,r⟩:=h.get (by rw[Qc,Qi hi];rfl);let⟨t,rfl⟩:=r;rwa[t,e]
def w4(l b:Up)(c a:-Um)(n E:Nat)(P v:@&Up)(M q:Array (@&Um))(xs ys:-Int)(D:Vals (xs.map V.int) c)(y:Vals (ys.map V.int) a)(k:Nat) :
  ∀i:Nat,c.length-i=k->i<=c.length->i<=a.length->Meets (Builtin.«list.__eq__.loop» #[[.ref l,.ref b,UN i,UN 0],[]])
   (λA R s=>s.heap.get? l=B { cls:=.type "list",dict:=P,data:=.seq c.toArray n,slots:=M }/\s.heap.get? b=B { cls:=.type "list",dict:=v,data:=.seq a.toArray E,slots:=q }/\R (.ok (.ret (.bool (Ct (xs.drop i) (ys.drop i))))) s):=by
 let e1:c.length=xs.length:=by rw[<- D.length];simp
 let e2:a.length=ys.length:=by rw[<- y.length];simp
 induction k with
 |zero=>
  intro i hk O x e w A R s h;let⟨F,g,d,N,S⟩:=s;let⟨o,m,h⟩:=h
  wp_walk using wpAny_loadPart' o,wpAny_loadPart' m
  let f:c.toArray[((i:Nat):Int).toNat]?=L:=by simp;lia
  rw[f]
  wp_walk using wpAny_loadPart' o,wpAny_loadPart' m
  change R (.ok (.ret (.bool (decide (c.toArray.size<a.toArray.size))))) _;let T:xs.drop i=[]:=Si ∅;rw[T] at h;by_cases r:i<a.length
  .rw[QW (by lia:i<ys.length)] at h;rw[decide_eq_true (by simp;lia)];show h
  .rw[Si (by lia:ys.length<=i)] at h;rw[decide_eq_false (by simp;lia)];show h
 |succ k K=>
  intro i hk O x e w A R s h;let⟨F,g,d,N,S⟩:=s;let⟨o,m,h⟩:=h;let C:i<xs.length:=∅
  let⟨t,Q⟩:=uG D C;let f:c.toArray[((i:Nat):Int).toNat]?=B (.int xs[i] t):=by simpa using Q
  rw[QW C] at h;by_cases r:i<a.length
  .let z:i<ys.length:=∅
   let⟨u,I⟩:=uG y z;let j:a.toArray[((i:Nat):Int).toNat]?=B (.int ys[i] u):=by simpa using I
   let H:((i:Int)+1)=((i+1:Nat):Int):=by push_cast;rfl
   rw[QW z] at h
   wp_walk using wpAny_loadPart' o,wpAny_loadPart' m
   rw[f,j];show Ul (PySem.SeqAt.EqAt.int_int _ _ _ _ e w _ _ ?_);by_cases p:xs[i]=ys[i]
   .rw[Ct,if_pos p] at h;rw[beq_iff_eq.mpr p]
    wp_walk
    rw[H]
    show#[plainId_quiet PySem.MeetsSeq3.plain_eq_loop _,codeAny_builtin PySem.MeetsSeq3.entry_eq_loop (by
     rw[Around.under_plainId PySem.MeetsSeq3.plain_eq_loop _];show K (i+1) ∅ ∅ ∅ e w A R _ #[o,m,h])]
   .rw[Ct,if_neg p] at h;rw[beq_eq_false_iff_ne.mpr p]
    wp_walk using wpAny_loadPart' o,wpAny_loadPart' m
    rw[f,j];show Ul (PyProof.Rows.lt_int ?_)
    wp_walk
    show h
  .let j:a.toArray[((i:Nat):Int).toNat]?=L:=by simp;lia
   wp_walk using wpAny_loadPart' o,wpAny_loadPart' m
   rw[f,j]
   wp_walk using wpAny_loadPart' o,wpAny_loadPart' m
   change R (.ok (.ret (.bool (decide (c.toArray.size<a.toArray.size))))) _;rw[Si (by lia:ys.length<=i)] at h;rw[decide_eq_false (by simp;lia)];show h
def w5(l b:Up)(c a:-Um)(n j:Nat)(m i:@&Up)(k f:Array (@&Um))(xs ys:-Int)(r:Vals (xs.map V.int) c)(q:Vals (ys.map V.int) a):Meets (Builtin.«list.__lt__» #[[.ref l,.ref b],[]])
   (λA R s=>s.heap.get? l=B { cls:=.type "list",dict:=m,data:=.seq c.toArray n,slots:=k }/\s.heap.get? b=B { cls:=.type "list",dict:=i,data:=.seq a.toArray j,slots:=f }/\R (.ok (.ret (.bool (Ct xs ys)))) s):=by
 intro e w A R s h;let⟨u,g,d,v,x⟩:=s;let⟨p,o,h⟩:=h;let t:=PySem.AutoSeq1.sub_list_list
 wp_walk using wpAny_loadPart' p,wpAny_loadPart' o
 show#[plainId_quiet PySem.MeetsSeq3.plain_eq_loop _,codeAny_builtin PySem.MeetsSeq3.entry_eq_loop (by
  rw[Around.under_plainId PySem.MeetsSeq3.plain_eq_loop _];show w4 l b c a n j m i k f xs ys r q _ 0 rfl (QM _) (QM _) e w A R _ #[p,o,h])]
def GK{X:Cx}:gN X (compareOp .Lt) (λx y H Q=>Σa b xs ys,x=.ref a/\y=.ref b/\SqL X.K H a (xs.map V.int)/\SqL X.K H b (ys.map V.int)/\X.A.units<cLine/\Q (.bl (Ct xs ys)) H):=by
 intro o s Y H x y v u Q I E P h;let⟨a,b,xs,ys,rfl,rfl,U,O,N,q⟩:=h;cases(E);cases(P);let⟨l,W,C,Z⟩:=I.list U;let⟨c,i,m,S⟩:=I.list O;obtain⟨⟨T,M,w,R⟩,p,t,n,z⟩:=C.isList;obtain⟨⟨r,g,j,k⟩,f,d,D,e⟩:=m.isList;simp only at t z d e;subst t z d e;show PySem.richCompare_meets_room (op:=.Lt) #[_,p,rfl] #[_,f,rfl] PySem.F.slot_list_lt PySem.F.entry_list_lt (PySem.F.args_list_lt_2 _ _) (w5 a b l c n D M g R k xs ys W i)
  #[p,f,show Value.bool (Ct xs ys)≠Value.notImplemented/\_ from#[(λx=>nomatch x),#[.bl (Ct xs ys),H,I,rfl,q]]] N
end G
namespace J
meta def fF:D->@&aD
 |.int i=>B (.inl i)
 |.str x=>B (.inr x)
 |_=>L
def jd:-D->@&(-aD)
 |[]=>B []
 |d::ds=>match fF d,jd ds with
  |some k,B ks=>B (k::ks)
  |_,_=>L
def GL:D->@&(aD ⊕ -aD)
 |.nd .tup ds=>(jd ds).map .inr
 |d=>(fF d).map .inl
def pO:-D->@&(-(aD ⊕ -aD))
 |[]=>B []
 |d::ds=>match GL d,pO ds with
  |some k,B ks=>B (k::ks)
  |_,_=>L
meta def GM:Nat->-(aD ⊕ -aD)->Bool
 |_,[]=>Uj
 |m,.inl _::r=>m%2==0&&GM (m / 2) r
 |m,.inr _::r=>m%2==1&&GM (m / 2) r
def je:D->@&DK
 |.nd .tup ds=>(pO ds).map .inr
 |d=>(fF d).map .inl
meta def aX(ks:-DK)(k:DK):@&Nat:=ks.findIdx? λx=>decide (x=k)
section
variable {K:P9} {H:Hp} {S:Pr}
def nS(h:fF d=B k)(r:Rp K H S d v):v=kV k:=by
 cases d<;>dsimp[fF] at h<;>first|(cases h;done)|(cases h;first|show r.int|show r.str)
theorem pP:∀{ds:-D} {ks:-aD} {vs:-V},jd ds=B ks->RpL K H S ds vs->vs=ks.map kV
 |[],ks,vs,h,r=>by ext h;show r.nil_inv
 |d::ds,ks,vs,h,r=>by
  let⟨y,e,rfl,b,a⟩:=r.cons_inv;delta jd at h
  .ext1 k c e1 e2;ext h;rw[nS e1 b,pP e2 a];rfl
  .ext h
theorem nT:∀{ds:-D} {ks:-(aD ⊕ -aD)} {vs:-V} {m:Nat},pO ds=B ks->RpL K H S ds vs->GM m ks=Uj->TkIts H m ks vs
 |[],ks,vs,m,h,r,hm=>by ext h;show r.nil_inv
 |d::ds,ks,vs,m,h,r,hm=>by
  let⟨y,c,rfl,b,f⟩:=r.cons_inv;delta pO at h
  .ext1 k l e1 e2;ext h
   cases k with
   |inl k=>
    dsimp[GM,Qd,beq_iff_eq] at hm;rwa[c,?_,hm.1,nT e2 f hm.2]
    have:fF d=B k:=by
     delta GL at e1
     .cases e:jd _<;>rw[e] at e1<;>ext e1
     .cases e:fF d with
      |none=>rw[e] at e1;ext e1
      |some z=>rw[e] at e1;ext e1;rfl
    rw[nS this b]
   |inr k=>
    dsimp[GM,Qd,beq_iff_eq] at hm;delta GL at e1
    .ext1 j
     cases e:jd j with
     |none=>rw[e] at e1;ext e1
     |some z=>
      rw[e] at e1;ext e1;let⟨a,o,n,rfl,z_,g,q,i⟩:=b.nd;cases(q);rw[pP e i] at g;rwa[a,c,rfl,hm.1,g,nT e2 f hm.2]
    .cases e:fF d<;>rw[e] at e1<;>ext e1
  .ext h
def nU(h:je d=B k)(r:Rp K H S d v):(Σx,k=.inl x/\v=kV x)\/Σxs b,k=.inr xs/\v=.ref b/\∀m,GM m xs=Uj->TkAt H m xs b:=by
 let j:∀{d:D},(fF d).map Sum.inl=B k->Rp K H S d v->(Σx,k=.inl x/\v=kV x):=λ{d} h r=>by
  cases e:fF d with
  |none=>rw[e] at h;ext h
  |some x=>rw[e] at h;ext h;rwa[x,rfl,nS e r]
 delta je at h
 .ext1 l
  cases e:pO l with
  |none=>rw[e] at h;ext h
  |some i=>
   rw[e] at h;ext h;let⟨a,o,xs,rfl,z_,g,q,f⟩:=r.nd;cases(q);show .inr #[i,a,rfl,rfl,λm c=>#[xs,g,nT e f c]]
 .show .inl (j h r)
end
theorem jf{κ:Type}[DecidableEq κ]:∀(c:-(κ×V)) (k:κ),ig c k=(c.findIdx? λd=>decide (d.1=k)).bind λi=>(c.map (·.2))[i]?
 |[],k=>rfl
 |(a,b)::r,k=>by
  let f:=jf r k;unfold ig at f⊢;rw[Rx,QS];by_cases h:a=k
  .simp[h]
  .dsimp[h,decide_false];rw[f]
   cases e:r.findIdx? λd=>decide (d.1=k) with
   |none=>simp
   |some i=>simp
def ik(t:Nat):DK->Bool
 |.inl _=>t==0
 |.inr xs=>(match t with|0=>Uk|m+1=>GM m xs)
def kA{K:P9}{H:Hp}{S:Pr}{a:Up}{o:HO}{t:Nat}{ks:-DK}{xs:-V}{d:D}{k:DK}{v:V}(g:H a=B o)(q:c7 K o (.dic t ks) xs)(h:je d=B k)(r:Rp K H S d v)(hk:ik t k=Uj) :
  DGet H a v ((aX ks k).bind λi=>xs[i]?):=by
 rcases q with⟨rfl,c,rfl,e1,e2⟩|⟨m,rfl,c,l,rfl,e1,e2⟩
 .rcases nU h r with⟨x,rfl,rfl⟩|⟨e,b,rfl,rfl,j⟩
  .have:=DGet.k (k:=x) g;rw[jf] at this
   let e3:aX ks (.inl x)=c.findIdx? λf=>decide (f.1=x):=by
    delta aX;rw[e1,RS];congr 1;funext p;simp[Sum.inl.injEq]
   rw[e3,e2];show this
  .ext hk
 .rcases nU h r with⟨x,rfl,rfl⟩|⟨e,b,rfl,rfl,j⟩
  .ext hk
  .have:=DGet.t g (j m hk);rw[jf] at this
   let e3:aX ks (.inr e)=c.findIdx? λf=>decide (f.1=e):=by
    delta aX;rw[e1,RS];congr 1;funext p;simp[Sum.inr.injEq]
   rw[e3,e2];show this
def Cu{ks:-DK}{i:Nat}(h:aX ks k=B i):i<ks.length:=by
 unfold aX at h;show(List.findIdx?_eq_some_iff_findIdx_eq.mp h).1
def uH{ks:-DK}{xs:-V}(q:c7 K o (.dic t ks) xs):ks.length=xs.length:=by
 rcases q with⟨rfl,a,rfl,e1,e2⟩|⟨m,rfl,a,b,rfl,e1,e2⟩<;>rw[e1,e2,Qa,Qa]
def j0{ks:-DK}{xs:-V}(a:ks.length=xs.length):((aX ks k).bind λi=>xs[i]?).isSome=(aX ks k).isSome:=by
 cases e:aX ks k with
 |none=>rfl
 |some i=>
  have:=Cu e;rw[QY,Qi ∅];rfl
meta def yP:D->Bool
 |.non=>Uj
 |_=>Uk
meta def KC(b:Bool):D->Bool
 |.bl c=>c==b
 |_=>Uk
def P7:D->Bool
 |.nd (.dic 0 []) _=>Uj
 |_=>Uk
meta def toInts:-D->@&(-Int)
 |[]=>B []
 |.int b::r=>(toInts r).map (b::·)
 |_=>L
theorem jg:∀{ds:-D} {bs:-Int},toInts ds=B bs->ds=bs.map D.int
 |[],bs,h=>by ext h;rfl
 |d::r,bs,h=>by
  cases d with
  |int b=>
   dsimp[toInts] at h
   cases e:toInts r with
   |none=>rw[e] at h;ext h
   |some a=>rw[e] at h;ext h;rw[jg e];rfl
  |_=>ext h
theorem RpL.toInts:∀{ns:-Int} {vs:-V},RpL K H S (ns.map D.int) vs->vs=ns.map V.int
 |[],_,h=>h.nil_inv
 |b::bs,_,h=>by
  let⟨y,a,rfl,r,t⟩:=h.cons_inv;rw[r.int,RpL.toInts t];rfl
def NP(x y:D):@&Bool:=match x with
 |.int i=>(match y with|.int j=>B (decide (i<j))|_=>L)
 |.nd .lst as=>(match y with
  |.nd .lst bs=>(match toInts as with
   |some xs=>(match toInts bs with
    |some ys=>B (G.Ct xs ys)
    |none=>L)
   |none=>L)
  |_=>L)
 |_=>L
def cA(op:UO)(x y:D):@&Bool:=
 match op with
 |.Lt=>NP x y
 |.LtE=>(match x,y with|.int i,.int j=>B (decide (i<=j))|_,_=>L)
 |.Gt=>(match x,y with|.int i,.int j=>B (decide (j<i))|_,_=>L)
 |.GtE=>(match x,y with|.int i,.int j=>B (decide (j<=i))|_,_=>L)
 |.Eq=>if eZ 90 x=Uj/\eZ 90 y=Uj then B (Bz x y) else L
 |.NotEq=>if eZ 90 x=Uj/\eZ 90 y=Uj then B (!Bz x y) else L
 |.In=>(match y with
  |.nd (.dic t ks) _=>(match je x with|some k=>if ik t k=Uj then B (aX ks k).isSome else L|none=>L)
  |_=>L)
 |.NotIn=>(match y with
  |.nd .lst ds=>if eZ 90 x=Uj/\ll 90 ds=Uj then B (!(ds.any λz=>Bz z x)) else L
  |.nd (.dic t ks) _=>(match je x with|some k=>if ik t k=Uj then B (!(aX ks k).isSome) else L|none=>L)
  |_=>L)
 |.Is=>(match y with
  |.non=>B (yP x)
  |_=>L)
 |.IsNot=>(match y with
  |.bl b=>B (!KC b x)
  |_=>L)
abbrev Nv:Pr:=λZ=>False
def GN(K:P9)(op:UO):R2:=λx y H Q=>Σdx O b,Rp K H Nv dx x/\Rp K H Nv O y/\cA op dx O=B b/\Q (.bl b) H
theorem uI(x:D):∀ds:-D,((uE ds).any λz=>PyData.eqv z (py x))=ds.any λz=>Bz z x
 |[]=>by simp[uE]
 |d::ds=>by dsimp[uE,SS,uI x ds];rfl
def nV{X:Cx}(hu:X.A.units+100<cLine)(op:UO):gN X (compareOp op) (GN X.K op):=by
 intro m s Y H x y v u Q I l w h;let⟨F,R,b,f,r,d,q⟩:=h;let hj:X.A.units+1<cLine:=∅
 let z:∀{D:Bool},D=b->EP X m Y Q (.bool D) s:=λe=>#[.bl b,H,I,by rw[e];rfl,q]
 let T:∀(D:Bool),R=.bl D->plainIs v u=Uj/\(v==u)=KC D F:=λD e=>by
  subst e;let ey:=r.bl;subst ey;ext w
  cases F with
  |non=>have e:=f.non;subst e;ext l;rwa[rfl,rfl]
  |bl c=>have e:=f.bl;subst e;ext l;rwa[rfl,by cases c<;>cases D<;>rfl]
  |int i=>have e:=f.int;subst e;let⟨t,rfl⟩:=l;rwa[rfl,rfl]
  |str i=>have e:=f.str;subst e;let⟨t,rfl⟩:=l;rwa[rfl,rfl]
  |scr ns=>let⟨a,rfl,z_⟩:=f.scr;ext l;rwa[rfl,rfl]
  |nd hd W=>let⟨a,o,N,rfl,z_⟩:=f.nd;ext l;rwa[rfl,rfl]
 let V:R=.non->plainIs v u=Uj/\(v==u)=yP F:=λe=>by
  subst e;let ey:=r.non;subst ey;ext w
  cases F with
  |non=>have e:=f.non;subst e;ext l;rwa[rfl,rfl]
  |bl c=>have e:=f.bl;subst e;ext l;rwa[rfl,by cases c<;>rfl]
  |int i=>have e:=f.int;subst e;let⟨t,rfl⟩:=l;rwa[rfl,rfl]
  |str i=>have e:=f.str;subst e;let⟨t,rfl⟩:=l;rwa[rfl,rfl]
  |scr ns=>let⟨a,rfl,z_⟩:=f.scr;ext l;rwa[rfl,rfl]
  |nd hd W=>let⟨a,o,N,rfl,z_⟩:=f.nd;ext l;rwa[rfl,rfl]
 cases op with
 |Lt=>
  replace d:NP F R=B b:=d
  cases F with
  |int i=>cases R with
   |int j=>ext d;obtain rfl:=f.int;obtain rfl:=r.int;show J2 m s Y H _ _ v u Q I l w #[_,_,rfl,rfl,q]
   |_=>ext d
  |nd hd W=>cases hd with
   |lst=>cases R with
    |nd ha hi=>cases ha with
     |lst=>
      dsimp only[NP] at d;ext d d
      .ext1 N hx;ext d d
       .ext1 ys hy;ext d;rw[jg hx] at f;rw[jg hy] at r;let⟨a,o,us,rfl,n1,g1,q1,r1⟩:=f.nd;let⟨a',o',hh,rfl,hg,Z,hc,he⟩:=r.nd;cases(q1);cases(hc);obtain rfl:=r1.toInts;obtain rfl:=he.toInts;show G.GK m s Y H _ _ v u Q I l w #[a,a',N,ys,rfl,rfl,.of g1,.of Z,∅,q]
       .ext d
      .ext d
     |_=>ext d
    |_=>ext d
   |_=>ext d
  |_=>ext d
 |LtE=>
  dsimp[cA] at d;ext d d
  .ext d;obtain rfl:=f.int;obtain rfl:=r.int;show J3 m s Y H _ _ v u Q I l w #[_,_,rfl,rfl,q]
  .ext d
 |Gt=>
  dsimp[cA] at d;ext d d
  .ext d;obtain rfl:=f.int;obtain rfl:=r.int;show J4 m s Y H _ _ v u Q I l w #[_,_,rfl,rfl,q]
  .ext d
 |GtE=>
  dsimp[cA] at d;ext d d
  .ext d;obtain rfl:=f.int;obtain rfl:=r.int;show J5 m s Y H _ _ v u Q I l w #[_,_,rfl,rfl,q]
  .ext d
 |Eq=>
  dsimp[cA] at d;ext d d
  .ext1 C;ext d;obtain⟨⟨as,M⟩,P,a2⟩:=dv I C.1 f l;obtain⟨⟨bs,E⟩,b1,b2⟩:=dv I C.2 r w;show SeqAt.compareEq_reads M E P b1 ∅ (z rfl)
  .ext d
 |NotEq=>
  dsimp[cA] at d;ext d d
  .ext1 C;ext d;obtain⟨⟨as,M⟩,P,a2⟩:=dv I C.1 f l;obtain⟨⟨bs,E⟩,b1,b2⟩:=dv I C.2 r w;show SeqAt.compareNe_reads M E P b1 ∅ (z rfl)
  .ext d
 |In=>
  dsimp[cA] at d;ext d d
  .ext1 t ks vs;ext d d
   .ext1 k S;ext d d
    .ext1 U;ext d;let⟨a,o,N,rfl,z_,g,O,rl⟩:=r.nd;ext w;show NJ ∅ I (kA g O S f U) l λs3 I3=>#[.bl _,H,I3,rfl,?_];rw[j0 (uH O)];show q
    .ext d
   .ext d
  .ext d
 |NotIn=>
  dsimp[cA] at d;ext d d
  .ext1 W;ext d d
   .ext1 C;ext d;obtain⟨⟨as,M⟩,P,a2⟩:=dv I C.1 f l;obtain⟨⟨bs,E⟩,b1,b2⟩:=dv (n:=91) I (by dsimp[eZ,Qd];rwa[rfl,C.2]) r w;dsimp[py,PyData.canLay0,PyData.depth] at E b1 b2;show SeqAt.notIn_list_reads E M b1 P ∅ (z #v[uI])
   .ext d
  .ext1 t ks vs;ext d d
   .ext1 k S;ext d d
    .ext1 U;ext d;let⟨a,o,N,rfl,z_,g,O,rl⟩:=r.nd;ext w;show Ce ∅ I (kA g O S f U) l λs3 I3=>#[.bl _,H,I3,rfl,?_];rw[j0 (uH O)];show q
    .ext d
   .ext d
  .ext d
 |Is=>
  dsimp[cA] at d;ext d d
  .ext d;let⟨p,e⟩:=V rfl;show wpAny_is_plain p (z e)
  .ext d
 |IsNot=>
  dsimp[cA] at d;ext d d
  .ext d;let⟨p,e⟩:=T _ rfl;show wpAny_isNot_plain p (z #v[e])
  .ext d
meta def w6:D->@&Bool
 |.non=>B Uk
 |.bl b=>B b
 |.int i=>B (i != 0)
 |.scr ns=>B (!ns.isEmpty)
 |.nd .lst xs=>B (!xs.isEmpty)
 |.nd .tup xs=>B (!xs.isEmpty)
 |_=>L
def RpL.empty{ds:-D}{vs:-V}(h:RpL K H S ds vs):vs.isEmpty=ds.isEmpty:=by
 have:=h.len
 cases vs<;>cases ds<;>simp_all
def yQ(t:Rp K H S d v)(h:w6 d=B b):B2 K v H b:=by
 cases d with
 |non=>obtain rfl:=t.non;ext h;rfl
 |bl k=>obtain rfl:=t.bl;ext h;rfl
 |int i=>obtain rfl:=t.int;ext h;rfl
 |str x=>ext h
 |scr ns=>
  let⟨a,rfl,g⟩:=t.scr;ext h
  show .inl #[_,g,by cases ns<;>rfl]
 |nd f l=>
  let⟨a,o,e,rfl,z_,g,q,r⟩:=t.nd
  cases f with
  |lst=>ext h;cases(q);show .inl #[e,.of g,#v[r.empty]]
  |tup=>ext h;cases(q);show .inr (.inl #[e,.of g,#v[r.empty]])
  |dic t j=>ext h
  |obj c ns=>ext h
meta def Ow.ch:Ow->Nat->Ow
 |.fz,_=>.fz
 |.own es r,i=>es.getD i r
def nW:Kd->Nat->Kd
 |.sh,_=>.sh
 |.fr k,i=>(match k.ch i with|.fz=>.sh|c=>.fr c)
 |.bo j k,i=>(match k.ch i with|.fz=>.sh|c=>.bo j c)
section
variable {K:P9} {H H' H0:Hp} {S:Pr} {g:Gh}
theorem TrL.len:∀{ds:-D} {es:-Ow} {r:Ow} {xs:-V} {F:Pr},TrL K H S ds es r xs F->xs.length=ds.length
 |[],_,_,_,_,h=>by unfold TrL at h;rw[h.1];rfl
 |d::ds,es,r,xs,F,h=>by
  unfold TrL at h;let⟨y,b,e,c,rfl,z_,y_,x_,a⟩:=h;rw[QI,QI,TrL.len a]
theorem TrL.get:∀{ds:-D} {es:-Ow} {r:Ow} {xs:-V} {F:Pr} {i:Nat} {d:D},TrL K H S ds es r xs F->ds[i]?=B d->Σx a,xs[i]?=B x/\(∀b,a b->F b)/\Tr K H S d (es.getD i r) x a
 |[],_,_,_,_,_,_,h,e=>by simp at e
 |d::ds,es,r,xs,F,0,d',h,e=>by
  unfold TrL at h;let⟨y,k,j,l,rfl,c,z_,g,f⟩:=h;simp at e;subst e
  rwa[y,j,rfl,λb z=>(c b).mpr (.inl z),by cases es<;>simpa using g]
 |d::ds,es,r,xs,F,i+1,d',h,e=>by
  unfold TrL at h;let⟨y,k,j,l,rfl,c,z_,g,f⟩:=h;let⟨x,a,e1,e2,e3⟩:=TrL.get f ↥e
  rwa[x,a,↥e1,λb z=>(c b).mpr (.inr (e2 b z)),by cases es<;>simpa using e3]
def VR.ch{ds:-D}(h:VR K g H0 H kd (.nd hd ds) v):Σa o xs,v=.ref a/\H a=B o/\c7 K o hd xs/\xs.length=ds.length/\∀(i:Nat) d,ds[i]?=B d->Σx,xs[i]?=B x/\VR K g H0 H (nW kd i) d x:=by
 let⟨F,N,m⟩:=h
 let p:∀{M:Pr},(∀b,g b≠L->M b)->Rp K H M (.nd hd ds) v->Σa o xs,v=.ref a/\H a=B o/\c7 K o hd xs/\xs.length=ds.length/\∀(i:Nat) d,ds[i]?=B d->Σx,xs[i]?=B x/\VR K g H0 H .sh d x:=λC r=>by
  let⟨a,o,xs,e,n,l,f,q⟩:=r.nd;rwa[a,o,xs,e,l,f,q.len,λi d e=>?_];let⟨x,e1,e2⟩:=q.getD e;rwa[x,e1,Ju (e2.weak λb z=>C b z)]
 cases kd with
 |sh=>show p (λb z=>.inl z) m.2
 |fr k=>
  let m:Tr K H (Sx g F) _ k v F:=m
  cases k with
  |fz=>
   let⟨a,o,xs,e,l,f,q,E⟩:=p (λb z=>.inl z) m.fz_inv.2;rwa[a,o,xs,e,l,f,q,E]
  |own s r=>
   unfold Tr at m;let⟨a,o,xs,P,e,l,f,T,O,y,t⟩:=m;rwa[a,o,xs,e,l,f,t.len,λi d e=>?_];let⟨x,w,e1,e2,e3⟩:=t.get e;rwa[x,e1,?_];let C:∀b o,H b=B o->¬Sx g F b->¬Sx g w b:=λb o Z n z=>n (z.imp id λz=>(y b).mpr (.inr (e2 b z)))
   change VR K g H0 H (match s.getD i r with|.fz=>.sh|c=>.fr c) d x
   cases u:s.getD i r with
   |fz=>
    rw[u] at e3;show Ju (e3.fz_inv.2.weak λb z=>.inl z)
   |own A R=>
    rw[u] at e3;rwa[w,λb z=>N b ((y b).mpr (.inr (e2 b z))),e3.go (λZ Z Z h=>h) C]
 |bo j k=>
  let⟨S,U,Q,I⟩:=m
  cases k with
  |fz=>
   let⟨a,o,xs,e,l,f,q,E⟩:=p (λb z=>.inl z) I.fz_inv.2;rwa[a,o,xs,e,l,f,q,E]
  |own s r=>
   unfold Tr at I;let⟨a,o,xs,P,e,l,f,T,O,y,t⟩:=I;rwa[a,o,xs,e,l,f,t.len,λi d e=>?_];let⟨x,w,e1,e2,e3⟩:=t.get e;rwa[x,e1,?_]
   change VR K g H0 H (match s.getD i r with|.fz=>.sh|c=>.bo j c) d x
   cases u:s.getD i r with
   |fz=>
    rw[u] at e3;show Ju (e3.fz_inv.2.weak λb z=>.inl z)
   |own A R=>
    rw[u] at e3;rwa[F,N,S,w,λb z=>Q b ((y b).mpr (.inr (e2 b z))),e3]
end
structure Cz where
 sc:UC
 N:-Str
 fn:Str->Bool
abbrev Fn:=-D->@&KD
structure fw where
 fn:Str->@&Fn
 fm:Str->@&(P9->Sp)
 cst:Str->@&D
 cf:Str->@&(-Str)
meta def a9(x:Str):-Str->@&Nat
 |[]=>L
 |y::r=>if x=y then B 0 else(a9 x r).map (·+1)
theorem aP:∀{N:-Str} {i:Nat},a9 x N=B i->N[i]?=B x
 |[],_,h=>by ext h
 |y::r,i,h=>by
  delta a9 at h
  .ext1 e;ext h;simp[e]
  .cases q:a9 x r with
   |none=>rw[q] at h;ext h
   |some j=>
    rw[q] at h;ext h;simpa using aP q
meta def GO(O:UC)(x:Str):Bool:=O.names.lookup x==B .local||O.names.lookup x==B .cell||O.names.lookup x==B .free
meta def mf(c:Cz)(x:Str):Bool:=c.sc.names.lookup x==B .local||(c.fn x&&c.sc.names.lookup x==B .cell)
meta def gO(scope:UC)(x:Str):Bool:=scope.names.lookup x==B .cell
meta def rL(x:Str):Bool:=x.cps.toList.contains 46
meta def mC(x:Str):Str:=#[(x.cps.toList.takeWhile (· != 46)).toArray]
meta def mM(x:Str):Str:=#[((x.cps.toList.dropWhile (· != 46)).drop 1).toArray]
meta def Jv(c m:Str):-D->Bool
 |.nd (.obj c' ns) _::_=>decide (c'=c)&&!ns.contains m
 |_=>Uk
def jh(O:UC)(x:Str):Bool:=O.names.lookup x==B .globalImplicit&&!rL x
def NQ{x:Str}(h:jh sc x=Uj):rL x=Uk:=by
 dsimp[jh,Qd,QZ] at h;show h.2
def nX(h:GO sc x=Uj):JR sc x:=by
 dsimp[GO,Rn,beq_iff_eq] at h;rcases h with(h|h)|h
 .show .inl h
 .show .inr (.inl h)
 .show .inr (.inr h)
meta def nY(x:Str):Bool:=!(x==("__debug__":Str))&&!(x==("__classdict__":Str))
def nZ(K:P9)(U:Fn):Sp:=λvs H Q Z=>Σds g O d,RpL K H (Sg g) ds vs/\MuOk H (Sg g)/\U ds=B (O,d)/\∀v H',Same H H'->VR K g H H' O d v->Q v H'
meta def aV:-Str:=["len","isinstance","int","bool","list","all","range","enumerate","str","sum","min","max","abs","tuple","zip","dict","sorted","reversed","any","set","repr"]
def sG(C:Up)(sp O:Sp):Prop:=∀vs H Q,sp vs H Q E0->∀a dx,H a=L->H dx=L->dx≠a->O (.ref a::vs) (upd (upd H dx (.own a)) a (.ins C dx [])) (λv H2=>v=.non/\Q (.ref a) H2) E0
def il(X:Cx)(x:Str)(U:Fn):Prop:=if rL x=Uj then
 ΣC k f fd ps,QX X.K UB (mC x)=B (B (.ref C))/\Cls X.K C/\ph X.K C (mM x) f/\FnOk X.prog X.w X.K X.mg X.base i9 k f fd ps (nZ X.K U)/\Room k X.A/\Binds X.K fd ps []/\∀ds r,U ds=B r->Jv (mC x) (mM x) ds=Uj else
 (Σk f fd ps,FnOk X.prog X.w X.K X.mg X.base i9 k f fd ps (nZ X.K U)/\Room k X.A/\X.mg x=B (.ref f)/\Q7 X.K (.ref f)=Uj/\Binds X.K fd ps []/\(x==("__debug__":Str))=Uk)\/
 (ΣC k f fd ps O,Mk X.K C f/\FnOk X.prog X.w X.K X.mg X.base i9 k f fd ps O/\Room (k+1) X.A/\X.mg x=B (.ref C)/\Binds X.K fd ps []/\(x==("__debug__":Str))=Uk/\sG C (nZ X.K U) O)
def PK(sp:Sp)(t:TA):TE:=λY H Q=>t Y H λvs H1=>sp vs H1 Q E0
def KH{X:Cx}{t:TA}(o:∀(Y:L2.St) (H:Hp) (Q R:-V->Hp->Prop),t Y H Q->(∀vs H1,Q vs H1->R vs H1)->t Y H R)(h:il X x U)(w:rL x=Uk)(l:Gl X x)(n:PA X (e::es) t)(m:Uv (e::es) X.env=(Uk,eval e X.env)::Uv es X.env)(d:(backTo pos (Uv es X.env)).any (·.1)=Uk) :
  PE X (.Call (.Name x p) (e::es) [] pos) (PK (nZ X.K U) t):=by
 intro b s Y H Q I q;unfold il at h;rw[if_neg (by rw[w];show Qx)] at h;rcases h with⟨k,f,v,ps,F,j,g,hk,i,c⟩|⟨C,k,f,v,ps,D,M,F,j,g,i,c,y⟩
 .show ul F j l g hk i .nil pB n c m d b s Y H Q I (o _ _ _ _ q λvs H1 z=>by rw[Q1];show z)
 .show B6 M F j l g i .nil pB n c m d b s Y H Q I (o _ _ _ _ q λvs H1 z a A E u r=>by rw[Q1];show y vs H1 Q z a A E u r)
structure EC(X:Cx)(Γ:fw):Prop where
 fn:∀x U,Γ.fn x=B U->il X x U
 cf:∀c fs C,Γ.cf c=B fs->QX X.K UB c=B (B (.ref C))->Cls X.K C/\∀a∈fs,NoAttr X.K C a
 fm:∀x sp,Γ.fm x=B sp->Σk f fd ps,FnOk X.prog X.w X.K X.mg X.base i9 k f fd ps (sp X.K)/\Room k X.A/\X.mg x=B (.ref f)/\Q7 X.K (.ref f)=Uj/\Binds X.K fd ps []/\(x==("__debug__":Str))=Uk
 bl:∀x∈aV,X.mg x=L
 units:X.A.units+100<cLine
 gd:X.A.guards=B []
 cst:∀x d,Γ.cst x=B d->Σu v,X.mg x=B u/\RelV v u/\(∀H S,Rp X.K H S d v)/\(x==("__debug__":Str))=Uk
structure aq(X:Cx)(Γ:fw)(c:Cz):Prop where
 sc:X.env.scope=c.sc
 N:X.N=c.N
 fn:∀x,c.fn x=Uj->X.fn x=Uj
 calm:X.calm=Uj
 nd:c.N.Nodup
 tab:EC X Γ
section
variable {X:Cx} {Γ:fw} {c:Cz}
def d9(O:aq X Γ c)(h:jh c.sc x=Uj):Gl X x:=by
 change X.env.scope.names.lookup x=_;rw[O.sc];dsimp[jh,Qd,beq_iff_eq] at h;show h.1
def ji(O:aq X Γ c){x:Str}(h:mf c x=Uj):Es X.env.scope x/\(X.fn x=Uj\/X.env.scope.names.lookup x=B .local):=by
 dsimp[mf,Rn,Qd,beq_iff_eq] at h;rw[O.sc];obtain h|h:=h
 .rwa[.inl h,.inr h]
 .rwa[.inr h.2,.inl (O.fn x h.1)]
def ed(i:Nat)(o:@&(@&Sl)):@&KD:=match o with|some (B s)=>B (pL i s)|_=>L
def jk(c:Cz)(x:Str):@&Nat:=match a9 x c.N with|some i=>if GO c.sc x&&nY x then B i else L|none=>L
def gx(O:aq X Γ c){i:Nat}(a:jk c x=B i)(pos:Pos):SndE X (λZ=>ed i Z[i]?) (.Name x pos):=by
 intro Z m d h g Y H Q f q;delta jk at a
 .ext1 j k;ext a a
  .ext1 b;ext a;dsimp[Qd,nY,QZ] at b;dsimp only[ed] at h;ext h h
   .ext1 l e;ext h;let⟨v,e1,e2⟩:=f.get e;show aB (rQ (by rw[O.N];show aP k) (by rw[O.sc];show nX b.1) b.2.1 b.2.2) #[v,e1,q v H (Same.refl H) e2]
   .ext h
  .ext a
 .ext a
def KI(i:Int)(j:Nat)(pos:Pos):SndE X (λW=>B (.sh,.int i)) (.Constant (.int i) j pos):=by
 intro Z b d h g Y H Q a q;ext h;show aB FR (q _ H (Same.refl H) pN)
def NR(i:Bool)(j:Nat)(pos:Pos):SndE X (λW=>B (.sh,.bl i)) (.Constant (.bool i) j pos):=by
 intro Z b d h g Y H Q a q;ext h;show aB JS (q _ H (Same.refl H) EB)
def KJ(j:Nat)(pos:Pos):SndE X (λW=>B (.sh,.non)) (.Constant .none j pos):=by
 intro Z b d h g Y H Q a q;ext h;show aB FT (q _ H (Same.refl H) GI)
def KL(x:Str)(j:Nat)(pos:Pos):SndE X (λW=>B (.sh,.str x)) (.Constant (.str x) j pos):=by
 intro Z b d h g Y H Q a q;ext h;show aB FU (q _ H (Same.refl H) KA)
def KM(O:aq X Γ c)(f:jh c.sc x=Uj)(e:Γ.cst x=B d)(pos:Pos):SndE X (λW=>B (.sh,d)) (.Name x pos):=by
 intro Z m k h g Y H Q l q;ext h;let⟨u,v,j,i,a,b⟩:=O.tab.cst x d e;show aB (BL (d9 O f) j i b) (q v H (Same.refl H) (Ju (a H _)))
theorem two{d fb:Ro->@&KD}(k:SndE X d a)(f:SndE X fb b)(h:d Z=B (ka,da))(i:fb Z=B (kb,db)){R:V->V->Hp->Prop}(c:SE X.K g Z Y H)(q:∀x y H',Same H H'->VR X.K g H H' ka da x->VR X.K g H H' kb db y->R x y H'):wE X a Y H λx H1=>wE X b Y H1 λy H2=>R x y H2:=
 k Z ka da h g Y H _ c λx H1 s1 j=>f Z kb db i g Y H1 _ (c.same s1) λy H2 s2 e=>q x y H2 (s1.trans s2) (j.same s2) (e.older s1)
def Cv(op:UD)(a b:@&KD):@&KD:=match a,b with
 |some x,B y=>d8 op x y
 |_,_=>L
def KN{e fb:Ro->@&KD}(o:SndE X e a)(j:SndE X fb b):SndE X (λZ=>Cv op (e Z) (fb Z)) (.BinOp a op b pos):=by
 intro Z f d h g Y H Q c q;dsimp only[Cv] at h;ext h h
 .ext1 x y k m;show aB (Ew (yO op) aC aC) (two o j k m c λu t p s i n=>#[g,H,x,y,f,d,c.mu,s,i,n,h,λv l s2 r=>q v l (s.trans s2) (r.older s)])
 .ext h
def n4(op:UO)(a b:@&KD):@&Bool:=match a,b with
 |some (_,x),B (_,y)=>cA op x y
 |_,_=>L
meta def bV(o:@&Bool):@&KD:=o.map λb=>(.sh,.bl b)
def KO{j fb:Ro->@&KD}{a b:Uo}{op:UO}(O:aq X Γ c)(k:UL op b=Uk)(t:SndE X j a)(l:SndE X fb b):SndE X (λZ=>bV (n4 op (j Z) (fb Z))) (.Compare a [op] [b] pos):=by
 intro Z A d h g Y H Q o q
 cases e:n4 op (j Z) (fb Z) with
 |none=>dsimp[e,bV] at h;ext h
 |some r=>
  dsimp[e,bV] at h;ext h;delta n4 at e
  .ext1 v x u y m n;show aB (B0 (nV O.tab.units op) aC aC k) (two t l m n o λz w p s f i=>#[x,y,r,f.rd,i.rd,e,q _ p s EB])
  .ext e
def c5{h fb:Ro->@&KD}{a b:Uo}{op:UO}(O:aq X Γ c)(i:UL op b=Uk)(o:SndE X h a)(j:SndE X fb b):SndT X (λZ=>n4 op (h Z) (fb Z)) (.Compare a [op] [b] pos):=by
 intro Z r d g Y H Q m q;dsimp only[n4] at d;ext d d
 .ext1 t x p y k l;show yM (B1 (nV O.tab.units op) aC aC i) (two o j k l m λv u n s e f=>#[x,y,r,e.rd,f.rd,d,r,rfl,q n s])
 .ext d
def jl(op O:UO)(a b z:@&KD):@&Bool:=match a,b with
 |some (_,x),B (_,y)=>(match cA op x y with
  |some Uj=>(match z with|some (_,z)=>cA O y z|none=>L)
  |some Uk=>B Uk
  |none=>L)
 |_,_=>L
def sH{o fb n:Ro->@&KD}(p:SndE X o a)(k:SndE X fb b)(C:SndE X n e)(h:jl op op' (o Z) (fb Z) (n Z)=B r){Q:VK}(f:SE X.K g Z Y H)(q:∀H',Same H H'->Q (.bl r) H') :
  yh (GN X.K op) (GN X.K op') (wE X a) (wE X b) (wE X e) Y H Q:=by
 delta jl at h
 .ext1 E x D y l m;ext h h
  .ext1 j;ext h h
   .ext1 t z u;show two p k l m f λA w H' s d c=>#[x,y,Uj,d.rd,c.rd,j,Uj,rfl,?_];show wR (C Z t z u g Y H' _ (f.same s) λF v s2 i=>#[y,z,r,(c.same s2).rd,i.rd,h,q v (s.trans s2)])
   .ext h
  .ext1 j;ext h;show two p k l m f λA w H' s d c=>#[x,y,Uk,d.rd,c.rd,j,Uk,rfl,wQ (q H' s)]
  .ext h
 .ext h
def Cw{j fb i:Ro->@&KD}(O:aq X Γ c)(k:UL op' e=Uk)(p:SndE X j a)(l:SndE X fb b)(o:SndE X i e):SndE X (λZ=>bV (jl op op' (j Z) (fb Z) (i Z))) (.Compare a [op,op'] [b,e] pos):=by
 intro Z t d h g Y H Q m q
 cases f:jl op op' (j Z) (fb Z) (i Z) with
 |none=>dsimp[f,bV] at h;ext h
 |some r=>
  dsimp[f,bV] at h;ext h;show aB (yj (nV O.tab.units op) (nV O.tab.units op') aC aC aC k) (sH p l o f m λn s=>q _ n s EB)
def eO(a:@&KD):@&Bool:=match a with|some (_,d)=>w6 d|none=>L
def KP{j:Ro->@&KD}(p:SndE X j a):SndE X (λZ=>bV ((eO (j Z)).map (!·))) (.UnaryOp .Not a pos):=by
 intro Z z d h g Y H Q o q
 cases e:eO (j Z) with
 |none=>dsimp[e,bV] at h;ext h
 |some b=>
  dsimp[e,bV] at h;ext h;delta eO at e
  .ext1 k d e1;intro c s I;show PyProof.Rows.UnaryOp_ (a8 (p Z _ _ e1 g Y H (λv f=>B2 X.K v f b/\Q (.bl (!b)) f) o (λv f s u=>#[yQ u.rd e,q _ f s EB]) c s I) λv s1 ⟨x,y,l,m,w,r⟩=>?_);show PyProof.Rows.not_of (a8 (yk c s1 Y y x v (λk i=>Q (.bl (!k)) i) l m #[b,w,r]) λk s2 ⟨i,t,n⟩=>#[.bl (!k),i,t,rfl,n])
  .ext e
def dL{c:Ro->@&Bool}(i:SndT X c a):SndT X (λZ=>(c Z).map (!·)) (.UnaryOp .Not a pos):=by
 intro Z r h g Y H Q d q
 cases e:c Z with
 |none=>dsimp[e] at h;ext h
 |some b=>
  dsimp[e] at h;ext h;show yM (FW jb) (i Z b e g Y H _ d λf s=>q f s)
def yR{c:Ro->@&KD}{a:Uo}(l:SndE X c a)(f:∀b,isTrue a X.env b=(do let v <- b;standAt a.pos;holding [v] (truthy v))):SndT X (λZ=>eO (c Z)) a:=by
 intro Z r h g Y H Q i q;dsimp only[eO] at h;ext h h
 .ext1 k d e;show yM (ym aC f) (l Z _ _ e g Y H _ i λv j s m=>#[r,yQ m.rd h,q j s])
 .ext h
meta def MN(t:@&Bool)(a b:@&KD):@&KD:=match t with|some Uj=>a|some Uk=>b|none=>L
def NS{j:Ro->@&Bool}{m fb:Ro->@&KD}(l:SndT X j t)(o:SndE X m a)(n:SndE X fb b):SndE X (λZ=>MN (j Z) (m Z) (fb Z)) (.IfExp t a b pos):=by
 intro Z k d h g Y H Q c q;dsimp only[MN] at h;ext h h
 .ext1 e;show aB (o9 jb aC aC) (l Z _ e g Y H _ c λi s1=>wR (o Z k d h g Y i Q (c.same s1) λv f s2 r=>q v f (s1.trans s2) (r.older s1)))
 .ext1 e;show aB (o9 jb aC aC) (l Z _ e g Y H _ c λi s1=>wQ (n Z k d h g Y i Q (c.same s1) λv f s2 r=>q v f (s1.trans s2) (r.older s1)))
 .ext h
meta def ah:Uo->Bool
 |.Starred ..=>Uk
 |_=>Uj
def am(h:ah e=Uj):Uv (e::es) env=(Uk,eval e env)::Uv es env:=by
 cases e<;>first|rfl|cases h
def bZ{es:-Uo}(h:es.all ah=Uj):(backTo pos (Uv es env)).any (·.1)=Uk:=by
  let c:∀es:-Uo,es.all ah=Uj->∀p∈Uv es env,p.1=Uk:=by
    intro es
    induction es with
    |nil=>intro _ p b;ext b
    |cons e es f=>
      intro h p b;dsimp[Q3,Qd] at h;rw[am h.1] at b;obtain rfl|b:=Qf.mp b
      . rfl
      . show f h.2 p b
  let a:=c es h
  cases e:Uv es env with
  |nil=>rfl
  |cons p r=>
    rw[e] at a
    let g:∀q∈backTo pos (p::r),q.1=Uk:=by
      intro q hq;unfold backTo at hq
      first
        |show a q hq
        | (dsimp[Qv,Qf] at hq
           first
             |(let⟨z,d,rfl⟩:=hq;show a z ↥d)
             | (obtain rfl|hq:=hq
                . show a p ∎
                . first
                    |show a q (by simp[hq])
                    |(let⟨z,d,rfl⟩:=hq;show a z (by simp[d]))))
    rw[TN];intro q hq;rw[g q hq];decide
meta def ca(a:@&KD)(r:@&(-KD)):@&(-KD):=match a,r with|some x,B xs=>B (x::xs)|_,_=>L
def ip:kg X (λW=>B []) []:=by
 intro Z a h g Y H Q b q;ext h;show li eM (q [] H (Same.refl H) .nil)
def dM{f:Ro->@&KD}{fr:Ro->@&(-KD)}(i:ah e=Uj)(t:SndE X f e)(n:kg X fr es):kg X (λZ=>ca (f Z) (fr Z)) (e::es):=by
 intro Z p h g Y H Q a q;dsimp only[ca] at h;ext h h
 .ext1 x s e1 e2;ext h;let⟨k,d⟩:=x;show li (bB aC dI (am i)) (t Z k d e1 g Y H _ a λv u s1 l=>?_);let⟨m,b,c⟩:=l;show n Z s e2 (g.plus m) Y u _ (a.plus s1 b c.dom) λj o s2 r=>q (v::j) o (s1.trans s2) (.cons s1 s2 b c r)
 .ext h
def VRs.two(h:VRs K g H0 H [(k,d),(k',d')] vs):Σv f,vs=[v,f]/\VR K g H0 H k d v/\VR K g H0 H k' d' f:=by
 let⟨F,i,y,s,j,u,rfl,l,q,n,z,r,c,t,rfl,a,o,m,rfl,p⟩:=h;let e:∀b,F b↔j b\/c b:=λb=>(l b).trans #[λz=>z.imp id λz=>((a b).mp z).elim id λz=>absurd z (p b),λz=>z.imp id λz=>(a b).mpr (.inl z)];rwa[y,z,rfl,#[j,λb z=>i b ((e b).mpr (.inl z)),n.go (λZ Z h=>h) λb Z Z z=>(e b).mpr (.inl z)],#[c,λb z=>i b ((e b).mpr (.inr z)),m.go (λZ Z h=>h) λb Z Z z=>(e b).mpr (.inr z)]]
end
mutual
noncomputable def Ow.le:Ow->Ow->Bool
 |.fz,_=>Uj
 |.own es r,.own es' r'=>Ow.les es es'&&Ow.le r r'
 |.own _ _,.fz=>Uk
noncomputable def Ow.les:-Ow->-Ow->Bool
 |[],[]=>Uj
 |a::as,b::bs=>Ow.le a b&&Ow.les as bs
 |_,_=>Uk
end
theorem Ow.les_hd:∀{es c:-Ow} {r d:Ow},Ow.les es c=Uj->Ow.le r d=Uj->(es.headD r).le (c.headD d)=Uj/\Ow.les es.tail c.tail=Uj
 |[],[],_,_,_,h=>#[h,rfl]
 |a::as,b::bs,_,_,h,_=>QP.mp h
 |[],_::_,_,_,h,_=>by ext h
 |_::_,[],_,_,h,_=>by ext h
section
variable {K:P9} {H:Hp} {S:Pr}
mutual
theorem Tr.ofIm:∀{d:D} {k:Ow} {v:V},uC d=Uj->Rp K H S d v->Tr K H S d k v (λZ=>False)
 |.non,_,_,_,h=>by delta Tr;rwa[λZ z=>z,h]
 |.bl _,_,_,_,h=>by delta Tr;rwa[λZ z=>z,h]
 |.int _,_,_,_,h=>by delta Tr;rwa[λZ z=>z,h]
 |.str _,_,_,_,h=>by delta Tr;rwa[λZ z=>z,h]
 |.scr _,_,_,i,_=>by simp[uC] at i
 |.nd hd ds,.fz,_,_,h=>by delta Tr;rwa[λZ z=>z,h]
 |.nd hd ds,.own es r,v,i,h=>by
  rw[uC,Qd] at i;let c:hd.mu=Uk:=by simpa using i.1
  unfold Rp at h;delta Tr;let⟨a,o,f,e,n,g,q,t⟩:=h;rwa[a,o,f,λZ=>False,e,g,q,λZ z=>z,λZ=>n,λb=>#[λz=>z.elim,λz=>z.elim (λz=>by rw[c] at z;cases z.1) id],TrL.ofIm i.2 t]
theorem TrL.ofIm:∀{ds:-D} {es:-Ow} {r:Ow} {vs:-V},Cm ds=Uj->RpL K H S ds vs->TrL K H S ds es r vs (λZ=>False)
 |[],_,_,_,_,h=>by delta TrL;rwa[h.nil_inv,λZ z=>z]
 |d::ds,es,r,vs,i,h=>by
  rw[Cm,Qd] at i;let⟨y,a,rfl,e,c⟩:=h.cons_inv;delta TrL;rwa[y,a,_,_,rfl,λb=>#[λz=>z.elim,λz=>z.elim id id],λZ z=>z.elim,Tr.ofIm i.1 e,TrL.ofIm i.2 c]
end
def Tr.leaf{S':Pr}(hd:∀h ds,d≠.nd h ds)(h:Tr K H S d c v F)(a:∀b,S' b->H b=L\/S b):Tr K H S' d k v (λZ=>False):=by
 cases d with
 |nd f ds=>show absurd rfl (hd f ds)
 |_=>
  unfold Tr at h⊢;rwa[λZ z=>z,h.2.go λb o n e=>#[e,λz=>(a b z).elim (λq=>by rw[e] at q;ext q) n]]
mutual
theorem Tr.part:∀{d:D} {k c:Ow} {v:V} {F:Pr},k.le c=Uj->Tr K H S d c v F->ΣF2:Pr,(∀b,F2 b->F b)/\∀S':Pr,(∀b,S' b->H b=L\/(S b/\(F b->F2 b)))->Tr K H S' d k v F2
 |.non,_,_,_,_,_,t=>#[_,λZ z=>z.elim,λS' i=>t.leaf (λZ Z e=>nomatch e) λb z=>(i b z).imp id And.left]
 |.bl _,_,_,_,_,_,t=>#[_,λZ z=>z.elim,λS' i=>t.leaf (λZ Z e=>nomatch e) λb z=>(i b z).imp id And.left]
 |.int _,_,_,_,_,_,t=>#[_,λZ z=>z.elim,λS' i=>t.leaf (λZ Z e=>nomatch e) λb z=>(i b z).imp id And.left]
 |.str _,_,_,_,_,_,t=>#[_,λZ z=>z.elim,λS' i=>t.leaf (λZ Z e=>nomatch e) λb z=>(i b z).imp id And.left]
 |.scr _,_,_,_,_,_,t=>#[_,λZ z=>z.elim,λS' i=>t.leaf (λZ Z e=>nomatch e) λb z=>(i b z).imp id And.left]
 |.nd hd ds,.fz,c,v,F,_,t=>by
  rwa[λZ=>False,λZ z=>z.elim,λS' i=>.fz ?_];let r:Rp K H (λb=>S' b/\H b≠L) (.nd hd ds) v:=t.rp λb z=>(i b z.1).elim (λq=>absurd q z.2) λq=>#[q.1,q.2];show r.go λb o n e=>#[e,λz=>n #[z,by rw[e];show λh=>by cases h]]
 |.nd hd ds,.own es r,.fz,_,_,l,_=>by simp[Ow.le] at l
 |.nd hd ds,.own es r,.own es' r',v,F,l,t=>by
  rw[Ow.le,Qd] at l;unfold Tr at t;let⟨a,o,A,C,e,g,q,s,u,m,x⟩:=t;let⟨G,p,y⟩:=TrL.part l.1 l.2 x;rwa[λb=>(hd.mu=Uj/\b=a)\/G b,λb z=>(m b).mpr (z.imp id (p b)),λS' i=>?_];delta Tr;rwa[a,o,A,G,e,g,q,λj z=>s j (p a z),λj z=>(i a z).elim (λq=>by rw[g] at q;ext q) λq=>u j q.1,λb=>Iff.rfl,y S' λb z=>(i b z).imp id λq=>#[q.1,λf=>?_]];show(q.2 ((m b).mpr (.inr f))).elim (λw=>absurd f (by rw[w.2];show s w.1)) id
theorem TrL.part:∀{ds:-D} {es a:-Ow} {r h:Ow} {vs:-V} {F:Pr},Ow.les es a=Uj->r.le h=Uj->TrL K H S ds a h vs F->ΣF2:Pr,(∀b,F2 b->F b)/\∀S':Pr,(∀b,S' b->H b=L\/(S b/\(F b->F2 b)))->TrL K H S' ds es r vs F2
 |[],_,_,_,_,_,_,_,_,t=>#[λZ=>False,λZ z=>z.elim,λS' Z=>by unfold TrL at t⊢;rwa[t.1,λZ z=>z]]
 |d::ds,es,a,r,h,vs,F,l1,l2,t=>by
  unfold TrL at t;let⟨y,p,x,F2,e,c,g,v,u⟩:=t;let k:=Ow.les_hd l1 l2;let⟨m,i,s⟩:=Tr.part k.1 v;let⟨l,b1,b2⟩:=TrL.part k.2 l2 u;rwa[λb=>m b\/l b,λb z=>(c b).mpr (z.imp (i b) (b1 b)),λS' j=>?_];delta TrL;rwa[y,p,m,l,e,λb=>Iff.rfl,λb n o=>g b (i b n) (b1 b o),s S' λb z=>(j b z).imp id λq=>#[q.1,λf=>?_],b2 S' λb z=>(j b z).imp id λq=>#[q.1,λf=>?_]]
  .show(q.2 ((c b).mpr (.inl f))).elim id λw=>absurd (b1 b w) (g b f)
  .show(q.2 ((c b).mpr (.inr f))).elim (λw=>absurd f (g b (i b w))) id
end
end
def bR(k:Ow)(p:KD):Bool:=match k with
 |.fz=>pK p.1 p.2
 |k=>(match p.1 with|.fr c=>k.le c|_=>Uk)||uC p.2
def pQ:-Ow->Ow->-KD->Bool
 |_,_,[]=>Uj
 |es,r,p::ps=>bR (es.headD r) p&&pQ es.tail r ps
section
variable {K:P9} {H H' H0:Hp} {g:Gh} {Ft F:Pr}
def VR1.fit{p:KD}(h:bR k p=Uj)(m:MuOk H (Sx g Ft))(hd:∀b,F b->g b=L)(t:∀b,F b->Ft b)(r:VR1 K H g Ft p.1 p.2 v F):ΣF2:Pr,(∀b,F2 b->F b)/\∀S':Pr,(∀b,S' b->H b=L\/g b≠L\/F2 b\/(Ft b/\¬F b))->Tr K H S' p.2 k v F2:=by
 let⟨l,d⟩:=p
 cases k with
 |fz=>
  rwa[λZ=>False,λb z=>z.elim,λS' a=>.fz ?_]
  let j:Rp K H (λb=>S' b/\H b≠L) d v:=by
   cases l with
   |sh=>
    show r.2.weak λb z=>?_;obtain q|q|q|q:=a b z.1
    .show absurd q z.2
    .show .inl q
    .show q.elim
    .show .inr q.1
   |fr c=>
    show Tr.rp (λb z=>?_) r;obtain q|q|q|q:=a b z.1
    .show absurd q z.2
    .rwa[.inl q,λu=>q (hd b u)]
    .show q.elim
    .rwa[.inr q.1,q.2]
   |bo i c=>
    show r.rd.im (λb z=>?_) h;obtain q|q|q|q:=a b z.1
    .show absurd q z.2
    .show m b (.inl q)
    .show q.elim
    .show m b (.inr q.1)
  show j.go λb o n e=>#[e,λz=>n #[z,by rw[e];show λh=>by cases h]]
 |own x y=>
  obtain h|h:=Rn _ _▸(h)
  .cases l with
   |sh=>ext h
   |bo i c=>ext h
   |fr c=>
    let⟨F2,s,w⟩:=Tr.part h r;rwa[F2,s,λS' a=>w S' λb z=>?_];obtain q|q|q|q:=a b z
    .show .inl q
    .show .inr #[.inl q,λf=>absurd (hd b f) q]
    .show .inr #[.inr (t b (s b q)),λZ=>q]
    .show .inr #[.inr q.1,λf=>absurd f q.2]
  .rwa[λZ=>False,λb z=>z.elim,λS' a=>.ofIm h ?_]
   let j:Rp K H (λb=>S' b/\H b≠L) d v:=by
    show r.rd.im (λb z=>?_) h;obtain q|q|q|q:=a b z.1
    .show absurd q z.2
    .show m b (.inl q)
    .show q.elim
    .show m b (.inr q.1)
   show j.go λb o n e=>#[e,λz=>n #[z,by rw[e];show λh=>by cases h]]
theorem VRL.fit:∀{kds:-KD} {es:-Ow} {r:Ow} {vs:-V} {F:Pr},pQ es r kds=Uj->MuOk H (Sx g Ft)->(∀b,F b->g b=L)->(∀b,F b->Ft b)->VRL K H g Ft kds vs F->
  Σd:Pr,(∀b,d b->F b)/\∀c:Pr,(∀b,c b->H b=L\/g b≠L\/d b\/(Ft b/\¬F b))->TrL K H c (kds.map (·.2)) es r vs d
 |[],es,r,vs,F,_,_,_,_,h=>#[λZ=>False,λb z=>z.elim,λc f=>by unfold Sb TrL;rwa[h.1,λb z=>z]]
 |p::ps,es,r,vs,F,hf,m,hd,hs,h=>by
  let⟨y,o,v,d,rfl,a,i,u,s⟩:=h;unfold pQ at hf;rw[Qd] at hf;let⟨k,e,t⟩:=VR1.fit hf.1 m (λb z=>hd b ((a b).mpr (.inl z))) (λb z=>hs b ((a b).mpr (.inl z))) u;let⟨j,b1,b2⟩:=VRL.fit hf.2 m (λb z=>hd b ((a b).mpr (.inr z))) (λb z=>hs b ((a b).mpr (.inr z))) s;rwa[λb=>k b\/j b,λb z=>(a b).mpr (z.imp (e b) (b1 b)),λc f=>?_];delta TrL;rwa[y,o,k,j,rfl,λb=>Iff.rfl,λb l n=>i b (e b l) (b1 b n),t c λb z=>?_,b2 c λb z=>?_]
  .obtain q|q|(q|q)|q:=f b z
   .show .inl q
   .show .inr (.inl q)
   .show .inr (.inr (.inl q))
   .show .inr (.inr (.inr #[hs b ((a b).mpr (.inr (b1 b q))),λz=>i b z (b1 b q)]))
   .show .inr (.inr (.inr #[q.1,λz=>q.2 ((a b).mpr (.inl z))]))
  .obtain q|q|(q|q)|q:=f b z
   .show .inl q
   .show .inr (.inl q)
   .show .inr (.inr (.inr #[hs b ((a b).mpr (.inl (e b q))),λz=>i b (e b q) z]))
   .show .inr (.inr (.inl q))
   .show .inr (.inr (.inr #[q.1,λz=>q.2 ((a b).mpr (.inr z))]))
def VRs.node{kds:-KD}{hd:Hd}(w:pQ es r kds=Uj)(m:MuOk H0 (Sg g))(s:Same H0 H)(h:VRs K g H0 H kds vs)(a:H p=L)(u:c7 K o hd vs)(j:hd.mu=Uj) :
  VR K g H0 (upd H p o) (.fr (.own es r)) (.nd hd (kds.map (·.2))) (.ref p):=by
 let⟨F,l,f⟩:=h
 let d:∀b,F b->g b=L:=λb z=>by
  cases e:g b with
  |none=>rfl
  |some i=>
   let⟨o,q,z_⟩:=m b (by rw[Sg,e];show λh=>by ext h);rw[l b z] at q;ext q
 let x:MuOk H (Sx g F):=λb z=>z.elim (λz=>m.same s b z) (λz=>f.dom b z);let⟨c,t,y⟩:=f.fit w x d λb z=>z
 let v:¬c p:=λz=>by
  let⟨o,q,z_⟩:=f.dom p (t p z);rw[a] at q;ext q
 rwa[λb=>b=p\/c b,λb z=>z.elim (λz=>z▸s.free a) λz=>l b (t b z),?_];change Tr _ _ _ _ _ _ _;delta Tr;rwa[p,o,vs,c,rfl,al,u,λZ=>v,λh=>by (rw[j] at h;ext h),λb=>#[λz=>z.imp (λz=>#[j,z]) id,λz=>z.imp (λz=>z.2) id],?_];show(y (λb=>g b≠L\/c b) λb z=>.inr (z.imp id λz=>.inl z)).go (λb k Z e=>ag a b k e) λb k e n z=>?_;obtain z|z|z:=z
 .show n (.inl z)
 .subst z;rw[a] at e;ext e
 .show n (.inr z)
def VRs.tupO{kds:-KD}(u:pQ es r kds=Uj)(m:MuOk H0 (Sg g))(s:Same H0 H)(h:VRs K g H0 H kds vs)(c:H p=L) :
  VR K g H0 (upd H p (.tup vs)) (.fr (.own es r)) (.tup (kds.map (·.2))) (.ref p):=by
 let⟨F,k,f⟩:=h
 let d:∀b,F b->g b=L:=λb z=>by
  cases e:g b with
  |none=>rfl
  |some i=>
   let⟨o,q,z_⟩:=m b (by rw[Sg,e];show λh=>by ext h);rw[k b z] at q;ext q
 let v:MuOk H (Sx g F):=λb z=>z.elim (λz=>m.same s b z) (λz=>f.dom b z);let⟨a,l,w⟩:=f.fit u v d λb z=>z
 let t:¬a p:=λz=>by
  let⟨o,q,z_⟩:=f.dom p (l p z);rw[c] at q;ext q
 rwa[a,λb z=>k b (l b z),?_];change Tr _ _ _ _ _ _ _;delta Tr
 rwa[p,_,vs,a,rfl,al,rfl,(λh=>nomatch h),λZ z=>?_,λb=>#[λz=>.inr z,λz=>z.elim (λz=>nomatch z.1) id],?_]
 .obtain z|z:=z
  .let⟨o,q,z_⟩:=m.same s p z;rw[c] at q;ext q
  .show t z
 .show(w (λb=>g b≠L\/a b) λb z=>.inr (z.imp id λz=>.inl z)).go (λb j Z e=>ag c b j e) λb j e n z=>n z
end
def sI(k:Ow)(a:@&(-KD)):@&KD:=match a with
 |some kds=>(match k with|.own es r=>if pQ es r kds=Uj/\kds.length<=100000 then B (.fr (.own es r),.lst (kds.map (·.2))) else L|.fz=>L)
 |none=>L
def jm(k:Ow)(a:@&(-KD)):@&KD:=match a with
 |some kds=>(match k with
  |.own es r=>if pQ es r kds=Uj/\kds.length<=100000 then B (.fr (.own es r),.tup (kds.map (·.2))) else L
  |.fz=>if(kds.all λp=>pK p.1 p.2)=Uj/\kds.length<=100000 then B (.sh,.tup (kds.map (·.2))) else L)
 |none=>L
section
variable {X:Cx} {Γ:fw} {c:Cz}
def VRs.len{kds:-KD}{vs:-V}(h:VRs K g H0 H kds vs):vs.length=kds.length:=by
 have:=h.rd.len;rw[Qa] at this;show this
def KQ{f:Ro->@&(-KD)}(l:kg X f es):SndE X (λZ=>sI k (f Z)) (.List es pos):=by
 intro Z n d h g Y H Q i q;dsimp only[sI] at h;ext h h
 .ext1 a e;ext h h
  .ext h h
   .ext1 j;ext h;show aB (Gs dI) (l Z a e g Y H _ i λm o s1 b=>#[by rw[b.len];show aO j.2,λp c=>?_]);show q _ _ (s1.trans (ag c)) (b.node j.1 i.mu s1 c rfl rfl)
   .ext h
  .ext h
 .ext h
def KR{f:Ro->@&(-KD)}(l:kg X f es):SndE X (λZ=>jm k (f Z)) (.Tuple es n pos):=by
 intro Z r d h g Y H Q i q;dsimp only[jm] at h;ext h h
 .ext1 c e;ext h h
  .ext h h
   .ext1 j;ext h;show aB (nJ dI) (l Z c e g Y H _ i λm o s1 a=>#[by rw[a.len];show aO j.2,λp b=>?_]);show q _ _ (s1.trans (ag b)) (a.tupO j.1 i.mu s1 b)
   .ext h
  .ext h h
   .ext1 j;ext h;show aB (nJ dI) (l Z c e g Y H _ i λm o s1 a=>#[by rw[a.len];show aO j.2,λp b=>?_]);show q _ _ (s1.trans (ag b)) ((GJ (i.mu.same s1) b (a.sh j.1 i.mu s1)).older s1)
   .ext h
 .ext h
meta def eP:Uo->Bool
 |.Slice ..=>Uk
 |_=>Uj
def dw(h:eP b=Uj):ur b:=by
 intro o i
 cases b<;>first|rfl|cases h
def GP(z:Str)(i:Int):@&Str:=(L2.sn z.cps.toList i).map λc=>#[[c].toArray]
def MP(k:Kd)(xs:-D)(i:Int):@&KD:=match jY xs.length i with|some j=>(xs[j]?).map λd=>(nW k j,d)|none=>L
def NT(k:Kd)(x:D)(i:Int):@&KD:=match x with
 |.nd hd xs=>(match hd with|.lst=>MP k xs i|.tup=>MP k xs i|_=>L)
 |.scr ns=>(L2.sn ns i).map λd=>(.sh,.int d)
 |.str z=>if z.length<=100000 then(GP z i).map λd=>(.sh,.str d) else L
 |_=>L
meta def GQ(x:D):@&(Nat×-DK×-D):=match x with
 |.nd hd xs=>(match hd with|.dic t ks=>B (t,ks,xs)|_=>L)
 |_=>L
def sJ(k:Kd)(p:Nat×-DK×-D)(y:D):@&KD:=match je y with
 |some q=>if ik p.1 q=Uj then(match aX p.2.1 q with|some j=>(p.2.2[j]?).map λd=>(nW k j,d)|none=>L) else L
 |none=>L
def GR(x y:KD):@&KD:=match GQ x.2 with
 |some p=>sJ x.1 p y.2
 |none=>(match y.2 with|.int i=>NT x.1 x.2 i|_=>L)
def Cy(a b:@&KD):@&KD:=match a with
 |some x=>(match b with|some y=>GR x y|none=>L)
 |none=>L
def CA(f:Str)(a:@&KD):@&KD:=match a with
 |some (ka,.nd (.obj _ ns) xs)=>(match a9 f ns with|some j=>(xs[j]?).map λd=>(nW ka j,d)|none=>L)
 |_=>L
theorem sK{v:V}:∀{ns:-Str} {us:-V} {j:Nat},a9 f ns=B j->us[j]?=B v->(ns.zip us).lookup f=B v
 |[],_,_,h,_=>by ext h
 |_::_,[],_,_,e=>by simp at e
 |n::ns,u::us,j,h,e=>by
  unfold a9 at h;rw[RM,QJ];ext h h
  .ext1 a;ext h;rw[a,beq_self_eq_true];simpa using e
  .ext1 a;let⟨c,b,rfl⟩:=Tg.mp h;rw[beq_eq_false_iff_ne.mpr a];show sK b ↥e
def KS{b:Ro->@&KD}(w:attributeBase a f X.env (eval a X.env)=eval a X.env)(E:SndE X b a):SndE X (λZ=>CA f (b Z)) (.Attribute a f pos):=by
 intro Z M d h g Y H Q A q;dsimp only[CA] at h;ext h h
 .ext1 K c ns r y;ext h h
  .ext1 j i
   cases e:r[j]? with
   |none=>rw[e] at h;ext h
   |some I=>
    rw[e] at h;ext h;show aB (yq aC w) (E Z _ _ y g Y H _ A λx l s k=>?_);let⟨p,o,F,rfl,D,n,N,t⟩:=k.ch;obtain⟨C,u,_,⟨m,z⟩,rfl,_⟩:=n;let⟨v,e1,e2⟩:=t j _ e;rwa[p,C,u,_,v,rfl,D,m,z f (QD (aP i)),sK i e1,q v l s e2]
  .ext h
 .ext h
def CB{α β:Type}(f:α->β)(xs:List α)(i:Int):L2.sn (xs.map f) i=(L2.sn xs i).map f:=by
 delta L2.sn;rw[Qa]
 cases jY xs.length i with
 |none=>rfl
 |some j=>simp
def yS{α β:Type}{o:Option α}{g:α->β}{b:β}(h:o.map g=B b):Σa,o=B a/\b=g a:=by
 cases o with
 |none=>ext h
 |some a=>ext h;rwa[a,rfl,rfl]
def yT{xs:-D}{i:Int}{r:KD}(h:MP k xs i=B r):Σj,jY xs.length i=B j/\xs[j]?=B r.2/\r.1=nW k j:=by
 unfold MP at h
 cases e:jY xs.length i with
 |none=>rw[e] at h;ext h
 |some j=>
  rw[e] at h;let⟨d,e1,e2⟩:=yS h;rwa[j,rfl,#v[e1,e2],#v[e2]]
def CC{p:Nat×-DK×-D}{r:KD}(h:sJ k p y=B r):Σq j,je y=B q/\ik p.1 q=Uj/\aX p.2.1 q=B j/\p.2.2[j]?=B r.2/\r.1=nW k j:=by
 unfold sJ at h
 cases e:je y with
 |none=>rw[e] at h;ext h
 |some q=>
  rw[e] at h;by_cases a:ik p.1 q=Uj
  .cbv at h;rw[if_pos a] at h
   cases e1:aX p.2.1 q with
   |none=>rw[e1] at h;ext h
   |some j=>
    rw[e1] at h;let⟨d,e2,e3⟩:=yS h;rwa[q,j,rfl,a,e1,#v[e2,e3],#v[e3]]
  .cbv at h;rw[if_neg a] at h;ext h
def CD{p:Nat×-DK×-D}(h:GQ x=B p):x=.nd (.dic p.1 p.2.1) p.2.2:=by
 cases x with
 |nd a b=>cases a with
  |dic t c=>ext h;rfl
  |_=>ext h
 |_=>ext h
def CF{x y r:KD}(h:GR x y=B r):(Σi,y.2=.int i/\NT x.1 x.2 i=B r)\/Σp,x.2=.nd (.dic p.1 p.2.1) p.2.2/\sJ x.1 p y.2=B r:=by
 unfold GR at h
 cases e:GQ x.2 with
 |some p=>rw[e] at h;show .inr #[p,CD e,h]
 |none=>
  rw[e] at h;let⟨b,a⟩:=y
  cases a with
  |int i=>show .inl #[i,rfl,h]
  |_=>ext h
def CG{Q:VK}(h:NT k dx i=B (kd,d))(b:VR K g H0 H2 k dx vx)(q:∀v,VR K g H0 H2 kd d v->Q v H2):Pc K vx (.int i) H2 Q:=by
 cases dx with
 |nd u w=>cases u with
  |lst=>
   let⟨j,n,e,rfl⟩:=yT h;let⟨p,o,f,rfl,a,m,s,c⟩:=b.ch;cases(m);let⟨v,e1,e2⟩:=c j _ e;show .inl #[p,f,i,v,rfl,rfl,.of a,by delta L2.sn;rw[s,n];show e1,q v e2]
  |tup=>
   let⟨j,n,e,rfl⟩:=yT h;let⟨p,o,f,rfl,a,m,s,c⟩:=b.ch;cases(m);let⟨v,e1,e2⟩:=c j _ e;show .inr (.inl #[p,f,i,v,rfl,rfl,.of a,by delta L2.sn;rw[s,n];show e1,q v e2])
  |_=>ext h
 |scr ns=>
  let⟨l,e,t⟩:=yS (h);ext t;let⟨p,rfl,a⟩:=b.rd.scr;show .inl #[p,_,i,.int l,rfl,rfl,a,by rw[CB,e];rfl,q _ pN]
 |str z=>
  by_cases r:z.length<=100000
  .let h:(GP z i).map _=B (kd,d):=(if_pos r).symm.trans h;unfold GP at h
   cases e:L2.sn z.cps.toList i with
   |none=>rw[e] at h;ext h
   |some l=>
    rw[e] at h;ext h;obtain rfl:=b.rd.str;show .inr (.inr #[z,i,l,rfl,rfl,aO r,e,q _ KA])
  .cases(if_neg r).symm.trans h
 |_=>ext h
def yU{p:Nat×-DK×-D}{Q:VK}(h:sJ k p dy=B (kd,d))(e:VR K g H0 H2 k (.nd (.dic p.1 p.2.1) p.2.2) vx)(s:VR K g H0 H2 ky dy vy)(q:∀v,VR K g H0 H2 kd d v->Q v H2):Σb v,vx=.ref b/\DGet H2 b vy (B v)/\Q v H2:=by
 let⟨u,j,r,l,f,i,rfl⟩:=CC h;let⟨b,o,t,rfl,n,m,w,c⟩:=e.ch;let⟨v,e1,e2⟩:=c j _ i;let a:=kA n m r s.rd l;rw[f,QY,e1] at a;rwa[b,v,rfl,a,q v e2]
def NU(O:aq X Γ c){o fb:Ro->@&KD}(z:SndE X o a)(u:SndE X fb b)(t:eP b=Uj):SndE X (λZ=>Cy (o Z) (fb Z)) (.Subscript a b pos):=by
 intro Z I d h g Y H Q w q;dsimp only[Cy] at h
 cases f:o Z with
 |none=>rw[f] at h;ext h
 |some x=>cases j:fb Z with
  |none=>rw[f,j] at h;ext h
  |some y=>
   rw[f,j] at h;let⟨F,E⟩:=x;let⟨D,K⟩:=y;rcases CF h with⟨i,e,m⟩|⟨p,e,m⟩
   .cases(e);show aB (yw sr aC aC (dw t)) (two z u f j w λC A l s k n=>?_);obtain rfl:=n.rd.int;show CG m k λv r=>q v l s r
   .cases(e);show aB (uA (by have:=O.tab.units;lia) aC aC (dw t)) (two z u f j w λC A l s k n=>yU m k n λv r=>q v l s r)
def kh(xs:-D)(lo hi:@&Int):-D:=(xs.drop (HT.ck xs.length 0 lo)).take (HT.ck xs.length xs.length hi-HT.ck xs.length 0 lo)
def RpL.cut(h:RpL K H S ds vs)(lo hi:@&Int):RpL K H S (kh ds lo hi) (pv vs lo hi):=by
 unfold kh pv;rw[h.len];show(h.drop _).take _
def wO(X:Cx)(e:@&Uo):TO:=λY H Q=>Σt,PO X e t/\t Y H Q
theorem sM:PO X e (wO X e):=λa s Y H Q I h=>let ⟨t,p,q⟩:=h;p a s Y H Q I q
def w8(X:Cx)(f:Ro->@&(@&Int))(e:@&Uo):Prop:=∀Z o,f Z=B o->∀g Y H Q,SE X.K g Z Y H->(∀H',Same H H'->Q o H')->wO X e Y H Q
meta def CH(a:@&KD):@&(@&Int):=match a with|some (_,.int i)=>B (B i)|_=>L
theorem GS:w8 X (λZ=>B L) L:=λZ o h g Y H Q a q=>by ext h;rwa[_,B8,q H (Same.refl H)]
theorem GU{f:Ro->@&KD}(c:SndE X f e):w8 X (λZ=>CH (f Z)) (B e):=λZ o h g Y H Q a q=>by
 dsimp only[CH] at h;ext h h
 .ext1 k i d;ext h;rwa[_,B9 aC,c Z _ _ d g Y H _ a λv b s r=>#[i,r.rd.int,q b s]]
 .ext h
def Jw(a:@&KD)(lo hi:@&(@&Int)):@&KD:=match a,lo,hi with
 |some (ka,.nd .lst xs),B l,B u=>if dZ ka xs=Uj then B (.fr bQ,.lst (kh xs l u)) else L
 |some (_,.scr ns),B l,B u=>B (.fr bQ,.lst (kh (ns.map .int) l u))
 |some (ka,.nd .tup xs),B l,B u=>if dZ ka xs=Uj then B (.sh,.tup (kh xs l u)) else L
 |_,_,_=>L
def NV{M:Ro->@&KD}{C D:Ro->@&(@&Int)}(N:SndE X M a)(K:w8 X C lo)(F:w8 X D hi):SndE X (λZ=>Jw (M Z) (C Z) (D Z)) (.Subscript a (.Slice lo hi L p2) pos):=by
 intro Z R d h g Y H Q c q;dsimp only[Jw] at h;generalize E:M Z=A at h;generalize v:C Z=Lqq at h;generalize w:D Z=Uqq at h
 obtain _|⟨P,_|_|_|_|ns|⟨_|_|_|_,i⟩⟩:=A<;>try cases h
 all_goals obtain _|l:=Lqq<;>try cases h
 all_goals obtain _|u:=Uqq<;>try cases h
 rotate_left
 .cbv at h;ext h h
  .ext1 hk;ext h;show aB (kY ut aC sM sM) (N Z _ _ E g Y H _ c λx t s1 j=>K Z _ v g Y t _ (c.same s1) λk s2=>F Z _ w g Y k _ ((c.same s1).same s2) λI s3=>?_);let⟨p,o,m,rfl,f,y,r⟩:=((j.same s2).same s3).items hk c.mu ((s1.trans s2).trans s3);cases(y);rwa[p,m,rfl,.of f,λO b=>q _ _ (((s1.trans s2).trans s3).trans (ag b)) ((nR b (r.cut l u)).older ((s1.trans s2).trans s3))]
  .ext h
 rotate_left
 .show aB (kY ut aC sM sM) (N Z _ _ E g Y H _ c λx t s1 j=>K Z _ v g Y t _ (c.same s1) λk s2=>F Z _ w g Y k _ ((c.same s1).same s2) λI s3=>?_);let⟨p,rfl,f⟩:=((j.same s2).same s3).rd.scr;rwa[p,_,rfl,f,λO b=>q _ _ (((s1.trans s2).trans s3).trans (ag b)) ((nR b ((RpL.ints ns).cut l u)).older ((s1.trans s2).trans s3))]
 .cbv at h;ext h h
  .ext1 hk;ext h;show aB (kY (sl_tup.or Cd) aC sM sM) (N Z _ _ E g Y H _ c λx t s1 j=>K Z _ v g Y t _ (c.same s1) λk s2=>F Z _ w g Y k _ ((c.same s1).same s2) λI s3=>?_);let⟨p,o,m,rfl,f,y,r⟩:=((j.same s2).same s3).items hk c.mu ((s1.trans s2).trans s3);cases(y);by_cases s:HT.ck i.length 0 l=0/\HT.ck i.length i.length u=i.length
   .show .inr #[p,m,rfl,.of f,by rw[r.len];show s.1,by rw[r.len];show s.2,q _ I ((s1.trans s2).trans s3) (Ju ?_)];let e:kh i l u=i:=by delta kh;rw[s.1,s.2,Tj,TD,QQ]
    rw[e];delta Rp;rwa[p,_,m,rfl,λz=>?_,f,rfl,r];let⟨o,e,n⟩:=(c.mu.same ((s1.trans s2).trans s3)) p z;rw[f] at e;ext e;show n _ rfl
   .show .inl #[p,m,rfl,.of f,by rw[r.len];show s,λO b=>q _ _ (((s1.trans s2).trans s3).trans (ag b)) ((GJ (c.mu.same ((s1.trans s2).trans s3)) b (r.cut l u)).older ((s1.trans s2).trans s3))]
  .ext h
theorem RpL.pick{ds:-D}{us:-V}(r:RpL K H S ds us):∀is:-Nat,RpL K H S (is.filterMap λi=>ds[i]?) (is.filterMap λi=>us[i]?)
 |[]=>.nil
 |i::is=>by
  let a:=RpL.pick r is;by_cases h:i<ds.length
  .let⟨u,e1,e2⟩:=r.getD (Qi h);rw[QN,QN,Qi h,e1];show .cons e2 a
  .rw[QN,QN,QT ∅,QT (by rw[r.len];lia)];show a
def KU(x:KD)(l:@&Int)(d:D):@&KD:=match x.2 with
 |.nd hd xs=>(match hd with
  |.lst=>(match d with|.int k=>if dZ x.1 xs=Uj/\1<=k then B (.fr bQ,.lst (G.cV xs l (B k))) else L|_=>L)
  |_=>L)
 |_=>L
def yV(a:@&KD)(lo:@&(@&Int))(b:@&KD):@&KD:=match a with
 |some x=>(match lo with|some l=>(match b with|some y=>KU x l y.2|none=>L)|none=>L)
 |none=>L
def KW{n fs:Ro->@&KD}{m:Ro->@&(@&Int)}{a st:Uo}{lo:@&Uo}{p2 pos:Pos}(R:SndE X n a)(O:w8 X m lo)(t:SndE X fs st):SndE X (λZ=>yV (n Z) (m Z) (fs Z)) (.Subscript a (.Slice lo L (B st) p2) pos):=by
 intro Z S d h g Y H Q i q;cbv at h
 cases c:n Z with
 |none=>rw[c] at h;ext h
 |some x=>cases f:m Z with
  |none=>rw[c,f] at h;ext h
  |some l=>cases j:fs Z with
   |none=>rw[c,f,j] at h;ext h
   |some y=>
    rw[c,f,j] at h;let h:KU x l y.2=B (S,d):=h;let⟨U,F⟩:=x;let⟨V,T⟩:=y
    cases F with
    |nd E C=>cases E with
     |lst=>cases T with
      |int k=>
       let⟨hk,e⟩:=wZ (h);ext e;show aB (G.GH aC sM aC) (R Z _ _ c g Y H _ i λv M s1 u=>O Z _ f g Y M _ (i.same s1) λz s2=>t Z _ _ j g Y z _ ((i.same s1).same s2) λw N s3 D=>?_);let s13:=(s1.trans s2).trans s3;let⟨p,o,r,rfl,P,A,s⟩:=((u.same s2).same s3).items hk.1 i.mu s13;cases(A);obtain rfl:=D.rd.int
       let I:RpL X.K N (Sg g) (G.cV C l (B k)) (G.cV r l (B k)):=by
        delta G.cV;rw[s.len];show s.pick _
       rwa[p,r,k,rfl,rfl,∅,.of P,λW b=>q _ _ (s13.trans (ag b)) ((nR b I).older s13)]
      |_=>ext h
     |_=>ext h
    |_=>ext h
end
mutual
def PL:D->Nat
 |.str x=>x.cps.size
 |.nd .lst ds=>oZ ds
 |.nd .tup ds=>oZ ds
 |_=>0
def oZ:-D->Nat
 |[]=>0
 |d::ds=>PL d+1+oZ ds
end
end J
namespace G
open PyProof.Rows
def Ri(xs:Array Nat):Prop:=xs.toList.Pairwise (· < ·)
structure Gd(led:Bool)(t:SetTable):Prop where
 ri:Ri t.place
 nod:t.dummies=([].toArray)
 led:t.led=led
def ns(es:-(Int×Um)):-Int:=es.map λe=>numOf e.2
def addI(O:-Int)(k:Int):-Int:=if k∈O then O else O++[k]
end G
namespace J
section
variable {X:Cx}
def mh(F:X.calm=Uj):jU X (.builtin "all") (λxs H Q=>Σ(p:Up) (bs:-Bool),xs=[.ref p]/\SqL X.K H p (bs.map V.bl)/\Q (.bl (bs.all id)) H):=by
 intro y s Y H xs T Q I r h;let⟨p,bs,rfl,hq,q⟩:=h;let⟨u,rfl,C⟩:=mG r;ext C;let⟨a,l,j,P⟩:=I.list hq;let d:=l.length;let M:X.A.in1.handled=L:=I.ok.hd F
 let g:p≠s⁻¹:=by
  let⟨o,n,e,z_⟩:=j;show Qu (Qj e)
 show call_all_walk (UP j.isList ?_)
 let E:(s.heap.push { cls:=.type "list_iterator",data:=.fields [.ref p,.int 0 0].toArray }).IsList p a.toArray:=by
  let⟨o,e,r⟩:=j.isList;rwa[o,Qg _ e,r]
 rwa[s⁻¹,_,_,_,_,_,λi=>(bs[i]?).getD Uk,rfl,Walks.list M s⁻¹ p g a.toArray,#[#[_,Qm _ rfl,rfl,rfl],E],λi v S W U O w=>?_,λR Z hk=>?_]
 .let c:a[i]?=B v:=by simpa using O
  cases k:bs[i]? with
  |none=>
   let m:(bs.map V.bl)[i]?=L:=by rw[Qc,k];rfl
   rw[l.none_of m] at c;ext c
  |some b=>
   let m:(bs.map V.bl)[i]?=B (.bl b):=by rw[Qc,k];rfl
   let⟨u,e1,e2⟩:=l.get m;rw[c] at e1;ext e1;ext e2;dsimp[k,TZ] at w;show UK w
 .let e:((Qo a.toArray.size).all λi=>(bs[i]?).getD Uk)=bs.all id:=by
   let N:a.toArray.size=bs.length:=by rw[Qk,<- d,Qa]
   rw[N,R9];dsimp[QB,Qq,id];constructor
   .intro h x D;let⟨i,f,rfl⟩:=Tp.mp D;have:=h i f;rw[Qi f] at this;show this
   .intro h i f;rw[Qi f];show h _ (S0 f)
  rw[e];rwa[.bl (bs.all id),H,I.kept λb o t=>hk b o (λz=>?_) (Qg _ t),rfl,q];have:b=s⁻¹:=by simpa using z
  show absurd (this▸Qj t) (Re _)
def pR:jU X (.builtin "isinstance") (λxs H Q=>Σx T t b,xs=[x,.ty T]/\r9 X.K H x t/\RH X.K t (.type T)=B b/\Q (.bl b) H):=by
 intro a s Y H xs i Q I r h;let⟨x,T,t,b,rfl,f,e,q⟩:=h;let⟨u,g,rfl,c,d⟩:=J7 r;ext d;show wH I c f e λj=>#[.bl b,H,I.tok _,rfl,q]
def w9:jU X (.type "int") (λxs H Q=>Σb:Bool,xs=[.bl b]/\Q (.int (if b then 1 else 0)) H):=by
 intro a s Y H xs d Q I r h;let⟨b,rfl,q⟩:=h;let⟨u,rfl,c⟩:=mG r;ext c;show call_int_bool #[.int _,H,I.tok _,#[_,rfl],q]
end
meta def CI:D->@&Nat
 |.nd .lst ds=>B ds.length
 |.nd .tup ds=>B ds.length
 |.scr ns=>B ns.length
 |_=>L
meta def c8:-D->@&(-Bool)
 |[]=>B []
 |.bl b::r=>(c8 r).map (b::·)
 |_=>L
theorem lq:∀{ds:-D} {bs:-Bool},c8 ds=B bs->ds=bs.map D.bl
 |[],bs,h=>by ext h;rfl
 |d::r,bs,h=>by
  cases d with
  |bl b=>
   dsimp[c8] at h
   cases e:c8 r with
   |none=>rw[e] at h;ext h
   |some a=>rw[e] at h;ext h;rw[lq e];rfl
  |_=>ext h
theorem j3:∀ns:-Bool,c8 (ns.map D.bl)=B ns
 |[]=>rfl
 |n::ns=>by simp[c8,j3 ns]
theorem RpL.bools:∀{bs:-Bool} {vs:-V},RpL K H S (bs.map D.bl) vs->vs=bs.map V.bl
 |[],_,h=>h.nil_inv
 |b::bs,_,h=>by
  let⟨y,a,rfl,r,t⟩:=h.cons_inv;rw[r.bl,RpL.bools t];rfl
def yW(kds:-KD):@&KD:=match kds with|[(_,d)]=>(CI d).map λn=>(.sh,.int n)|_=>L
def GV(kds:-KD):@&KD:=match kds with|[(_,.nd .lst ds)]=>(c8 ds).map λbs=>(.sh,.bl (bs.all id))|_=>L
def ED(kds:-KD):@&KD:=match kds with
 |[(k,.nd .lst ds)]=>if dZ k ds=Uj then B (.fr bQ,.lst ds) else L
 |[(k,.nd .tup ds)]=>if dZ k ds=Uj then B (.fr bQ,.lst ds) else L
 |[(_,.scr ns)]=>B (.fr bQ,.lst (ns.map D.int))
 |_=>L
def PM(kds:-KD):@&KD:=match kds with|[(_,.int i)]=>if i.natAbs.log2<1920 then B (.sh,.str (toString i)) else L|_=>L
meta def GW(kds:-KD):@&KD:=match kds with|[(_,.int i)]=>B (.sh,.int (if i<0 then -(i:Int) else i))|_=>L
meta def GX(kds:-KD):@&KD:=match kds with|[(_,.bl b)]=>B (.sh,.int (if b then 1 else 0))|_=>L
meta def xa:aD->D
 |.inl i=>.int i
 |.inr x=>.str x
def KY{H:Hp}{hd:Hd}(c:hd.mu=Uj)(d:c7 K o hd xs)(a:H p=L)(r:RpL K H (Sg g) ds xs):VR K g H (upd H p o) (.fr bQ) (.nd hd ds) (.ref p):=by
 rwa[λb=>b=p,λb z=>z▸a,?_];change Tr K _ _ _ _ _ _;delta Tr;rwa[p,_,xs,λZ=>False,rfl,al,d,λZ z=>z,(λh=>by rw[c] at h;ext h),λb=>#[λz=>.inl #[c,z],λz=>z.elim (λz=>z.2) λz=>z.elim],.ofFz (r.go λb o n e=>#[ag a b o e,λz=>z.elim n λz=>?_])];subst z;rw[a] at e;ext e
def iq(x:Str):-KD->@&KD:=
 if x="len" then yW else if x="all" then GV else if x="any" then(λZ=>L) else if x="list" then ED else if x="tuple" then(λZ=>L) else if x="str" then(λZ=>L) else if x="sum" then(λZ=>L)
 else if x="min" then(λZ=>L) else if x="max" then(λZ=>L) else if x="abs" then GW else if x="int" then GX else if x="dict" then(λZ=>L) else if x="repr" then(λZ=>L) else λZ=>L
def sN(x:Str)(a:@&(-KD)):@&KD:=match a with|some kds=>iq x kds|none=>L
def Pd(X:Cx)(kds:-KD)(O:Kd)(d:D)(Q:VK)(vs:-V)(H1:Hp):Prop:=Σg H0,MuOk H0 (Sg g)/\Same H0 H1/\VRs X.K g H0 H1 kds vs/\∀v H',Same H1 H'->VR X.K g H0 H' O d v->Q v H'
def StrictOk(X:Cx)(f:-KD->@&KD)(es:-Uo)(O:Uo):Prop:=∀kds R d,f kds=B (R,d)->∀Y H Q,wA X es Y H (Pd X kds R d Q)->wE X O Y H Q
theorem dO{H:Hp}{Q d:-V->Hp->Prop}(h:wA X es Y H Q)(k:∀vs H,Q vs H->d vs H):wA X es Y H d:=λb a s I=>a8 (h b a s I) λg f ⟨vs,c,e,r,q⟩=>#[vs,c,e,r,k vs c q]
theorem uJ{H:Hp}{Q c:VK}(h:wE X e Y H Q)(k:∀v H,Q v H->c v H):wE X e Y H c:=λa s I=>a8 (h a s I) λu f ⟨v,b,d,r,q⟩=>#[v,b,d,r,k v b q]
def StrictOk.snd{c:Ro->@&(-KD)}(h:StrictOk X f es node)(l:kg X c es):SndE X (λZ=>(c Z).bind f) node:=by
 intro Z m d b g Y H Q i q;cbv at b
 cases e:c Z with
 |none=>rw[e] at b;ext b
 |some a=>
  rw[e] at b;show h a m d b Y H Q (l Z a e g Y H _ i λn o s1 j=>#[g,H,i.mu,s1,j,λv k s r=>q v k (s1.trans s) r])
def gy(X:Cx)(x:Str)(f:-KD->@&KD):Prop:=∀(e:Uo) (es:-Uo) (p pos:Pos),Gl X x->ah e=Uj->es.all ah=Uj->StrictOk X f (e::es) (.Call (.Name x p) (e::es) [] pos)
section
variable {X:Cx} {Γ:fw} {c:Cz}
def KZ(O:aq X Γ c):gy X "len" yW:=by
 intro e E p y A C u z R d h Y H Q w;delta yW at h
 .ext1 N s
  cases b:CI s with
  |none=>rw[b] at h;ext h
  |some n=>
   rw[b] at h;ext h;show aB (hZq (nN) A (O.tab.bl _ (by simp[aV])) PySem.boot_len dI ⋯ ⋯ (am C) (bZ u)) (dO w λF f ⟨g,K,m,s1,x,q⟩=>?_);let⟨v,rfl,r⟩:=x.one;let t:=r.rd
   cases s with
   |scr ns=>
    let⟨a,rfl,i⟩:=t.scr;ext b;rwa[a,_,rfl,.inl i,q _ f (Same.refl f) (by rw[Qa];show pN)]
   |nd D M=>
    let⟨a,o,k,rfl,z_,i,j,l⟩:=t.nd
    cases D with
    |lst=>ext b;cases(j);rwa[a,k,rfl,.inl (.of i),q _ f (Same.refl f) (by rw[l.len];show pN)]
    |tup=>ext b;cases(j);rwa[a,k,rfl,.inr (.of i),q _ f (Same.refl f) (by rw[l.len];show pN)]
    |dic P I=>ext b
    |obj c ns=>ext b
   |_=>ext b
 .ext h
def K0(O:aq X Γ c):gy X "all" GV:=by
 intro e A p u x z j w I d h Y H Q k;delta GV at h
 .ext1 F t
  cases b:c8 t with
  |none=>rw[b] at h;ext h
  |some n=>
   rw[b] at h;ext h;show aB (hZq (mh O.calm) x (O.tab.bl _ (by simp[aV])) PyProof.Rows.boot_all dI ⋯ ⋯ (am z) (bZ j)) (dO k λC i ⟨g,D,m,s1,l,q⟩=>?_);let⟨v,rfl,r⟩:=l.one;let⟨a,o,E,rfl,z_,y,s,f⟩:=r.rd.nd;cases(s);rw[lq b] at f;rwa[a,n,rfl,.of #v[y,f.bools],q _ i (Same.refl i) EB]
 .ext h
def GY(O:aq X Γ c):gy X "list" ED:=by
 intro e E p y C D u k t d h Y H Q w;show aB (mO nO C (O.tab.bl _ (by simp[aV])) PyProof.Rows.boot_list dI ⋯ ⋯ (am D) (bZ u)) (dO w λF K ⟨g,I,m,s1,n,q⟩=>?_)
 obtain _|⟨⟨s,_|_|_|_|ns|⟨i,j⟩⟩,_|_⟩:=k<;>try cases h
 .let⟨v,rfl,r⟩:=n.one;let⟨a,rfl,f⟩:=r.rd.scr;rwa[a,_,rfl,.inl f,λl b=>q _ _ (ag b) ((nR b (RpL.ints ns)).older s1)]
 .let⟨v,rfl,r⟩:=n.one
  let hk:dZ s j=Uj/\(i=.lst\/i=.tup)/\t=.fr bQ/\d=.lst j:=by
   cases i with
   |lst|tup=>
    replace h:(if dZ s j=Uj then _ else L)=B (t,d):=h
    ext h h
    .ext h;simp[*]
    .ext h
   |_=>ext h
  let⟨hk,b,rfl,rfl⟩:=hk;let⟨a,o,z,rfl,f,x,A⟩:=r.items hk m s1;rwa[a,z,rfl,?_,λl b=>q _ _ (ag b) ((nR b A).older s1)]
  obtain rfl|rfl:=b<;>cases(x)
  .show .inl (.of f)
  .show .inr (.of f)
 .cases i<;>ext h
def GZ{e:Uo}{env:Env}{cp:Pos}(h:ah e=Uj):((backTo cp (Uv [e] env)).all (λx=>!x.1)&&(backToKw cp (keywordEach [] env)).all (λx=>x.1.isSome)
      && decide ([e].length+([]:-Keyword).length+(if([]:-Keyword).isEmpty then 0 else 1)<30))=Uj:=by
  rw[am h];rfl
meta def ee:Uo->Bool
 |.Name x _=>!(x==("super":Str))
 |.Subscript ..=>Uj
 |.Attribute ..=>Uj
 |_=>Uk
def dP{b:Uo}{m:Str}{env:Env}{w:Sem Um}(h:ee b=Uj):attributeBase b m env w=w:=by
 cases b with
 |Name x p=>
  delta attributeBase;let h:(x==("super":Str))=Uk:=by simpa[ee] using h
  simp[h]
 |Subscript a b p=>rfl
 |Attribute a b p=>rfl
 |_=>ext h
inductive NW (X:Cx) (Z:Ro):-(@&Expr)->-Expr->-aD->-KD->Prop
 |nil:NW X Z [] [] [] []
 |cons {k v:Uo} {kD:D} {x:aD} {kv:Kd} {d:D} {f:Ro->@&KD} {ks:-(@&Uo)} {vs:-Uo} {xs:-aD} {kds:-KD}:SndE X (λY=>B (.sh,kD)) k->fF kD=B x->SndE X f v->f Z=B (kv,d)->pK kv d=Uj->NW X Z ks vs xs kds->NW X Z (B k::ks) (v::vs) (x::xs) ((kv,d)::kds)
def K1(O:aq X Γ c):gy X "abs" GW:=by
 intro e s p b n o f l x d h Y H Q k;delta GW at h
 .ext1 w i;ext h;show aB (hZq yn n (O.tab.bl _ (by simp[aV])) PyProof.Rows.boot_abs dI ⋯ ⋯ (am o) (bZ f)) (dO k λt a ⟨g,u,m,s1,j,q⟩=>?_);let⟨v,rfl,r⟩:=j.one;obtain rfl:=r.rd.int;rwa[i,rfl,q _ a (Same.refl a) pN]
 .ext h
def K2(O:aq X Γ c):gy X "int" GX:=by
 intro e s p f n o i l x d h Y H Q k;delta GX at h
 .ext1 w b;ext h;show aB (mO w9 n (O.tab.bl _ (by simp[aV])) PyProof.Rows.boot_int dI ⋯ ⋯ (am o) (bZ i)) (dO k λt a ⟨g,u,m,s1,j,q⟩=>?_);let⟨v,rfl,r⟩:=j.one;obtain rfl:=r.rd.bl;rwa[b,rfl,q _ a (Same.refl a) pN]
 .ext h
theorem ef:gy X x (λZ=>L):=λe c p a g i f b j d h=>by ext h
def jo{x y:Str}(h1:x=y->gy X x f)(h2:gy X x g):gy X x (if x=y then f else g):=by
 by_cases h:x=y
 .rw[if_pos h];show h1 h
 .rw[if_neg h];show h2
def yX(O:aq X Γ c)(x:Str):gy X x (iq x):=by
 delta iq;show jo (λh=>?_) ?_
 .first|show ef|(subst h;show KZ O)
 show jo (λh=>?_) ?_
 .first|show ef|(subst h;show K0 O)
 show jo (λh=>?_) ?_
 .first|show ef|(subst h;show b_any O)
 show jo (λh=>?_) ?_
 .first|show ef|(subst h;show GY O)
 show jo (λh=>?_) ?_
 .first|show ef|(subst h;show b_tuple O)
 show jo (λh=>?_) ?_
 .first|show ef|(subst h;show b_str O)
 show jo (λh=>?_) ?_
 .first|show ef|(subst h;show b_sum O)
 show jo (λh=>?_) ?_
 .first|show ef|(subst h;show b_min O)
 show jo (λh=>?_) ?_
 .first|show ef|(subst h;show b_max O)
 show jo (λh=>?_) ?_
 .first|show ef|(subst h;show K1 O)
 show jo (λh=>?_) ?_
 .first|show ef|(subst h;show K2 O)
 show jo (λh=>?_) ?_
 .first|show ef|(subst h;show b_dict O)
 show jo (λh=>?_) ?_
 .first|show ef|(subst h;show b_repr O)
 .intro e f p a i j g b k d h;ext h
def K3(O:aq X Γ c){es:-Uo}{a:Ro->@&(-KD)}(f:kg X a (e::es))(d:jh c.sc x=Uj)(g:ah e=Uj)(b:es.all ah=Uj):SndE X (λZ=>sN x (a Z)) (.Call (.Name x p) (e::es) [] pos):=by
 have:=(yX O x e es p pos (d9 O d) g b).snd f
 rw[show(λZ=>sN x (a Z))=λZ=>(a Z).bind (iq x) by funext Z;delta sN;cases a Z<;>rfl]
 show this
end
inductive Src where
 |non|l (a:Up) (ds:-D)|t (a:Up) (ds:-D)|two (s u:Src)|ob (a:Up) (u:HO) (xs:-V) (ds:-D)
def Src.P(K:P9):Src->Gh->Hp->Prop
 |.non,_,_=>True
 |.l a ds,g,H=>Σxs,SqL K H a xs/\RpL K H (Sg g) ds xs
 |.ob a u xs ds,g,H=>H a=B u/\RpL K H (Sg g) ds xs
 |.t a ds,g,H=>Σxs,SqT K H a xs/\RpL K H (Sg g) ds xs
 |.two s u,g,H=>s.P K g H/\u.P K g H
def Src.isL(b:Up):Src->Prop
 |.non=>False
 |.l a _=>a=b
 |.ob a ..=>a=b
 |.t _ _=>False
 |.two s u=>s.isL b\/u.isL b
def Src.isT(b:Up):Src->Prop
 |.non=>False
 |.l _ _=>False
 |.ob ..=>False
 |.t a _=>a=b
 |.two s u=>s.isT b\/u.isT b
def Src.from(g:Gh)(H:Hp)(bs:-Nat):Src->Prop
 |.non=>True
 |.l a _=>g a=L\/∃i∈bs,g a=B (B i)
 |.ob a ..=>g a=L\/∃i∈bs,g a=B (B i)
 |.t a _=>g a=L
 |.two s u=>s.from g H bs/\u.from g H bs
theorem Src.from.from_l{g:Gh}{bs:-Nat}{b:Up}:∀{s:Src},s.from g H bs->s.isL b->g b=L\/∃i∈bs,g b=B (B i)
 |.l a _,h,e=>by cases(e);show h
 |.ob a ..,h,e=>by cases(e);show h
 |.two s u,h,e=>by
  rcases(e) with e|e
  .show Src.from.from_l (h).1 e
  .show Src.from.from_l (h).2 e
 |.non,_,e=>e.elim
 |.t _ _,_,e=>e.elim
theorem Src.from.from_t{g:Gh}{bs:-Nat}{b:Up}:∀{s:Src},s.from g H bs->s.isT b->g b=L
 |.t a _,h,e=>by cases(e);show h
 |.two s u,h,e=>by
  rcases(e) with e|e
  .show Src.from.from_t (h).1 e
  .show Src.from.from_t (h).2 e
 |.non,_,e=>e.elim
 |.l _ _,_,e=>e.elim
 |.ob ..,_,e=>e.elim
theorem Src.from.from_H{bs:-Nat}:∀{s:Src},s.from g H bs->s.from g H' bs
 |.t a _,h=>h
 |.l a _,h=>h
 |.ob ..,h=>h
 |.non,_=>trivial
 |.two s u,h=>#[Src.from.from_H (h).1,Src.from.from_H (h).2]
theorem Src.from.from_mono{bs b:-Nat}(k:∀i∈bs,i∈b):∀{s:Src},s.from g H bs->s.from g H b
 |.t a _,h=>h
 |.l a _,h=>Or.imp_right (λ⟨i,d,c⟩=>#[i,k i d,c]) h
 |.ob ..,h=>Or.imp_right (λ⟨i,d,c⟩=>#[i,k i d,c]) h
 |.non,_=>trivial
 |.two s u,h=>#[Src.from.from_mono k (h).1,Src.from.from_mono k (h).2]
section
variable {K:P9} {H H':Hp} {g g':Gh}
def yY(k:∀o,H a=B o->H' a=B o)(h:SqL K H a xs):SqL K H' a xs:=by
 rcases h with(h|⟨o,h⟩)|h
 .show .inl (.inl (k _ h))
 .show .inl (.inr #[o,k _ h])
 .show .inr h
def yZ(k:∀o,H a=B o->H' a=B o)(h:SqT K H a xs):SqT K H' a xs:=by
 rcases h with(h|⟨o,h⟩)|h
 .show .inl (.inl (k _ h))
 .show .inl (.inr #[o,k _ h])
 .show .inr h
theorem Src.mono(c:∀b o,H b=B o->¬Sg g b->¬Sg g' b):∀{s:Src},(∀b o,(¬Sg g b\/s.isL b)->H b=B o->H' b=B o)->(∀a,s.isT a->g a=L)->s.P K g H->s.P K g' H'
 |.non,_,_,_=>trivial
 |.l a ds,k,ht,h=>by
  let⟨d,i,f⟩:=h;rwa[d,yY (λo e=>k a o (.inr rfl) e) i,f.go λb o n e=>#[k b o (.inl n) e,c b o e n]]
 |.ob a u d ds,k,ht,h=>#[k a _ (.inr rfl) (h).1,(h).2.go λb o n e=>#[k b o (.inl n) e,c b o e n]]
 |.t a ds,k,ht,h=>by
  let⟨d,i,f⟩:=h;rwa[d,yZ (λo e=>k a o (.inl (by rw[Sg,ht a rfl];simp)) e) i,f.go λb o n e=>#[k b o (.inl n) e,c b o e n]]
 |.two s u,k,ht,h=>#[Src.mono c (λb o z=>k b o (z.imp id .inl)) (λa z=>ht a (.inl z)) (h).1,Src.mono c (λb o z=>k b o (z.imp id .inr)) (λa z=>ht a (.inr z)) (h).2]
end
def Pe:aD ⊕ -aD->D
 |.inl k=>xa k
 |.inr ks=>.tup (ks.map xa)
def PN:DK->D
 |.inl k=>xa k
 |.inr xs=>.tup (xs.map Pe)
def jp(K:P9)(J:It)(s:Src)(ds:-D):Prop:=∀(i:Nat) (g:Gh) (H:Hp),s.P K g H->MuOk H (Sg g)->
 (ds.length<=i->J.stop i H)/\∀d,ds[i]?=B d->J.go i H/\∀x H',J.yld i H x H'->Same H H'/\Rp K H' (Sg g) d x
section
variable {K:P9}
def G0:jp K (Jr K a) (.l a ds) ds:=by
 rintro i g H ⟨c,b,r⟩ m
 rwa[λf=>#[c,b,by rw[r.len];show f],λd h=>?_];let⟨x,e1,e2⟩:=r.getD h;rwa[#[c,x,b,e1],λy j e=>?_];let⟨rfl,e⟩:=e;have:=e c b;rw[e1] at this;ext this;rwa[Same.refl _,e2]
def NX:jp K (Nt K a) (.t a ds) ds:=by
 rintro i g H ⟨c,b,r⟩ m
 rwa[λf=>#[c,b,by rw[r.len];show f],λd h=>?_];let⟨x,e1,e2⟩:=r.getD h;rwa[#[c,x,b,e1],λy j e=>?_];let⟨rfl,e⟩:=e;have:=e c b;rw[e1] at this;ext this;rwa[Same.refl _,e2]
def G3{ds:-D}:jp K (G.MM K a) (.l a ds) (ds.mapIdx λi d=>D.tup [.int i,d]):=by
 rintro i g H ⟨e,h,r⟩ m
 rwa[λj=>#[e,h,by rw[r.len];simpa using j],λd b=>?_];rw[List.getElem?_mapIdx] at b
 cases q:ds[i]? with
 |none=>rw[q] at b;ext b
 |some k=>
  rw[q] at b;ext b;let⟨x,e1,e2⟩:=r.getD q;rwa[#[e,x,h,e1],λy n f=>?_];let⟨p,v,c,rfl,rfl,f⟩:=f;have:=f e h;rw[e1] at this;ext this;rwa[ag c,?_];delta Rp;rwa[p,_,_,rfl,λz=>?_,al,rfl,.cons (by delta Rp;rfl) (.cons (e2.same (ag c)) .nil)];let⟨o,q,z_⟩:=m p z;rw[c] at q;ext q
def K4(lo:Int)(n:Nat):jp K (JW lo n) .non ((Qo n).map λ(k:Nat)=>D.int (lo+(k:Int))):=by
 rintro i g H _ m
 rwa[λh=>(by let c:n<=i:=↥h;show c),λd a=>?_];rw[Qc] at a
 cases q:(Qo n)[i]? with
 |none=>rw[q] at a;ext a
 |some j=>
  rw[q] at a;ext a
  let b:i<n:=by
   have:=(Qb.mp q).1;simpa using this
  let e:j=i:=by
   rw[QU b] at q;ext q;rfl
  subst e;rwa[b,λx l f=>?_];let⟨rfl,rfl⟩:=f;rwa[Same.refl _,by delta Rp;rfl]
end
def SndI(X:Cx)(f:Ro->@&(-Nat×-D))(tg iter:Uo):Prop:=∀Z bs ds,f Z=B (bs,ds)->∀g Y H R,SE X.K g Z Y H->
 (∀J s H1,Same H H1->jp X.K J s ds->s.P X.K g H1->s.from g H bs->R J H1)->wI X tg iter Y H R
meta def pS:Kd->-Nat
 |.bo i _=>[i]
 |_=>[]
def ir(a:@&KD):@&(-Nat×-D):=match a with
 |some (k,.nd .lst ds)=>if dZ k ds=Uj then B (pS k,ds) else L
 |some (_,.scr ns)=>B ([],ns.map D.int)
 |_=>L
def sO(a:@&KD):@&(-Nat×-D):=match a with
 |some (k,.nd .tup ds)=>if dZ k ds=Uj then B ([],ds) else L
 |a=>ir a
def xb(a:@&KD):@&(-Nat×-D):=(ir a).map λp=>(p.1,p.2.mapIdx λi d=>D.tup [.int i,d])
def xc(xs ys:-D):-D:=TF (λx y=>D.tup [x,y]) xs ys
def sP(a b:@&KD):@&(-Nat×-D):=match ir a with
 |some (bs,xs)=>(match ir b with|some (bs',ys)=>B (bs++bs',xc xs ys)|none=>L)
 |none=>L
meta def f6(i j:Int):Bool:=decide (-(2^62)<=i)&&decide (i<2^62)&&decide (-(2^62)<=j)&&decide (j<2^62)&&decide (j-i<=100000)
meta def gP(i j:Int):-D:=(Qo (j-i).toNat).map λ(k:Nat)=>D.int (i+(k:Int))
def sQ(a b:@&KD):@&(-Nat×-D):=match a,b with
 |some (_,.int i),B (_,.int j)=>if f6 i j then B ([],gP i j) else L
 |_,_=>L
meta def lr:Uo->Bool
 |.Tuple ..=>Uj
 |_=>Uk
section
variable {X:Cx} {Γ:fw} {c:Cz}
def VR.scrK{g:Gh}{ns:-Int}(h:VR K g H H1 k (.scr ns) v):Σa,v=.ref a/\((g a=L/\Rd H1 a (.lst (ns.map V.int)))\/Ku K a (ns.map V.int)):=by
 let c:∀{S:Pr},(∀b,g b≠L->S b)->Rp K H1 S (.scr ns) v->Σa,v=.ref a/\((g a=L/\Rd H1 a (.lst (ns.map V.int)))\/Ku K a (ns.map V.int)):=λj r=>by
  unfold Rp at r;let⟨a,e,r⟩:=r;rwa[a,e,r.imp (λr=>#[?_,r.2]) id]
  cases q:g a with
  |none=>rfl
  |some i=>show absurd (j a (by rw[q];simp)) r.1
 let⟨F,l,d⟩:=h
 cases k with
 |sh=>show c (λb z=>.inl z) d.2
 |fr k=>have d:Tr _ _ _ _ _ _ _:=d;unfold Tr at d;show c (λb z=>.inl z) d.2
 |bo i k=>let⟨z_,m,y_,f⟩:=d;unfold Tr at f;show c (λb z=>.inl z) f.2
def K5{g:Gh}{hd:Hd}(p:hd.mu=Uj)(m:MuOk H (Sg g))(s1:Same H H1)(h:VR K g H H1 k (.nd hd ds) (.ref a)):g a=L\/∃i∈pS k,g a=B (B i):=by
 let l:∀{S:Pr},(∀b,g b≠L->S b)->¬S a->g a=L:=λs n=>by
  cases q:g a with
  |none=>rfl
  |some i=>show absurd (s a (by rw[q];simp)) n
 cases k with
 |sh=>
  left;let⟨F,v,u,e⟩:=h;let⟨f,o,c,e1,d,z_⟩:=e.nd;ext e1;show l (λb z=>.inl z) d
 |fr k=>
  left;let⟨f,o,c,e1,d,z_⟩:=(h.sh rfl m s1).nd;ext e1;show l (λb z=>z) d
 |bo i k=>
  let⟨F,v,u,y,e,j⟩:=h
  cases k with
  |fz=>
   left;let⟨f,o,c,e1,d,z_⟩:=j.fz_inv.2.nd;ext e1;show l (λb z=>.inl z) d
  |own w r=>
   right;unfold Tr at j;let⟨f,o,c,x,e1,z_,y_,x_,w_,t,v_⟩:=j;ext e1;rwa[i,Qs.mpr rfl,e a ((t a).mpr (.inl #[p,rfl]))]
def iu{ds:-D}(m:MuOk H (Sg g))(s1:Same H H1)(h:VR K g H H1 k d v)(e:ir (B (k,d))=B (bs,ds)) :
  Σa s,v=.ref a/\(Σx,SqL K H1 a x)/\jp K (Jr K a) s ds/\jp K (G.MM K a) s (ds.mapIdx λi d=>D.tup [.int i,d])/\s.P K g H1/\s.from g H bs:=by
 delta ir at e
 .ext1 y w c;ext c;ext e e
  .ext1 hk;ext e;let⟨a,o,r,rfl,t,n,u⟩:=h.items hk m s1;cases(n);rwa[a,.l a ds,rfl,#[r,.of t],G0,G3,#[r,.of t,u],K5 rfl m s1 h]
  .ext e
 .ext1 y ns c;ext c;ext e;let⟨a,rfl,q⟩:=h.scrK;rcases q with⟨n,p⟩|q
  .rwa[a,.l a _,rfl,#[_,.inl p],G0,G3,#[_,.inl p,RpL.ints ns],.inl n]
  .rwa[a,.non,rfl,#[_,.inr q],λi b j Z f=>G0 i b j #[_,.inr q,RpL.ints ns] f,λi b j Z f=>G3 i b j #[_,.inr q,RpL.ints ns] f,trivial,trivial]
 .ext e
def K6{p:Ro->@&KD}{tg e:Uo}(A:SndE X p e):SndI X (λZ=>sO (p Z)) tg e:=by
 intro Z E z h g Y H R c q;cbv at h
 cases f:p Z with
 |none=>rw[f] at h;ext h
 |some O=>
  let⟨k,d⟩:=O;rw[f] at h;by_cases w:Σx,d=.str x
  .let⟨x,rfl⟩:=w;ext h
  by_cases y:Σb,d=.tup b
  .let⟨b,rfl⟩:=y;dsimp[sO] at h;ext h h
   .ext1 hk;ext h;show lj (Ge aC) (A Z k _ f g Y H _ c λv r s1 j=>?_);let⟨a,o,l,rfl,m,F,M⟩:=j.items hk c.mu s1;cases(F);rwa[a,rfl,#[l,.of m],q _ (.t a z) r s1 NX #[l,.of m,M] ?_]
    cases u:g a with
    |none=>show u
    |some i=>
     let⟨o,e1,n⟩:=c.mu.same s1 a (by rw[Sg,u];simp);rw[m] at e1;ext e1;show absurd rfl (n l)
   .ext h
  .let I:ir (B (k,d))=B (E,z):=by
    cases d with
    |nd P b=>cases P with
     |tup=>show absurd #[b,rfl] y
     |_=>show h
    |str x=>show absurd #[x,rfl] w
    |_=>show h
   show lj (BW aC) (A Z k d f g Y H _ c λv r s1 j=>?_);let⟨a,s,rfl,N,D,z_,C,K⟩:=iu c.mu s1 j I;rwa[a,rfl,N,q _ s r s1 D C K]
def K7(O:aq X Γ c){i:Ro->@&KD}{tg e:Uo}(y:jh c.sc "enumerate" = Uj)(j:ah e=Uj)(o:lr tg=Uj)(A:SndE X i e):SndI X (λZ=>xb (i Z)) tg (.Call (.Name "enumerate" p) [e] [] pos):=by
 intro Z I K h g Y H R l q;cbv at h
 cases f:i Z with
 |none=>rw[f] at h;ext h
 |some C=>
  let⟨k,d⟩:=C;rw[f] at h;unfold xb at h
  cases b:ir (B (k,d)) with
  |none=>rw[b] at h;ext h
  |some r=>
   let⟨m,u⟩:=r;rw[b] at h;ext h
   cases tg with
   |Tuple E M F=>
    show lj (G.Ch (d9 O y) (O.tab.bl _ (by simp[aV])) (bB aC eM (am j)) (am j)) (A Z _ _ f g Y H _ l λv D s1 n=>?_);let⟨a,s,rfl,z,z_,w,t,x⟩:=iu l.mu s1 n b;rwa[a,rfl,z,q _ s D s1 w t x]
   |_=>show absurd o (by simp[lr])
def G4(O:aq X Γ c){a:Ro->@&KD}{tg e:Uo}(l:jh c.sc "range" = Uj)(d:ah e=Uj)(m:SndE X a e):SndI X (λZ=>sQ (B (.sh,.int 0)) (a Z)) tg (.Call (.Name "range" p) [e] [] pos):=by
 intro Z r s h g Y H R k q;dsimp only[sQ] at h;generalize i:a Z=A at h
 obtain _|⟨o,_|_|j|_⟩:=A<;>try cases h
 .cbv at h;ext h h
  .ext1 b;dsimp[f6,Qd,decide_eq_true_eq] at b;ext h;show lj (wz (d9 O l) (O.tab.bl _ (by simp[aV])) (bB aC eM (am d)) (am d)) (m Z _ _ i g Y H _ k λv n s1 f=>?_);obtain rfl:=f.rd.int;rwa[j,rfl,b.1.1.2,b.1.2,q _ .non n s1 ?_ trivial trivial];delta gP;rw[Int.sub_zero];show K4 0 _
  .ext h
def G5(O:aq X Γ c){d fb:Ro->@&KD}(r:jh c.sc "range" = Uj)(f:ah e=Uj)(a:ah e2=Uj)(t:SndE X d e)(l:SndE X fb e2):SndI X (λZ=>sQ (d Z) (fb Z)) tg (.Call (.Name "range" p) [e,e2] [] pos):=by
 intro Z z C h g Y H R o q;dsimp only[sQ] at h;generalize m:d Z=A at h;generalize n:fb Z=Bqq at h
 obtain _|⟨v,_|_|i|_⟩:=A<;>try cases h
 obtain _|⟨w,_|_|j|_⟩:=Bqq<;>try cases h
 .cbv at h;ext h h
  .ext1 b;dsimp[f6,Qd,decide_eq_true_eq] at b;ext h;show lj (wB (d9 O r) (O.tab.bl _ (by simp[aV])) (bB aC (bB aC eM (am a)) (am f)) (by rw[am f,am a];rfl) (am a)) ?_;show two t l m n o λx y u s1 k s=>?_;obtain rfl:=k.rd.int;obtain rfl:=s.rd.int;rwa[i,j,rfl,#[b.1.1.1.1,b.1.1.1.2,b.1.1.2,b.1.2],q _ .non u s1 (K4 i _) trivial trivial]
  .ext h
def G6(h1:jp K (Jr K a) s xs)(h2:jp K (Jr K b) u ys):jp K (G.NL K a b) (.two s u) (xc xs ys):=by
 intro i g H k m;let k:s.P K g H/\u.P K g H:=k;let⟨s1,A⟩:=h1 i g H k.1 m;let⟨s2,t⟩:=h2 i g H k.2 m
 let M:Σc,SqL K H a c/\(xs.length<=i->c.length<=i):=by
  by_cases e:xs.length<=i
  .let⟨c,e1,e2⟩:=s1 e;rwa[c,e1,λZ=>e2]
  .obtain⟨⟨c,x,e1,_⟩,_⟩:=A _ (Qi (S1 e));rwa[c,e1,λz=>absurd z e]
 let F:Σc,SqL K H b c/\(ys.length<=i->c.length<=i):=by
  by_cases e:ys.length<=i
  .let⟨c,e1,e2⟩:=s2 e;rwa[c,e1,λZ=>e2]
  .obtain⟨⟨c,x,e1,_⟩,_⟩:=t _ (Qi (S1 e));rwa[c,e1,λz=>absurd z e]
 let⟨c,S,V⟩:=M;let⟨D,b1,b2⟩:=F;rwa[λe=>#[c,D,S,b1,?_],λd h=>?_]
 .unfold xc at e;rw[Tw] at e;by_cases I:xs.length<=i
  .show .inl (V I)
  .show .inr (b2 ∅)
 .unfold xc at h;rw[Sm] at h
  cases j:xs[i]? with
  |none=>rw[j] at h;simp at h
  |some x=>
   cases l:ys[i]? with
   |none=>rw[j,l] at h;simp at h
   |some y=>
    rw[j,l] at h;dsimp[Option.some.injEq] at h;subst h;obtain⟨⟨r,Q,e1,e2⟩,N⟩:=A x j;obtain⟨⟨n,O,e3,e4⟩,W⟩:=t y l;rwa[#[r,n,Q,O,e1,e3,e2,e4],λz X R=>?_];let⟨p,v,w,f,rfl,rfl,C,U⟩:=R;let E:=(N v H #[rfl,C]).2;let T:=(W w H #[rfl,U]).2;rwa[ag f,?_];delta Rp;rwa[p,_,_,rfl,λz=>?_,al,rfl,.cons (E.same (ag f)) (.cons (T.same (ag f)) .nil)];let⟨o,q,z_⟩:=m p z;rw[f] at q;ext q
def K8(O:aq X Γ c){o fb:Ro->@&KD}(S:jh c.sc "zip" = Uj)(r:ah e=Uj)(f:ah e2=Uj)(C:lr tg=Uj)(U:SndE X o e)(P:SndE X fb e2):SndI X (λZ=>sP (o Z) (fb Z)) tg (.Call (.Name "zip" p) [e,e2] [] pos):=by
 intro Z bs ds h g Y H R n q;dsimp only[sP] at h
 cases j:o Z with
 |none=>rw[j] at h;ext h
 |some V=>
  let⟨k,d⟩:=V
  cases m:fb Z with
  |none=>
   rw[j,m] at h;ext h h
   .ext h
   .ext h
  |some l=>
   let⟨k2,d2⟩:=l;rw[j,m] at h;ext h h
   .ext1 w xs T;ext h h
    .ext1 A ys E;ext h
     cases tg with
     |Tuple es kk tp=>
      show lj (G.GF (d9 O S) (O.tab.bl _ (by simp[aV])) (bB aC (bB aC eM (am f)) (am r)) (by rw[am r,am f];rfl) (am f)) ?_;show two U P j m n λx y W s1 t F=>?_;let⟨a,s,rfl,K,D,z_,M,v⟩:=iu n.mu s1 t T;let⟨b,u,rfl,Q,I,z_,N,f2⟩:=iu n.mu s1 F E;rwa[a,b,rfl,K,Q,q _ (.two s u) W s1 (G6 D I) #[M,N] #[v.from_mono λi z=>QL _ z,f2.from_mono λi z=>Ql _ z]]
     |_=>show absurd C (by simp[lr])
    .ext h
   .ext h
meta def K9:D->@&String
 |.bl _=>B "bool"
 |.int _=>B "int"
 |.nd .lst _=>B "list"
 |.nd .tup _=>B "tuple"
 |_=>L
def pT(T:Str)(d:D):@&Bool:=match K9 d with
 |some t=>if T="int" then B (t=="int" || t=="bool") else if T="bool" then B (t=="bool") else if T="list" then B (t=="list") else if T="tuple" then B (t=="tuple") else L
 |none=>L
def La{t:String}(h:Rp K H S d v)(e:K9 d=B t):r9 K H v (.type t):=by
 cases d with
 |bl b=>obtain rfl:=h.bl;ext e;show .bl b
 |int b=>obtain rfl:=h.int;ext e;show .int b
 |nd f i=>
  cases f with
  |lst=>
   let⟨a,o,c,rfl,z_,g,q,r⟩:=h.nd;ext e;cases(q);show .lst g
  |tup=>
   let⟨a,o,c,rfl,z_,g,q,r⟩:=h.nd;ext e;cases(q);show .tup g
  |_=>ext e
 |_=>ext e
meta def eh:-Str:=["int","bool","list","tuple"]
meta def sR:-String:=["bool","int","list","tuple"]
def CJ{p:String->Prop}(b:p "bool")(c:p "int")(e:p "list")(f:p "tuple"):∀t∈sR,p t:=by
 intro t a;dsimp[sR,Qf,Qw,or_false] at a
 obtain rfl|rfl|rfl|rfl:=a<;>assumption
def CK{t:String}(a:K9 d=B t):t∈sR:=by
 cases d with
 |nd b c=>cases b with
  |lst=>ext a;show .tail _ (.tail _ (.head _))
  |tup=>ext a;show .tail _ (.tail _ (.tail _ (.head _)))
  |_=>ext a
 |bl _=>ext a;show .head _
 |int _=>ext a;show .tail _ (.head _)
 |_=>ext a
theorem G7:∀t∈sR,RH K (.type t) (.type "int")=B (t=="int" || t=="bool"):=CJ (by with_unfolding_all rfl) (by with_unfolding_all rfl) (by with_unfolding_all rfl) (by with_unfolding_all rfl)
theorem CL:∀t∈sR,RH K (.type t) (.type "bool")=B (t=="bool"):=CJ (by with_unfolding_all rfl) (by with_unfolding_all rfl) (by with_unfolding_all rfl) (by with_unfolding_all rfl)
theorem CM:∀t∈sR,RH K (.type t) (.type "list")=B (t=="list"):=CJ (by with_unfolding_all rfl) (by with_unfolding_all rfl) (by with_unfolding_all rfl) (by with_unfolding_all rfl)
theorem y3:∀t∈sR,RH K (.type t) (.type "tuple")=B (t=="tuple"):=CJ (by with_unfolding_all rfl) (by with_unfolding_all rfl) (by with_unfolding_all rfl) (by with_unfolding_all rfl)
def CN(h:pT T d=B b):Σt e,K9 d=B t/\T∈eh/\bootBuiltins T=B (.type e)/\RH K (.type t) (.type e)=B b:=by
 unfold pT at h
 cases c:K9 d with
 |none=>rw[c] at h;ext h
 |some t=>
  rw[c] at h;let a:=CK c;cbv at h;by_cases f:T="int"
  .subst f;rw[if_pos rfl] at h;rwa[t,"int",rfl,by simp[eh],by rfl,(G7 t a).trans h]
  by_cases e1:T="bool"
  .subst e1;rw[if_neg ⋯,if_pos rfl] at h;rwa[t,"bool",rfl,by simp[eh],by rfl,(CL t a).trans h]
  by_cases e2:T="list"
  .subst e2;rw[if_neg ⋯,if_neg ⋯,if_pos rfl] at h;rwa[t,"list",rfl,by simp[eh],by rfl,(CM t a).trans h]
  by_cases e3:T="tuple"
  .subst e3;rw[if_neg ⋯,if_neg ⋯,if_neg ⋯,if_pos rfl] at h;rwa[t,"tuple",rfl,by simp[eh],by rfl,(y3 t a).trans h]
  rw[if_neg f,if_neg e1,if_neg e2,if_neg e3] at h;ext h
def xd(T:Str)(a:@&KD):@&KD:=match a with|some (_,d)=>bV (pT T d)|none=>L
def Lb(O:aq X Γ c){m:Ro->@&KD}(x:jh c.sc "isinstance" = Uj)(i:jh c.sc T=Uj)(j:ah a=Uj)(z:SndE X m a):SndE X (λZ=>xd T (m Z)) (.Call (.Name "isinstance" p) [a,.Name T p2] [] pos):=by
 intro Z D d h g Y H Q u q;dsimp only[xd] at h;ext h h
 .ext1 C w o
  cases f:pT T w with
  |none=>rw[f] at h;ext h
  |some b=>
   rw[f] at h;ext h;let⟨t,k,y,l,r,s⟩:=CN f
   let e:T∈aV/\T≠"__name__"/\(T==("__debug__":Str))=Uk:=by
    dsimp[eh,Qf,Qw,or_false] at l
    obtain rfl|rfl|rfl|rfl|rfl|rfl:=l<;>rwa[by simp[aV],⋯,⋯]
   show aB (hZq pR (d9 O x) (O.tab.bl _ (by simp[aV])) PyProof.Rows.boot_isinstance (bB aC (bB (BM (v:=.ty k) (d9 O i) (O.tab.bl _ e.1) r rfl e.2.1 e.2.2) eM (am rfl)) (am j)) ⋯ ⋯ (am j) (bZ rfl)) ?_;show z Z _ _ o g Y H _ u λv A s1 n=>#[v,k,_,b,rfl,La n.rd y,s,q _ A s1 EB]
 .ext h
end
mutual
def sT:D->Ow->Bool
 |.nd _ ds,.own es r=>gQ ds es r
 |d,_=>uC d
def gQ:-D->-Ow->Ow->Bool
 |[],_,_=>Uj
 |d::ds,es,r=>sT d (es.headD r)&&gQ ds es.tail r
end
section
variable {K:P9} {H H' H0:Hp} {S S':Pr} {g:Gh}
mutual
theorem Tr.clean(m:MuOk H S'):∀{d:D} {k:Ow} {v:V} {F:Pr},sT d k=Uj->Tr K H S d k v F->Tr K H S' d k v F
 |.non,_,_,_,c,h=>by unfold Tr at h⊢;rwa[h.1,h.2.im m rfl]
 |.bl _,_,_,_,c,h=>by unfold Tr at h⊢;rwa[h.1,h.2.im m rfl]
 |.int _,_,_,_,c,h=>by unfold Tr at h⊢;rwa[h.1,h.2.im m rfl]
 |.str _,_,_,_,c,h=>by unfold Tr at h⊢;rwa[h.1,h.2.im m rfl]
 |.scr ns,k,_,_,c,h=>by ext c
 |.nd hd ds,.fz,_,_,c,h=>by
  let c:uC (.nd hd ds)=Uj:=c;unfold Tr at h⊢;rwa[h.1,h.2.im m c]
 |.nd hd ds,.own es r,v,F,c,h=>by
  let c:gQ ds es r=Uj:=c;unfold Tr at h⊢;let⟨a,o,p,l,e,g,f,q,s,j,t⟩:=h;rwa[a,o,p,l,e,g,f,q,λi z=>?_,j,TrL.clean m c t];let⟨u,b,n⟩:=m a z;rw[g] at b;ext b
  cases hd with
  |tup=>show n _ f
  |_=>show absurd i (by simp[Hd.mu])
theorem TrL.clean(m:MuOk H S'):∀{ds:-D} {es:-Ow} {r:Ow} {vs:-V} {F:Pr},gQ ds es r=Uj->TrL K H S ds es r vs F->TrL K H S' ds es r vs F
 |[],_,_,_,_,_,h=>by unfold TrL at h⊢;show h
 |d::ds,es,r,vs,F,c,h=>by
  dsimp[gQ,Qd] at c;unfold TrL at h⊢;let⟨y,a,k,i,e,b,f,j,g⟩:=h;rwa[y,a,k,i,e,b,f,Tr.clean m c.1 j,TrL.clean m c.2 g]
end
def lu:Kd->D->Bool
 |.sh,d=>uC d
 |.fr k,d=>sT d k
 |.bo _ _,_=>Uk
def VR.clean(c:lu kd d=Uj)(m:MuOk H0 (Sg g))(s:Same H0 H)(h:VR K g' H0 H kd d v):VR K g H0 H kd d v:=by
 let⟨F,f,a⟩:=h;let e:MuOk H (Sx g F):=λb z=>z.elim (λz=>m.same s b z) λz=>a.dom b z;rwa[F,f,?_]
 cases kd with
 |sh=>rwa[a.1,a.2.im e c]
 |fr k=>show Tr.clean e c a
 |bo i k=>ext c
end
meta def bt:Kd->Bool
 |.bo _ _=>Uj
 |_=>Uk
def CP(U:Fn)(kds:-KD):@&KD:=
 match U (kds.map (·.2)) with
 |some (kd,d)=>if(kds.all λp=>pK p.1 p.2)=Uj then(if bt kd=Uj then L else B (kd,d)) else if lu kd d=Uj then B (kd,d) else L
 |none=>L
def y4(U:@&Fn)(a:@&(-KD)):@&KD:=match U,a with|some U,B kds=>CP U kds|_,_=>L
section
variable {X:Cx} {Γ:fw} {c:Cz}
def uK(K:P9)(h:CP U kds=B (kd,d)){Q:VK}(m:MuOk H0 (Sg g))(s:Same H0 H)(r:VRs K g H0 H kds vs)(q:∀v H',Same H H'->VR K g H0 H' kd d v->Q v H'):nZ K U vs H Q E:=by
 delta CP at h
 .ext1 j p i;ext h h
  .ext1 k;ext h h
   .ext h
   .ext h;rwa[_,g,_,_,r.sh k m s,m.same s,i,λv c s2 f=>q v c s2 (f.older s)]
  .ext h h
   .ext1 l;ext h;rwa[_,λZ=>L,_,_,r.rd.go (λb o n e=>#[e,λz=>z rfl]),λa z=>absurd rfl z,i,λv c s2 f=>q v c s2 ((f.clean l (m.same s) s2).older s)]
   .ext h
 .ext h
def NY(O:aq X Γ c){es:-Uo}{f:Ro->@&(-KD)}(o:kg X f (e::es))(b:jh c.sc x=Uj)(r:ah e=Uj)(i:es.all ah=Uj):SndE X (λZ=>y4 (Γ.fn x) (f Z)) (.Call (.Name x p) (e::es) [] pos):=by
 intro Z u d h g Y H Q a q;dsimp only[y4] at h;ext h h
 .ext1 U m k s;show aB (KH (t:=wA X (e::es)) (λW W W W=>dO) (O.tab.fn x U k) (NQ b) (d9 O b) dI (am r) (bZ i)) (o Z _ s g Y H _ a λw y s1 j=>?_);show uK X.K h a.mu s1 j λv l s2 n=>q v l (s1.trans s2) n
 .ext h
theorem uM:∀{es:-Uo} {env:Env} {cp:Pos},es.all ah=Uj->(backTo cp (Uv es env)).all (λx=>!x.1)=Uj
 |[],_,_,_=>rfl
 |e::es,env,cp,h=>by
  rw[Q3,Qd] at h;let a:=uM (env:=env) (cp:=cp) h.2;let c:=am (es:=es) (env:=env) h.1;rw[c];let b:backTo cp ((Uk,eval e env)::Uv es env)=(backTo cp [(Uk,eval e env)])++backTo cp (Uv es env):=by delta backTo;simp
  rw[b,List.all_append,a,Tt];rfl
def uN{a pos:Pos}(g:attributeBase o m env (eval o env)=eval o env)(n:(e::es).all ah=Uj)(i:(a.endLine==pos.line)=Uj)(b:(e::es).length<30) :
  eval (.Call (.Attribute o m a) (e::es) [] pos) env=(do
   let c <- eval o env
   standAt a.atName
   let (f,first) <- holding [c] (getMethod c m (do return (<- importBound o env).getD Uj))
   callWith pos f first (backTo pos (Uv (e::es) env)) (backToKw pos (keywordEach [] env))):=by
 let h:methodCallForm ((e::es).length+([]:-Keyword).length) (backTo pos (Uv (e::es) env)) (backToKw pos (keywordEach [] env))=Uj:=by
  change((backTo pos (Uv (e::es) env)).all (λx=>!x.1)&&(backToKw pos (keywordEach [] env)).all (λx=>x.1.isSome)&&decide ((e::es).length+([]:-Keyword).length+(if([]:-Keyword).isEmpty then 0 else 1)<30))=Uj
  rw[uM n];have:(backToKw pos (keywordEach [] env)).all (λx=>x.1.isSome)=Uj:=rfl;rw[this];simpa using b
 let d:methodCallPos Uj o env a pos=pure pos:=by delta methodCallPos;simp[i]
 rw[arm_eval_Call,g];delta methodCall;rw[h];delta calleeOf;dsimp[d,if_true,pure_bind]
theorem sU{m:Str}:∀{ns:-Str} {xs:-V},ns.contains m=Uk->(ns.zip xs).lookup m=L
 |[],_,_=>rfl
 |n::ns,[],_=>rfl
 |n::ns,x::xs,h=>by
  dsimp[List.contains_cons,R0] at h;change Rf m ((n,x)::ns.zip xs)=L;rw[QJ,h.1];show sU h.2
def EE(O:aq X Γ c){es:-Uo}{P pos:Pos}{M:Ro->@&KD}{V:Ro->@&(-KD)}(hM:rL y=Uj)(ho:SndE X M o)(ha:kg X V (e::es))(hb:ee o=Uj)(hl:(P.endLine==pos.line)=Uj)(R:ah e=Uj)(N:es.all ah=Uj)(s:(e::es).length<30) :
  SndE X (λZ=>y4 (Γ.fn y) (ca (M Z) (V Z))) (.Call (.Attribute o (mM y) P) (e::es) [] pos):=by
 intro Z kd d h g Y H Q D q;dsimp only[y4] at h;ext h h
 .ext1 U hf hU n;let I:=O.tab.fn y U hU;unfold il at I;rw[if_pos hM] at I;let⟨C,k,f,fd,ps,hn,cl,mt,F,hr,u,E⟩:=I;delta ca at n
  .ext1 x w e1 e2;ext n;let⟨k0,m⟩:=x
   let hq:Σr,U (((k0,m)::w).map (·.2))=B r:=by
    cases z:U (((k0,m)::w).map (·.2)) with
    |none=>unfold CP at h;rw[z] at h;ext h
    |some r=>rwa[r,rfl]
   let⟨r0,t⟩:=hq;let i:=E _ _ t
   let p:Σj ns b,m=.nd (.obj j ns) b/\j=mC y/\ns.contains (mM y)=Uk:=by
    rw[QE] at i
    cases m with
    |nd hd b=>
     cases hd with
     |obj j ns=>
      let i:(decide (j=mC y)&&!ns.contains (mM y))=Uj:=i;rw[Qd,decide_eq_true_eq,QZ] at i;rwa[j,ns,b,rfl,i.1,i.2]
     |_=>cases(i)
    |_=>cases(i)
   let⟨j,ns,b,rfl,rfl,A⟩:=p;show aB (um aC cl mt F hr u .nil pB dI (am R) (bZ N) (uN (dP hb) (by rw[Q3,R,N];rfl) hl s)) (ho Z _ _ e1 g Y H _ D λv H1 s1 T=>?_);let⟨a,ob,hc,rfl,z_,ga,hk,y_⟩:=T.rd.nd;let⟨C',dx,l,z_,rfl,y_⟩:=hk;rw[hn] at l;ext l;let⟨F1,W,S⟩:=T;rwa[a,dx,_,rfl,ga,sU A,ha Z w e2 (g.plus F1) Y H1 _ (D.plus s1 W S.dom) λvs H2 s2 r2=>?_];rw[Q1];show uK X.K h D.mu (s1.trans s2) (.cons s1 s2 W S r2) λv2 H3 s3 r3=>q v2 H3 ((s1.trans s2).trans s3) r3
  .ext n
 .ext h
end
inductive IT where
 |nm (i:Nat)
 |tp (ts:-IT)
mutual
noncomputable def sV:IT->D->@&(-(Nat×D))
 |.nm i,d=>B [(i,d)]
 |.tp ts,.nd .tup ds=>CQ ts ds
 |_,_=>L
noncomputable def CQ:-IT->-D->@&(-(Nat×D))
 |[],[]=>B []
 |t::ts,d::ds=>match sV t d,CQ ts ds with
  |some a,B b=>B (a++b)
  |_,_=>L
 |_,_=>L
end
meta def Jx(d:D):Sl:=#[Uk,.fz,d]
def setAll:-(Nat×D)->Ro->Ro
 |[],Z=>Z
 |(i,d)::r,Z=>setAll r (Z.set i (B (Jx d)))
meta def y6(f:Uo->@&IT):-Uo->@&(-IT)
 |[]=>B []
 |e::es=>match f e,y6 f es with
  |some a,B b=>B (a::b)
  |_,_=>L
def n5(c:Cz):Nat->Uo->@&IT
 |0,_=>L
 |n+1,e=>match e with
  |.Name x _=>if mf c x then(a9 x c.N).map .nm else L
  |.Tuple es _ _=>if es.all ah then(y6 (n5 c n) es).map .tp else L
  |_=>L
def SE.set{Z:Ro}{Y:L2.St}(h:SE K g Z Y H)(i:Nat)(r:Rp K H (Sg g) d v):SE K g (Z.set i (B (Jx d))) (Y.set i (B v)) H:=by
 rwa[λj f e=>?_,h.mu,by simp[h.len]];by_cases c:j=i
 .subst c
  let a:j<Z.length:=by
   have:=(Qb.mp e).1;simpa using this
  rw[QF a] at e;ext e;rwa[v,_,QF (by rw[<- h.len];show a),λb z=>z.elim,.fz r]
 .rw[QH (Ne.symm c)] at e⊢;show h.slot j f e
def SE.pass{Z:Ro}{Y:L2.St}(h:SE K g Z Y H)(i:Nat)(n:∀a,Z[i]?≠B (B a)):SE K g Z (Y.set i (B v)) H:=by
 rwa[λj a e=>?_,h.mu,by simp[h.len]];let b:j≠i:=λz=>n a (z▸e);rw[QH (Ne.symm b)];show h.slot j a e
meta def iy:-(Nat×V)->L2.St->L2.St
 |[],Y=>Y
 |(i,v)::r,Y=>iy r (Y.set i (B v))
theorem pU:∀(a b:-(Nat×V)) (Y:L2.St),iy (a++b) Y=iy b (iy a Y)
 |[],_,_=>rfl
 |(i,v)::a,b,Y=>pU a b _
section
variable {X:Cx} {Γ:fw} {c:Cz}
def RpP(K:P9)(H:Hp)(S:Pr):-(Nat×D)->-(Nat×V)->Prop
 |[],vs=>vs=[]
 |(i,d)::r,vs=>Σv ws,vs=(i,v)::ws/\Rp K H S d v/\RpP K H S r ws
theorem RpP.app:∀{a b:-(Nat×D)} {x y:-(Nat×V)},RpP K H S a x->RpP K H S b y->RpP K H S (a++b) (x++y)
 |[],_,_,_,h,g=>by rw[(h)];show g
 |(i,d)::a,b,_,y,h,g=>by
  let⟨v,e,rfl,f,c⟩:=h;rwa[v,e++y,rfl,f,RpP.app c g]
mutual
def G8(K:P9):IT->TG
 |.nm i=>hV i
 |.tp ts=>F8 K ts.length (pW K ts)
def pW(K:P9):-IT->ya
 |[]=>F7
 |t::ts=>ui (G8 K t) (pW K ts)
end
mutual
theorem iz:∀{t:IT} {d:D} {ps:-(Nat×D)} {v:V} {Y:L2.St} {Q:L2.St->Hp->Prop},sV t d=B ps->Rp K H S d v->(∀vs,RpP K H S ps vs->Q (iy vs Y) H)->G8 K t v Y H Q
 |.nm i,d,ps,v,Y,Q,ht,r,q=>by
  ext ht;show q [(i,v)] #[v,[],rfl,r,rfl]
 |.tp ts,d,ps,v,Y,Q,ht,r,q=>by
  cases d with
  |nd j k=>
   cases j with
   |tup=>
    let⟨a,o,g,rfl,z_,f,e,b⟩:=r.nd;cases(e);let⟨h,c⟩:=lx ht b q;change F8 K ts.length (pW K ts) (.ref a) Y H Q;rwa[a,g,rfl,.of f,c,h]
   |_=>ext ht
  |_=>ext ht
theorem lx:∀{ts:-IT} {ds:-D} {ps:-(Nat×D)} {vs:-V} {Y:L2.St} {Q:L2.St->Hp->Prop},CQ ts ds=B ps->RpL K H S ds vs->(∀ws,RpP K H S ps ws->Q (iy ws Y) H)->pW K ts vs Y H Q/\vs.length=ts.length
 |[],[],ps,vs,Y,Q,ht,r,q=>by
  ext ht;rw[r.nil_inv];rwa[#[rfl,q [] rfl],rfl]
 |t::ts,d::ds,ps,vs,Y,Q,ht,r,q=>by
  replace ht:(match sV t d,CQ ts ds with|some a,B b=>B (a++b)|_,_=>L)=B ps:=ht
  ext ht ht
  .ext1 a b m g;ext ht;let⟨y,h,rfl,j,i⟩:=r.cons_inv;change ui (G8 K t) (pW K ts) (y::h) Y H Q/\_;let f:=(lx (Y:=Y) (Q:=λZ Z=>True) g i λZ Z=>trivial).2;rwa[#[y,h,rfl,iz m j λc l=>(lx g i λe k=>?_).1],by simp[f]];have:=q (c++e) (l.app k);rw[pU] at this;show this
  .ext ht
 |[],_::_,ps,vs,Y,Q,ht,r,q=>by ext ht
 |_::_,[],ps,vs,Y,Q,ht,r,q=>by ext ht
end
def cZ(h:ah e=Uj):UI (e::es) env=(Uk,assign e env)::UI es env:=by
 cases e<;>first|rfl|cases h
theorem pX(O:aq X Γ c):∀(n:Nat) {e:Uo} {t:IT},n5 c n e=B t->PG X e (G8 X.K t)
 |0,e,t,h=>by ext h
 |n+1,e,t,h=>by
  let v:∀{e:Uo} {t:IT},n5 c n e=B t->PG X e (G8 X.K t):=λh=>pX O n h
  let o:∀{d:-Uo} {g:-IT},d.all ah=Uj->y6 (n5 c n) d=B g->F5 X d (pW X.K g)/\(UI d X.env).length=g.length/\(UI d X.env).findIdx? (·.1)=L:=by
   intro d
   induction d with
   |nil=>intro g _ h;ext h;dsimp[pW];rwa[uj,rfl,rfl]
   |cons e d m=>
    intro g f h;rw[Q3,Qd] at f;delta y6 at h
    .ext1 a b z w;ext h;let⟨u,r,s⟩:=m f.2 w;dsimp[pW];rwa[pb (v z) u (by rw[cZ f.1];rfl),by rw[cZ f.1,QI,r];rfl,?_];rw[cZ f.1,QS];simp[s]
    .ext h
  delta n5 at h
  .ext1 x p;ext h h
   .ext1 y
    cases q:a9 x c.N with
    |none=>rw[q] at h;ext h
    |some i=>
     rw[q] at h;ext h;let l:=ji O y;dsimp[G8];show uh (by rw[O.N];show O.nd) (by rw[O.N];show aP q) l.1 l.2
   .ext h
  .ext1 d k p;ext h h
   .ext1 f
    cases j:y6 (n5 c n) d with
    |none=>rw[j] at h;ext h
    |some g=>
     rw[j] at h;ext h;let⟨u,r,s⟩:=o f j;dsimp[G8];show yd O.calm u r s
   .ext h
  .ext h
theorem SE.setAll{H:Hp}:∀{ps:-(Nat×D)} {vs:-(Nat×V)} {Z:Ro} {Y:L2.St},RpP K H (Sg g) ps vs->SE K g Z Y H->SE K g (setAll ps Z) (iy vs Y) H
 |[],vs,Z,Y,h,se=>by rw[(h)];show se
 |(i,d)::ps,vs,Z,Y,h,se=>by
  let⟨v,b,rfl,c,a⟩:=h;show SE.setAll (Z:=Z.set i (B (Jx d))) (vs:=b) a (se.set i c)
meta def bW(ps:-(Nat×D))(Z:Ro):Bool:=ps.all λp=>match Z[p.1]? with|some L=>Uj|_=>Uk
theorem SE.passAll{H:Hp}:∀{ps:-(Nat×D)} {vs:-(Nat×V)} {Z:Ro} {Y:L2.St},RpP K H S ps vs->bW ps Z=Uj->SE K g Z Y H->SE K g Z (iy vs Y) H/\∀(j:Nat) a,Z[j]?=B (B a)->(iy vs Y)[j]?=Y[j]?
 |[],vs,Z,Y,h,_,se=>by rw[(h)];rwa[se,λW W W=>rfl]
 |(i,d)::ps,vs,Z,Y,h,hn,se=>by
  let⟨v,l,rfl,m,c⟩:=h;dsimp[bW,Q3,Qd] at hn
  let b:∀a,Z[i]?≠B (B a):=λa e=>by
   have:=hn.1;rw[e] at this;ext this
  let⟨k,f⟩:=SE.passAll c (by simpa[bW] using hn.2) (se.pass i b);rwa[k,λj a e=>(f j a e).trans (QH (λz=>b a (by rw[z];show e)))]
end
meta def Gh.re(m:Nat->@&Nat)(g:Gh):Gh:=λb=>match g b with
 |some (B i)=>B (m i)
 |x=>x
section
variable {K:P9} {H H':Hp} {g:Gh} {F F2:Pr} {m:Nat->@&Nat}
def ki(b:Up):Sg (g.re m) b↔Sg g b:=by
 unfold Gh.re Sg
 cases h:g b with
 |none=>simp[h]
 |some x=>cases x<;>simp[h]
def jq:(g.plus F).plus F2=g.plus (λb=>F b\/F2 b):=by
 funext b;delta Gh.plus;by_cases c:F2 b
 .simp[c]
 .by_cases a:F b
  .simp[a]
  .simp[a,c]
def aZ(h:F b):g.plus F b=B L:=by
 delta Gh.plus;rw[if_pos h]
def SE.upd(h:SE K g Z Y H)(d:g p=B L)(k:∀xs,o≠.tup xs):SE K g Z Y (upd H p o):=by
 let f:∀b c,b≠p->H b=B c->L2.upd H p o b=B c:=λb c n e=>by rw[ac n];show e
 rwa[λi j e=>?_,λb z=>?_,h.len]
 .let⟨v,F,e1,e2,e3⟩:=h.slot i j e;rwa[v,F,e1,e2,e3.go (λb c a e=>f b c (λz=>?_) e) λW W W n=>n];subst z;obtain a|a:=a
  .show a (by rw[Sg,d];simp)
  .rw[e2 b a] at d;ext d
 .by_cases a:b=p
  .rwa[o,by rw[a];show al,k]
  .let⟨c,e,n⟩:=h.mu b z;rwa[c,f b c a e,n]
meta def aT(Z:Ro)(cap:-(@&Nat)):Ro:=cap.map λo=>o.bind λi=>(Z[i]?).join
meta def jr(cap:-(@&Nat))(i:Nat):@&Nat:=cap.findIdx? λo=>o==B i
meta def ly(cap:-(@&Nat)):Bool:=decide (cap.filterMap id).Nodup
theorem uO:∀{cap:-(@&Nat)} {j i:Nat},(cap.filterMap id).Nodup->cap[j]?=B (B i)->jr cap i=B j
 |[],j,i,_,e=>by simp at e
 |o::cap,0,i,hn,e=>by
  simp at e;subst e;simp[jr,QS]
 |o::cap,j+1,i,hn,e=>by
  let c:cap[j]?=B (B i):=by simpa using e
  let f:i∈cap.filterMap id:=SI.mpr #[B i,QD c,rfl]
  let b:(o==B i)=Uk:=by
   cases o with
   |none=>rfl
   |some k=>
    dsimp[QN,id] at hn;have:=(QK.mp hn).1;dsimp[beq_eq_false_iff_ne,ne_eq,Option.some.injEq];intro z;subst z;show this f
  let a:(cap.filterMap id).Nodup:=by
   cases o with
   |none=>simpa using hn
   |some k=>dsimp[QN,id] at hn;show(QK.mp hn).2
  let d:=uO a c;unfold jr at d⊢;rw[QS,b,d];rfl
def SE.cap(h:SE K g Z Y H){cap:-(@&Nat)}(d:ly cap=Uj):SE K (g.re (jr cap)) (aT Z cap) (cU Y cap) H:=by
 rwa[λj c e=>?_,λb z=>h.mu b ((ki b).mp z),by simp[aT,cU]];unfold aT at e;delta cU;rw[Qc] at e⊢
 cases q:cap[j]? with
 |none=>rw[q] at e;ext e
 |some o=>
  rw[q] at e
  cases o with
  |none=>ext e
  |some i=>
   let a:(Z[i]?).join=B c:=by simpa using e
   let e2:Z[i]?=B (B c):=by
    cases z:Z[i]? with
    |none=>rw[z] at a;ext a
    |some w=>rw[z] at a;have:w=B c:=a;rw[this]
   let⟨v,F,l,f,k⟩:=h.slot i c e2;rwa[v,F,by simp[l],λb z=>?_,k.go (λW W W h=>h) λb o W n z=>n ((ki b).mp z)];delta Gh.re;rw[f b z];change B (jr cap i)=_;rw[uO (by simpa[ly] using d) q]
end
meta def gh(scope O:UC):UC:=
 { scope with names:=scope.names.map λ(n,k)=>if(k==.free&&O.kind==.function&&O.names.lookup n==B .cell) then(n,.cell) else(n,k) }
def CS{env:Env}(h:env.scope=sc):relabel scope env=gh scope sc:=by
 subst h;rfl
def aA(c:Cz)(scope:UC):-(@&Nat):=scope.names.map λ(x,k)=>if k=.free then a9 x c.N else L
meta def ae(scope:UC):-Str:=scope.names.map (·.1)
def bb(c:Cz)(scope:UC):Bool:=
 scope.kind==.function&&decide (ae scope).Nodup&&ly (aA c scope)&&scope.names.all λ(x,k)=>(k != .free||c.sc.names.lookup x==B .cell||c.sc.names.lookup x==B .free)
theorem c9:∀{l:-(Str×UJ)} {x:Str} {k:UJ},(l.map (·.1)).Nodup->(x,k)∈l->l.lookup x=B k
 |(y,j)::r,x,k,hn,a=>by
  rw[QJ];rw[QE,QK] at hn;obtain e|a:=Qf.mp a
  .ext e;simp
  .have:x≠y:=λz=>hn.1 (by rw[<- z];show Qv.mpr #[(x,k),a,rfl]);let e:(x==y)=Uk:=by simpa using this
   rw[e];show c9 hn.2 a
def dA(O:aq X Γ c)(h:bb c scope=Uj):fC X (ae scope) scope (aA c scope):=by
 dsimp[bb,Qd,decide_eq_true_eq,QB,beq_iff_eq] at h;obtain⟨⟨⟨p,m⟩,_⟩,o⟩:=h;let hk:∀x,X.env.kindOf x=c.sc.names.lookup x:=λx=>by change X.env.scope.names.lookup x=_;rw[O.sc]
 let a:∀y∈scope.names,y.2=.free->X.env.kindOf y.1=B .cell\/X.env.kindOf y.1=B .free:=λy f e=>by
  have:=o y f;dsimp[Rn,bne_iff_ne,beq_iff_eq] at this;rw[hk];rcases this with(z|z)|z
  .show absurd e z
  .show .inl z
  .show .inr z
 rwa[p,λy f e=>?_,λy f e=>?_,a,by simp[aA,ae],λj i x d g=>?_]
 .let⟨x,k⟩:=y;let l:k=.cell:=e;subst l;show c9 m f
 .let⟨x,k⟩:=y;let l:k=.local:=e;subst l;show c9 m f
 .unfold ae at d;unfold aA at g;rw[Qc] at d g
  cases q:scope.names[j]? with
  |none=>rw[q] at d;ext d
  |some y=>
   rw[q] at d g;let⟨y,k⟩:=y;ext d
   let b:(if k=.free then a9 y c.N else L)=B i:=by simpa using g
   ext b b
   .ext1 e;subst e;let n:=QD q;rwa[by rw[O.N];show aP b,c9 m n,a _ n rfl]
   .ext b
def dc{c:Cz}(O:aq X Γ c)(h:bb c scope=Uj)(C:Up)(s:Uq)(H:Hp)(ex:-Up):aq (ai X (ae scope) scope C s H ex) Γ #[gh scope c.sc,ae scope,gO scope]:=by
 dsimp[bb,Qd,decide_eq_true_eq] at h;rwa[CS O.sc,rfl,λx z=>z,O.calm,h.1.1.2,#[O.tab.fn,O.tab.cf,O.tab.fm,O.tab.bl,O.tab.units,O.tab.gd,O.tab.cst]]
def dS(tg:IT)(U:Ro->@&Bool)(R:Ro->@&KD)(O:Ro)(d:D):@&(@&KD):=match sV tg d with
 |some ps=>if bW ps O=Uj then(match U (setAll ps O) with|some Uj=>(R (setAll ps O)).map B|some Uk=>B L|none=>L) else L
 |none=>L
def aQ(r:Ow)(f:D->@&(@&KD)):-D->@&(-D)
 |[]=>B []
 |d::ds=>match f d,aQ r f ds with
  |some (B kd),B ys=>if bR r kd=Uj then B (kd.2::ys) else L
  |some L,B ys=>B ys
  |_,_=>L
theorem ju:∀{a b:-D} {ys:-D},aQ r f (a++b)=B ys->Σx y,aQ r f a=B x/\aQ r f b=B y/\ys=x++y
 |[],b,ys,h=>#[[],ys,rfl,h,rfl]
 |d::a,b,ys,h=>by
  rw[Rs] at h;delta aQ at h
  .ext1 j i e1 e2;ext h h
   .ext1 g;ext h;let⟨x,y,e,c,rfl⟩:=ju e2;rwa[j.2::x,y,by simp[aQ,e1,e,g],c,rfl]
   .ext h
  .ext1 i e1 e2;ext h;let⟨x,y,e,c,rfl⟩:=ju e2;rwa[x,y,by simp[aQ,e1,e],c,rfl]
  .ext h
def lC{a:-D}{d:D}{x:-D}(h:aQ r f a=B x){y:-D}(h1:aQ r f [d]=B y):aQ r f (a++[d])=B (x++y):=by
 induction a generalizing x with
 |nil=>ext h;show h1
 |cons e a b=>
  unfold aQ at h;rw[Rs];delta aQ;ext h h
  .ext1 i g e1 e2;ext h h
   .ext1 c;ext h;rw[e1,b e2];simp[c]
   .ext h
  .ext1 g e1 e2;ext h;rw[e1,b e2]
  .ext h
def sW{f:D->@&(@&KD)}{ds ys:-D}(h:aQ r f ds=B ys){i:Nat}(e:ds[i]?=B d){x:-D}(c:aQ r f (ds.take i)=B x) :
  (f d=B L/\aQ r f (ds.take (i+1))=B x)\/Σb,f d=B (B b)/\bR r b=Uj/\aQ r f (ds.take (i+1))=B (x++[b.2]):=by
 let j:ds=ds.take i++(d::ds.drop (i+1)):=by
  let⟨m,rfl⟩:=Qb.mp e;rw[<- QW m,Sn]
 let k:ds.take (i+1)=ds.take i++[d]:=by rw[RU,e];rfl
 rw[j] at h;let⟨z_,y,y_,a,x_⟩:=ju h;unfold aQ at a;rw[k];ext a a
 .ext1 b l e1 e2;ext a a
  .ext1 g;show .inr #[b,e1,g,lC c (by simp[aQ,e1,g])]
  .ext a
 .ext1 l e1 e2;show .inl #[e1,by simpa using lC c (y:=[]) (by simp[aQ,e1])]
 .ext a
def mZ(r:Ow)(it:@&(-Nat×-D))(f:D->@&(@&KD)):@&KD:=match it with
 |some (_,ds)=>if ds.length<=100000 then(match aQ r f ds with|some ys=>B (.fr (.own [] r),.lst ys)|none=>L) else L
 |none=>L
theorem jv:∀{ds ys:-D},aQ r f ds=B ys->ys.length<=ds.length
 |[],ys,h=>by ext h;show Qe _
 |d::ds,ys,h=>by
  delta aQ at h
  .ext1 b a e1 e2;ext h h
   .ext h;have:=jv e2;simp;lia
   .ext h
  .ext1 a e1 e2;ext h;have:=jv e2;simp;lia
  .ext h
section
variable {K:P9} {H:Hp} {S:Pr}
theorem TrL.snoc:∀{ds:-D} {r:Ow} {us:-V} {F F2:Pr} {d:D} {v:V},TrL K H S ds [] r us F->Tr K H S d r v F2->(∀b,F b->¬F2 b)->TrL K H S (ds++[d]) [] r (us++[v]) (λb=>F b\/F2 b)
 |[],r,us,F,F2,d,v,h,t,dj=>by
  unfold TrL at h;let⟨rfl,k⟩:=h;delta TrL;rwa[v,[],F2,λZ=>False,rfl,λb=>#[λz=>.inl (z.elim (λz=>absurd z (k b)) id),λz=>z.elim .inr λz=>z.elim],λZ Z z=>z,t,?_];delta TrL;rwa[rfl,λZ z=>z]
 |e::ds,r,us,F,F2,d,v,h,t,dj=>by
  unfold TrL at h;let⟨y,l,j,g,rfl,c,f,n,m⟩:=h;delta TrL;rwa[y,l++[v],j,λb=>g b\/F2 b,rfl,λb=>?_,λb i a=>?_,n,TrL.snoc m t λb z=>dj b ((c b).mpr (.inr z))]
  .change F b\/F2 b↔j b\/g b\/F2 b;rw[c b,or_assoc]
  .obtain a|a:=a
   .show f b i a
   .show dj b ((c b).mpr (.inl i)) a
end
def G9(X:Cx)(O:-Uo):TT:=λY H Q=>∀pins s,Inv X pins Y H s->⇑X (forIn O Uj λc r=>if r=Uj then do let ok <- isTrue c X.env (eval c X.env);pure (ForInStep.yield ok) else pure (ForInStep.yield r)) (TP X pins Y Q) X.xe s
theorem sX{b:TT}(p:Cj X ifs b)(h:b Y H Q):G9 X ifs Y H Q:=λa s I=>p a s Y H Q I h
def j4(X:Cx)(f:Ro->@&Bool)(O:-Uo):Prop:=∀Z b,f Z=B b->∀g Y H Q,SE X.K g Z Y H->(∀H',Same H H'->Q b H')->G9 X O Y H Q
theorem EF:j4 X (λZ=>B Uj) []:=λZ b h g Y H Q a q=>by ext h;show sX uB (q H (Same.refl H))
theorem Lc{e:Uo}(h:SndT X f e):j4 X f [e]:=λZ b a g Y H Q c q=>sX (Ck jb) (h Z b a g Y H Q c q)
section
variable {X:Cx} {Γ:fw} {c:Cz}
abbrev NZ(K:P9)(f:-J.D->@&(-J.D))(r:Ow)(ds:-J.D)(g g':Gh)(Z:Ro)(H1:Hp)(D:Up):Nat->Nat->L2.St->Hp->Prop:=λi m Y' H'=>m=ds.length-i/\i<=ds.length/\Σ(O:Pr) (us:-V) (R:-J.D),f (ds.take i)=B R/\(∀b,O b->H1 b=L/\b≠D)/\SE K (g'.plus λb=>b=D\/O b) Z Y' H'/\
  (∀b o,H1 b=B o->H' b=B o)/\H' D=B (.lst us)/\TrL K H' (Sx g λb=>b=D\/O b) R [] r us O
def y7(O:aq X Γ c){fi:Ro->@&(-Nat×-D)}(hck:bb c scope=Uj)(hi:SndI X fi tg iter)(hs:n5 #[gh scope c.sc,ae scope,gO scope] n tg=B t)(hj:∀C s H ex,j4 (ai X (ae scope) scope C s H ex) ft ifs)(hv:∀C s H ex,SndE (ai X (ae scope) scope C s H ex) fe elt)(h:mZ r (fi Z) (dS t ft fe (aT Z (aA c scope)))=B (kd,d)){Y:L2.St}{Q:VK}(se:SE X.K g Z Y H)(q:∀v H',Same H H'->VR X.K g H H' kd d v->Q v H') :
  ja (wI X tg iter) (λv Y H Q=>∀C s R ex,wG (ai X (ae scope) scope C s R ex) tg v Y H Q) (λY H Q=>∀C s R ex,G9 (ai X (ae scope) scope C s R ex) ifs Y H Q) (λY H Q=>∀C s R ex,wE (ai X (ae scope) scope C s R ex) elt Y H Q) (aA c scope) Y H Q:=by
 let hn:ly (aA c scope)=Uj:=by
  dsimp[bb,Qd] at hck;show hck.1.2
 delta mZ at h
 .ext1 bs l hit;ext h h
  .ext1 hf;ext h h
   .ext1 ys hm;ext h;let CO:=dc O hck;show hi Z bs l hit g Y H _ se λjj hz H1 s1 jt sp sf D hD=>?_;let u:SE X.K (g.re (jr (aA c scope))) (aT Z (aA c scope)) (cU Y (aA c scope)) H1:=(se.same s1).cap hn;generalize ht:g.re (jr (aA c scope))=g' at u;let gS:∀b,Sg g' b↔Sg g b:=λb=>by rw[<- ht];show ki b
    generalize hZ:aT Z (aA c scope)=Zc at u hm;generalize hY:cU Y (aA c scope)=Yc at u;clear hZ hY
    show#[NZ X.K (aQ r (dS t ft fe Zc)) r l g g' Zc H1 D,
     #[l.length,∎,QM _,λJ=>False,[],[],by simp[aQ],λb z=>z.elim,?_,λb o e=>ag hD _ _ e,al,by delta TrL;rwa[rfl,λJ z=>z]],?_]
    .show u.plus (ag hD) (λb z=>z.elim (λz=>z▸hD) λz=>z.elim) λb z=>z.elim (λz=>#[.lst [],z▸al,λxs h=>by cases h]) λz=>z.elim
    rintro i m Y' H' ⟨rfl,h3,f,T,yi,I,j,S,kk,gD,tr⟩
    let A:∀b,Sg (g'.plus λb=>b=D\/f b) b↔Sx g (λb=>b=D\/f b) b:=λb=>(aj b).trans (or_congr (gS b) Iff.rfl);let M:∀b o,H1 b=B o->¬(b=D\/f b):=λb o e z=>z.elim (λz=>by rw[z,hD] at e;ext e) λz=>by rw[(j b z).1] at e;ext e
    let h2:hz.P X.K (g'.plus λb=>b=D\/f b) H':=Src.mono (λb o e n z=>((A b).mp z).elim n (M b o e)) (λb o J e=>kk b o e) (λa e=>sf.from_t e) sp;let⟨j1,j2⟩:=jt i _ H' h2 S.mu;by_cases F:i<l.length
    .let hd:l[i]?=B l[i]:=Qi F;let⟨go,yl⟩:=j2 _ hd;show .inr #[go,λx H2 hy C s0 R ex=>?_];let⟨s2,rx⟩:=yl x H2 hy;let st:=sW hm hd I
     let U:Σo,dS t ft fe Zc l[i]=B o:=by
      rcases st with⟨e,_⟩|⟨kd,e,_⟩
      .rwa[_,e]
      .rwa[_,e]
     let⟨o0,E⟩:=U;let p:=E;delta dS at p
     .ext1 ps h1;ext p p
      .ext1 hw;show uD (pX (CO C s0 R ex) n hs) (iz h1 rx λvs hh C1 hc hl hg=>?_);let t1:=SE.setAll hh (S.same s2);let⟨t2,t3⟩:=SE.passAll hh hw (S.same s2);ext p p
       .ext1 hT
        show hj C1 hc hl hg _ Uj hT _ _ _ _ t1 λH3 s3=>wR λC2 h0 hp hx=>?_
        cases W:fe (setAll ps Zc) with
        |none=>rw[W] at p;ext p
        |some ke=>
         rw[W] at p;ext p;let⟨ky,y⟩:=ke
         let w:bR r (ky,y)=Uj/\aQ r (dS t ft fe Zc) (l.take (i+1))=B (yi++[y]):=by
          rcases st with⟨e,_⟩|⟨kd,e,e2,e3⟩
          .rw[E] at e;ext e
          .rw[E] at e;ext e;rwa[e2,e3]
         show hv C2 h0 hp hx _ ky y W _ _ H3 _ (t1.same s3) λvy H4 s4 r4=>?_;let⟨Fy,y1,y2⟩:=r4;let Jy:Same H' H4:=(s2.trans s3).trans s4;let V:SE X.K (g'.plus λb=>b=D\/f b) Zc (iy vs Y') H3:=t2.same s3
         let hu:∀b,Fy b->(g'.plus λb=>b=D\/f b) b=L:=λb z=>by
          cases e:(g'.plus λb=>b=D\/f b) b with
          |none=>rfl
          |some k=>
           let⟨o,q2,z_⟩:=V.mu b (by rw[Sg,e];simp);rw[y1 b z] at q2;ext q2
         let mm:MuOk H4 (Sx (g'.plus λb=>b=D\/f b) Fy):=λb z=>z.elim (λz=>V.mu.same s4 b z) λz=>y2.dom b z;let⟨F2,a1,a2⟩:=VR1.fit w.1 mm hu (λb z=>z) y2;let ho:H4 D=B (.lst T):=Jy _ _ gD;let N:¬F2 D:=λz=>by have:=y1 D (a1 D z);rw[(s2.trans s3) _ _ gD] at this;ext this
         let ha:∀b,F2 b->H' b=L:=λb z=>(s2.trans s3).free (y1 b (a1 b z))
         let hr:T.length<=i:=by
          rw[tr.len];show QG (jv I) (by rw[QO];lia)
         let kD:∀b o,b≠D->H4 b=B o->upd H4 D (.lst (T++[vy])) b=B o:=λb o n e=>by rw[ac n];show e
         rwa[T,ho,Rc hr (Qn F (aO hf)),l.length-(i+1),∅,rfl,F,λb=>f b\/F2 b,T++[vy],yi++[y],w.2,λb z=>?_,?_,λb o e=>?_,al,?_]
         .obtain z|z:=z
          .show j b z
          .rwa[?_,λe=>N (e▸z)]
           cases e:H1 b with
           |none=>rfl
           |some o=>have:=ha b z;rw[kk b o e] at this;ext this
         .let e1:(g'.plus λb=>b=D\/(f b\/F2 b))=(g'.plus λb=>b=D\/f b).plus F2:=by
           rw[jq];congr 1;funext b;show propext #[λz=>z.elim (λz=>.inl (.inl z)) λz=>z.elim (λz=>.inl (.inr z)) .inr,λz=>z.elim (λz=>z.elim .inl λz=>.inr (.inl z)) λz=>.inr (.inr z)]
          rw[e1];show SE.upd (V.plus s4 (λb z=>y1 b (a1 b z)) λb z=>y2.dom b (a1 b z)) ?_ (λxs h=>by ext h);rw[jq];show aZ (.inl (.inl rfl))
         .show kD b o (λz=>M b o e (.inl z)) (Jy _ _ (kk b o e))
         .show TrL.snoc (tr.go (λb o hb e=>kD b o (λz=>?_) (Jy _ _ e)) λb o e n z=>?_) ((a2 (λb=>g b≠L\/b=D\/f b\/F2 b) λb z=>?_).go (λb o hb e=>kD b o (λz=>?_) e) λb o e n z=>n z) λb z1 z2=>?_
          .subst z;show hb.elim (λz=>z (.inr (.inl rfl))) λz=>(j b z).2 rfl
          .obtain z|z|z|z:=z
           .show n (.inl z)
           .show n (.inr (.inl z))
           .show n (.inr (.inr z))
           .rw[ha b z] at e;ext e
          .obtain z|z|z|z:=z
           .show .inr (.inl ((A b).mpr (.inl z)))
           .show .inr (.inl ((A b).mpr (.inr (.inl z))))
           .show .inr (.inl ((A b).mpr (.inr (.inr z))))
           .show .inr (.inr (.inl z))
          .subst z;show hb.elim (λz=>z (.inr (.inl rfl))) N
          .let⟨o,e,z_⟩:=tr.dom b z1;rw[ha b z2] at e;ext e
       .ext1 hT;ext p
        let w:aQ r (dS t ft fe Zc) (l.take (i+1))=B yi:=by
         rcases st with⟨_,e⟩|⟨kd,e,_⟩
         .show e
         .rw[E] at e;ext e
        show hj C1 hc hl hg _ Uk hT _ _ _ _ t1 λH3 s3=>wQ ?_;let sY:=s2.trans s3;rwa[l.length-(i+1),∅,rfl,F,f,T,yi,w,j,t2.same s3,λb o e=>sY _ _ (kk b o e),sY _ _ gD,tr.go (λb o J e=>sY _ _ e) λJ J J n=>n]
       .ext p
      .ext p
     .ext p
    .let e:i=l.length:=∅
     subst e;rw[QQ,hm] at I;ext I;show .inl #[j1 (Qe _),q _ H' (λb o e=>kk b o (s1 _ _ e)) #[λb=>b=D\/f b,λb z=>s1.free (z.elim (λz=>z▸hD) λz=>(j b z).1),?_]];change Tr _ _ _ _ _ _ _;delta Tr
     rwa[D,_,T,f,rfl,gD,rfl,λJ z=>(j D z).2 rfl,(λh=>nomatch h),λb=>#[λz=>z.imp (λz=>#[rfl,z]) id,λz=>z.imp (λz=>z.2) id],tr]
   .ext h
  .ext h
 .ext h
meta def dB:Uo->Bool
 |.Set ..=>Uk
 |_=>Uj
def dh(h:dB e=Uj)(x:Um):foldedSetIterable e env x=pure x:=by
 cases e<;>first|rfl|cases h
def Ha(O:aq X Γ c){p:Ro->@&(-Nat×-D)}(hck:bb c scope=Uj)(hns:dB iter=Uj)(hi:SndI X p tg iter)(l:n5 #[gh scope c.sc,ae scope,gO scope] n tg=B t)(o:∀C s H ex,j4 (ai X (ae scope) scope C s H ex) ft ifs)(k:∀C s H ex,SndE (ai X (ae scope) scope C s H ex) fe elt) :
  SndE X (λZ=>mZ r (p Z) (dS t ft fe (aT Z (aA c scope)))) (.ListComp elt [#[tg,iter,ifs,0]] scope pos):=by
 intro Z x d h g Y H Q w q
 show aB (pJ O.calm (dA O hck) wX
  (λC s e ex a b i m v u j I r f=>wY a b i m v u j I r (f C s e ex)) (λC s e ex a b i m j I f=>f C s e ex a b I) (λC s e ex a b i m j I f=>f C s e ex a b I) (dh hns)) (y7 O hck hi l o k h w q)
end
mutual
inductive IE where
 |var (i:Nat)
 |lit (d:D)
 |bin (op:UD) (a b:IE)
 |cmp (op:UO) (a b:IE)
 |chain (op op':UO) (a b d:IE)
 |not (a:IE)
 |bool (op:BoolOp) (es:f7)
 |ifx (t a b:IE)
 |lst (k:Ow) (es:f7)
 |tup (k:Ow) (es:f7)
 |dnew (t:Nat) (r:Ow)
 |ix (a b:IE)
 |sl (a:IE) (lo hi:IO)
 |stp (a:IE) (lo:IO) (st:IE)
 |isi (T:Str) (a:IE)
 |fld (f:Str) (a:IE)
 |fn (i:Nat) (es:f7)
 |blt (x:Str) (es:f7)
 |comp (r:Ow) (cap:-(@&Nat)) (tg:IT) (it:II) (ts:IO) (elt:IE)
inductive f7 where
 |nil
 |cons (a:IE) (r:f7)
inductive IO where
 |non
 |som (a:IE)
inductive II where
 |e (a:IE)
 |rng (a b:IE)
 |enm (a:IE)
 |zp (a b:IE)
end
def EG(t:Nat)(r:Ow):@&KD:=B (.fr (.own [] r),.dic t [] [])
mutual
def aa(Γ:Nat->@&Fn):IE->Ro->@&KD
 |.var i,Z=>ed i Z[i]?
 |.lit d,_=>B (.sh,d)
 |.bin op a b,Z=>Cv op (aa Γ a Z) (aa Γ b Z)
 |.cmp op a b,Z=>bV (n4 op (aa Γ a Z) (aa Γ b Z))
 |.chain op op' a b d,Z=>bV (jl op op' (aa Γ a Z) (aa Γ b Z) (aa Γ d Z))
 |.not a,Z=>bV ((eO (aa Γ a Z)).map (!·))
 |.bool op es,Z=>mi Γ op es Z
 |.ifx t a b,Z=>MN (aR Γ t Z) (aa Γ a Z) (aa Γ b Z)
 |.lst k es,Z=>sI k (bf Γ es Z)
 |.tup k es,Z=>jm k (bf Γ es Z)
 |.dnew t r,_=>EG t r
 |.ix a b,Z=>Cy (aa Γ a Z) (aa Γ b Z)
 |.sl a lo hi,Z=>Jw (aa Γ a Z) (gm Γ lo Z) (gm Γ hi Z)
 |.stp a lo st,Z=>yV (aa Γ a Z) (gm Γ lo Z) (aa Γ st Z)
 |.isi T a,Z=>xd T (aa Γ a Z)
 |.fld f a,Z=>CA f (aa Γ a Z)
 |.fn i es,Z=>y4 (Γ i) (bf Γ es Z)
 |.blt x es,Z=>sN x (bf Γ es Z)
 |.comp r cap tg it ts elt,Z=>mZ r (gp Γ it Z) (dS tg (eA Γ ts) (aa Γ elt) (aT Z cap))
def aR(Γ:Nat->@&Fn):IE->Ro->@&Bool
 |.cmp op a b,Z=>n4 op (aa Γ a Z) (aa Γ b Z)
 |.chain op op' a b d,Z=>L
 |.not a,Z=>(aR Γ a Z).map (!·)
 |.bool op es,Z=>gz Γ op es Z
 |.var i,Z=>eO (ed i Z[i]?)
 |.ix a b,Z=>eO (Cy (aa Γ a Z) (aa Γ b Z))
 |.isi T a,Z=>eO (xd T (aa Γ a Z))
 |.fn i es,Z=>eO (y4 (Γ i) (bf Γ es Z))
 |.blt x es,Z=>eO (sN x (bf Γ es Z))
 |_,_=>L
def eA(Γ:Nat->@&Fn):IO->Ro->@&Bool
 |.non,_=>B Uj
 |.som a,Z=>aR Γ a Z
def bf(Γ:Nat->@&Fn):f7->Ro->@&(-KD)
 |.nil,_=>B []
 |.cons a r,Z=>ca (aa Γ a Z) (bf Γ r Z)
def mi(Γ:Nat->@&Fn)(op:BoolOp):f7->Ro->@&KD
 |.nil,_=>L
 |.cons a r,Z=>match r with
  |.nil=>aa Γ a Z
  |.cons _ _=>(match aa Γ a Z with
   |some (_,.bl x)=>if(op==.And)=x then mi Γ op r Z else B (.sh,.bl x)
   |_=>L)
def gz(Γ:Nat->@&Fn)(op:BoolOp):f7->Ro->@&Bool
 |.nil,_=>L
 |.cons a r,Z=>match r with
  |.nil=>aR Γ a Z
  |.cons _ _=>(match aR Γ a Z with
   |some x=>if(op==.And)=x then gz Γ op r Z else B x
   |none=>L)
def gm(Γ:Nat->@&Fn):IO->Ro->@&(@&Int)
 |.non,_=>B L
 |.som a,Z=>CH (aa Γ a Z)
def gp(Γ:Nat->@&Fn):II->Ro->@&(-Nat×-D)
 |.e a,Z=>sO (aa Γ a Z)
 |.rng a b,Z=>sQ (aa Γ a Z) (aa Γ b Z)
 |.enm a,Z=>xb (aa Γ a Z)
 |.zp a b,Z=>sP (aa Γ a Z) (aa Γ b Z)
end
section
theorem CT:aa Γ (.var i) Z=ed i Z[i]?:=rfl
theorem uP:aa Γ (.lit d) Z=B (.sh,d):=rfl
theorem CU:aa Γ (.bin op a b) Z=Cv op (aa Γ a Z) (aa Γ b Z):=rfl
theorem CV:aa Γ (.cmp op a b) Z=bV (n4 op (aa Γ a Z) (aa Γ b Z)):=rfl
theorem xf:aa Γ (.chain op op' a b d) Z=bV (jl op op' (aa Γ a Z) (aa Γ b Z) (aa Γ d Z)):=rfl
theorem CW:aa Γ (.not a) Z=bV ((eO (aa Γ a Z)).map (!·)):=rfl
theorem iA:aa Γ (.bool op es) Z=mi Γ op es Z:=rfl
theorem uQ:aa Γ (.ifx t a b) Z=MN (aR Γ t Z) (aa Γ a Z) (aa Γ b Z):=rfl
theorem CY:aa Γ (.lst k es) Z=sI k (bf Γ es Z):=rfl
theorem CZ:aa Γ (.tup k es) Z=jm k (bf Γ es Z):=rfl
theorem y8:aa Γ (.ix a b) Z=Cy (aa Γ a Z) (aa Γ b Z):=rfl
theorem Hb:aa Γ (.sl a lo hi) Z=Jw (aa Γ a Z) (gm Γ lo Z) (gm Γ hi Z):=rfl
theorem C0:aa Γ (.stp a lo st) Z=yV (aa Γ a Z) (gm Γ lo Z) (aa Γ st Z):=rfl
theorem uR:aa Γ (.isi T a) Z=xd T (aa Γ a Z):=rfl
theorem C4:aa Γ (.fld f a) Z=CA f (aa Γ a Z):=rfl
theorem y9{Γ:Nat->@&Fn}:aa Γ (.fn i es) Z=y4 (Γ i) (bf Γ es Z):=rfl
theorem uS:aa Γ (.blt x es) Z=sN x (bf Γ es Z):=rfl
theorem pY:aa Γ (.comp r cap tg it ts elt) Z=mZ r (gp Γ it Z) (dS tg (eA Γ ts) (aa Γ elt) (aT Z cap)):=rfl
theorem pZ:aR Γ (.cmp op a b) Z=n4 op (aa Γ a Z) (aa Γ b Z):=rfl
theorem za:aR Γ (.not a) Z=(aR Γ a Z).map (!·):=rfl
theorem f8:aR Γ (.bool op es) Z=gz Γ op es Z:=rfl
theorem zb:aR Γ (.var i) Z=eO (ed i Z[i]?):=rfl
theorem zc:aR Γ (.isi T a) Z=eO (xd T (aa Γ a Z)):=rfl
theorem C5{Γ:Nat->@&Fn}:aR Γ (.fn i es) Z=eO (y4 (Γ i) (bf Γ es Z)):=rfl
theorem zd:aR Γ (.blt x es) Z=eO (sN x (bf Γ es Z)):=rfl
end
structure Nms where
 fns:-Str
 cs:-(Str×D)
 an:Nat->Nat->@&Ow:=λZ Z=>L
 md:Nat->Nat->@&Bool:=λZ Z=>L
 io:Nat->@&(-Bool):=λZ=>L
 vw:Nat->Nat->-Nat:=λZ Z=>[]
 cls:-(Str×-Str):=[]
def c6(fns:Nms)(Γ:Nat->@&Fn)(fm:Str->@&(P9->Sp)):fw:=#[λx=>(a9 x fns.fns).bind Γ,fm,λx=>fns.cs.lookup x,λx=>fns.cls.lookup x]
def e7(f:Uo->@&IE):-Uo->@&f7
 |[]=>B .nil
 |e::es=>if ah e then(match f e,e7 f es with|some a,B r=>B (.cons a r)|_,_=>L) else L
meta def eB(f:Uo->@&IE):-Uo->@&f7
 |[]=>B .nil
 |e::es=>match f e,eB f es with|some a,B r=>B (.cons a r)|_,_=>L
def Hc(c:Cz)(f:Uo->@&IE)(tg iter:Uo):@&II:=
 match iter with
 |.Call (.Name x _) [a] [] _=>
  if x="range" then(if jh c.sc "range" && ah a then(f a).map (.rng (.lit (.int 0))) else L)
  else if x="enumerate" then(if jh c.sc "enumerate" && ah a&&lr tg then(f a).map .enm else L)
  else(f iter).map .e
 |.Call (.Name x _) [a,b] [] _=>
  if x="range" then(if jh c.sc "range" && ah a&&ah b then(match f a,f b with|some a,B b=>B (.rng a b)|_,_=>L) else L)
  else if x="zip" then(if jh c.sc "zip" && ah a&&ah b&&lr tg then(match f a,f b with|some a,B b=>B (.zp a b)|_,_=>L) else L)
  else(f iter).map .e
 |_=>(f iter).map .e
meta def C6(f:Uo->@&IE):@&Uo->@&IO
 |none=>B .non
 |some e=>(f e).map .som
meta def sZ(f:Uo->@&IE):-Uo->@&IO
 |[]=>B .non
 |[e]=>(f e).map .som
 |_=>L
def ze(fns:Nms)(c:Cz)(f:Uo->@&IE)(x:Str)(es:-Uo):@&IE:=
 if jh c.sc x&&es.all ah then(match e7 f es with|some ies=>(match a9 x fns.fns with|some i=>(match fns.io i with|some _=>L|none=>B (.fn i ies))|none=>B (.blt x ies))|none=>L) else L
meta def He:IE->Bool
 |.var _|.ix ..|.isi ..|.fn ..|.blt ..=>Uj
 |_=>Uk
def p7(o:@&IE):@&IE:=match o with|some ie=>if He ie then B ie else L|none=>L
def Nms.kL(fns:Nms)(p:Pos):Ow:=(fns.an p.line p.col).getD bQ
meta def Nms.kT(fns:Nms)(p:Pos):Ow:=(fns.an p.line p.col).getD .fz
meta def Ld:Const->@&IE
 |.int i=>B (.lit (.int i))
 |.bool i=>B (.lit (.bl i))
 |.none=>B (.lit .non)
 |.str x=>B (.lit (.str x))
 |_=>L
meta def zf(f:Uo->@&IE)(a:Uo)(ops:-UO)(bs:-Uo):@&IE:=match ops with
 |[]=>L
 |op::ops=>match bs with
  |[]=>L
  |b::bs=>match ops with
   |[]=>(match bs with
    |[]=>if UL op b then L else match f a,f b with|some a,B b=>B (.cmp op a b)|_,_=>L
    |_::_=>L)
   |op'::ops=>match ops with
    |_::_=>L
    |[]=>match bs with
     |[]=>L
     |d::bs=>match bs with
      |_::_=>L
      |[]=>if UL op' d then L else match f a,f b,f d with|some a,B b,B d=>B (.chain op op' a b d)|_,_,_=>L
def Hf(f:Uo->@&IE)(a b:Uo):@&IE:=match b with
 |.Slice lo hi st _=>(match st with
  |none=>(match f a,C6 f lo,C6 f hi with|some a,B lo,B hi=>B (.sl a lo hi)|_,_,_=>L)
  |some st=>(match hi with
   |some _=>L
   |none=>(match f a,C6 f lo,f st with|some a,B lo,B b=>B (.stp a lo b)|_,_,_=>L)))
 |b=>if eP b then(match f a,f b with|some a,B b=>B (.ix a b)|_,_=>L) else L
def Hg(c:Cz)(f:Uo->@&IE)(O:-Uo):@&IE:=match O with
 |[]=>L
 |a::O=>match O with
  |[]=>L
  |t::O=>match O with
   |_::_=>L
   |[]=>match t with
    |.Name T _=>if jh c.sc "isinstance" && jh c.sc T&&ah a then(f a).map (.isi T) else L
    |_=>L
def Jz(m:Str):-Str->@&Nat
 |[]=>L
 |y::r=>if rL y=Uj/\mM y=m then B 0 else(Jz m r).map (·+1)
def Hh(fns:Nms)(f:Uo->@&IE)(o:Uo)(m:Str)(R:Pos)(O:-Uo)(pos:Pos):@&IE:=match Jz m fns.fns with
 |none=>L
 |some i=>match O with
  |[]=>L
  |a::es=>if ee o=Uj/\ah a=Uj/\es.all ah=Uj/\(R.endLine==pos.line)=Uj/\(a::es).length<30 then(match f o,e7 f (a::es) with|some o,B ies=>B (.fn i (.cons o ies))|_,_=>L) else L
def N0(fns:Nms)(c:Cz)(f:Uo->@&IE)(g:Uo)(O:-Uo)(ks:-Keyword)(pos:Pos):@&IE:=match ks with
 |_::_=>L
 |[]=>match g with
  |.Name x _=>if x="isinstance" then Hg c f O else(match O with
   |[]=>L
   |a::es=>ze fns c f x (a::es))
  |.Attribute o m ap=>Hh fns f o m ap O pos
  |_=>L
def Lf(fns:Nms)(c:Cz)(R U:Cz->Uo->@&IE)(elt:Uo)(O:-Comprehension)(scope:UC)(p:Pos):@&IE:=match O with
 |[]=>L
 |g::O=>match O with
  |_::_=>L
  |[]=>if g.is_async=0 then(if dB g.iter&&bb c scope then(match n5 #[gh scope c.sc,ae scope,gO scope] 4 g.target,Hc c (R c) g.target g.iter,sZ (U #[gh scope c.sc,ae scope,gO scope]) g.ifs,R #[gh scope c.sc,ae scope,gO scope] elt with
   |some t,B it,B ts,B el=>B (.comp ((fns.an p.line p.col).getD .fz) (aA c scope) t it ts el)|_,_,_,_=>L) else L) else L
meta def PP:Ow->Nat
 |.fz=>1
 |.own es _=>if es.length=0 then 1 else es.length
meta def PQ:Ow->Ow
 |.fz=>.fz
 |.own _ r=>r
mutual
def cE(fns:Nms):Nat->Cz->Uo->@&IE
 |0,_,_=>L
 |n+1,c,e=>match e with
  |.Name x p=>if jh c.sc x then(fns.cs.lookup x).map .lit else(match fns.md p.line p.col with|none=>(jk c x).map .var|some _=>L)
  |.Constant v _ _=>Ld v
  |.BinOp a op b _=>match cE fns n c a,cE fns n c b with|some a,B b=>B (.bin op a b)|_,_=>L
  |.Compare a ops bs _=>zf (cE fns n c) a ops bs
  |.UnaryOp op a _=>(match op with|.Not=>(cE fns n c a).map .not|_=>L)
  |.BoolOp op es _=>(eB (cE fns n c) es).map (.bool op)
  |.IfExp t a b _=>match cT fns n c t,cE fns n c a,cE fns n c b with|some t,B a,B b=>B (.ifx t a b)|_,_,_=>L
  |.List es p=>(e7 (cE fns n c) es).map (.lst (fns.kL p))
  |.Tuple es _ p=>(e7 (cE fns n c) es).map (.tup (fns.kT p))
  |.Dict ks vs p=>(match ks with|[]=>(match vs with|[]=>B (match fns.an p.line p.col with|some k=>.dnew (PP k) (PQ k)|none=>.dnew 0 .fz)|_::_=>L)|_::_=>L)
  |.Subscript a b _=>Hf (cE fns n c) a b
  |.Attribute a f _=>if ee a then(cE fns n c a).map (.fld f) else L
  |.Call g as ks pos=>N0 fns c (cE fns n c) g as ks pos
  |.ListComp elt gs scope p=>Lf fns c (cE fns n) (cT fns n) elt gs scope p
  |_=>L
def cT(fns:Nms):Nat->Cz->Uo->@&IE
 |0,_,_=>L
 |n+1,c,e=>match e with
  |.Compare a ops bs _=>zf (cE fns n c) a ops bs
  |.UnaryOp op a _=>(match op with|.Not=>(cT fns n c a).map .not|_=>L)
  |.BoolOp op es _=>(eB (cT fns n c) es).map (.bool op)
  |.Name x p=>p7 (cE fns n c (.Name x p))
  |.Call f as ks p=>p7 (cE fns n c (.Call f as ks p))
  |.Subscript a b p=>p7 (cE fns n c (.Subscript a b p))
  |_=>L
end
theorem N1{f:Ro->@&Bool}(h:∀Z,f Z=L):SndT X f e:=λZ b a=>by rw[h] at a;ext a
def bI{α β:Type}{o:Option α}{g:α->β}{b:β}(h:o.map g=B b):Σa,o=B a/\b=g a:=by
 cases o with
 |none=>ext h
 |some a=>ext h;rwa[a,rfl,rfl]
def n6(h:He ie=Uj):aR Γ ie=λZ=>eO (aa Γ ie Z):=by
 funext Z
 cases ie with
 |var i=>rfl
 |ix a b=>rfl
 |isi T a=>rfl
 |fn i c=>rfl
 |blt x c=>rfl
 |_=>ext h
def n8(d:D):aa Γ (.lit d)=λZ=>B (.sh,d):=by
 show funext λZ=>rfl
def lE(h:p7 o=B ie):o=B ie/\He ie=Uj:=by
 delta p7 at h
 .ext h h
  .ext1 hk;ext h;rwa[rfl,hk]
  .ext h
 .ext h
section
variable {X:Cx} {c:Cz} (fns:Nms) (Γ:Nat->@&Fn) {fm:Str->@&(P9->Sp)}
def Hj:SndE X (λW=>EG t r) (.Dict [] [] pos):=by
 intro Z f d h g Y H Q c q;cases(h)
 let b:∀{p:Up} {o:HO},H p=L->c7 X.K o (.dic t []) []->VR X.K g H (upd H p o) (.fr (.own [] r)) (.dic t [] []) (.ref p):=λ{p o} a e=>
  VRs.node rfl c.mu (Same.refl H) .nil a e rfl
 cases t with
 |zero=>show aB yF λp a=>q _ _ (ag a) (b a (.inl #[rfl,[],rfl,rfl,rfl]))
 |succ m=>show aB (yG) λp a=>q _ _ (ag a) (b a (.inr #[m,rfl,[],0,rfl,rfl,rfl]))
theorem f9{f:Uo->@&IE}(d:∀e g,f e=B g->SndE X (aa Γ g) e):∀{es:-Uo} {b:f7},e7 f es=B b->kg X (bf Γ b) es/\es.all ah=Uj
 |[],b,h=>by
  ext h;rwa[?_,rfl];have:bf Γ .nil=λY=>B []:=by funext Z;rfl
  rw[this];show ip
 |e::es,b,h=>by
  delta e7 at h
  .ext1 c;ext h h
   .ext1 a r k l;ext h;let⟨j,i⟩:=f9 d l;rwa[?_,by rw[Q3,c,i];rfl];have:bf Γ (.cons a r)=λZ=>ca (aa Γ a Z) (bf Γ r Z):=by funext Z;rfl
    rw[this];show dM c (d e a k) j
   .ext h
  .ext h
theorem uT{f:Uo->@&IE}(n:∀e z,f e=B z->SndE X (aa Γ z) e)(op:BoolOp)(pos:Pos):∀{es:-Uo} {c:f7},eB f es=B c->SndE X (mi Γ op c) (.BoolOp op es pos)
 |[],c,h=>by ext h;intro Z k d h;unfold mi at h;ext h
 |[a],c,h=>by
  unfold eB eB at h;ext h h
  .ext1 m r o j;ext h;ext j;intro Z k d h g Y H Q i q;unfold mi at h;show aB (FX aC) (n a m o Z k d h g Y H Q i q)
  .ext h
 |a::b::es,c,h=>by
  delta eB at h
  .ext1 m r o j;ext h;let rest:=uT n op pos j
   let y:ΣC A,r=.cons C A:=by
    delta eB at j
    .ext j;rwa[_,_,rfl]
    .ext j
   let⟨C,A,rfl⟩:=y;intro Z k d h g Y H Q i q;unfold mi at h;cbv at h;ext h h
   .ext1 D x s;ext h h
    .ext1 p
     cases op with
     |And=>
      show aB (xX aC aC) (n a m o Z _ _ s g Y H _ i λv l s1 r=>#[x,r.rd.bl,?_]);have:x=Uj:=by rw[<- p];rfl
      rw[if_pos this];show rest Z k d h g Y l Q (i.same s1) λt u s2 w=>q t u (s1.trans s2) (w.older s1)
     |Or=>
      show aB (Eu aC aC) (n a m o Z _ _ s g Y H _ i λv l s1 r=>#[x,r.rd.bl,?_]);have:x=Uk:=by rw[<- p];rfl
      rw[if_neg (by rw[this];decide)];show rest Z k d h g Y l Q (i.same s1) λt u s2 w=>q t u (s1.trans s2) (w.older s1)
    .ext1 p;ext h
     cases op with
     |And=>
      show aB (xX aC aC) (n a m o Z _ _ s g Y H _ i λv l s1 r=>#[x,r.rd.bl,?_])
      have:x=Uk:=by cases x with|true=>show absurd rfl p|false=>rfl
      subst this;rw[if_neg ⋯];show q _ l s1 EB
     |Or=>
      show aB (Eu aC aC) (n a m o Z _ _ s g Y H _ i λv l s1 r=>#[x,r.rd.bl,?_])
      have:x=Uj:=by cases x with|false=>show absurd rfl p|true=>rfl
      subst this;rw[if_pos rfl];show q _ l s1 EB
   .ext h
  .ext h
theorem uU{f:Uo->@&IE}(k:∀e t,f e=B t->SndT X (aR Γ t) e)(op:BoolOp)(pos:Pos):∀{es:-Uo} {c:f7},eB f es=B c->∀Z r,gz Γ op c Z=B r->∀g Y H Q,SE X.K g Z Y H->(∀H',Same H H'->Q r H')->wW X (.BoolOp op es pos) Y H Q
 |[],c,h,Z,r,d,g,Y,H,Q,se,q=>by ext h;unfold gz at d;ext d
 |[a],c,h,Z,r,hb,g,Y,H,Q,se,q=>by
  unfold eB eB at h;ext h h
  .ext1 j p l d;ext h;ext d;unfold gz at hb;let v:=k a j l Z r hb g Y H Q se q
   cases op with
   |And=>show mX (BN jb) v
   |Or=>show mX (FV jb) v
  .ext h
 |a::b::es,c,h,Z,r,hb,g,Y,H,Q,se,q=>by
  delta eB at h
  .ext1 j w l d;ext h;let rest:=uU k op pos d Z r
   let s:Σu p,w=.cons u p:=by
    delta eB at d
    .ext d;rwa[_,_,rfl]
    .ext d
   let⟨u,p,rfl⟩:=s;unfold gz at hb;cbv at hb;ext hb hb
   .ext1 x n;ext hb hb
    .ext1 m
     cases op with
     |And=>
      show mX (xW jb Co) (k a j l Z x n g Y H _ se λi s1=>?_);have:x=Uj:=by rw[<- m];rfl
      rw[if_pos this];show rest hb g Y i Q (se.same s1) λo s2=>q o (s1.trans s2)
     |Or=>
      show mX (Et jb Co) (k a j l Z x n g Y H _ se λi s1=>?_);have:x=Uk:=by rw[<- m];rfl
      rw[if_neg (by rw[this];decide)];show rest hb g Y i Q (se.same s1) λo s2=>q o (s1.trans s2)
    .ext1 m;ext hb
     cases op with
     |And=>
      show mX (xW jb Co) (k a j l Z r n g Y H _ se λi s1=>?_)
      have:r=Uk:=by cases r with|true=>show absurd rfl m|false=>rfl
      subst this;rw[if_neg ⋯];show q i s1
     |Or=>
      show mX (Et jb Co) (k a j l Z r n g Y H _ se λi s1=>?_)
      have:r=Uj:=by cases r with|false=>show absurd rfl m|true=>rfl
      subst this;rw[if_pos rfl];show q i s1
   .ext hb
  .ext h
def C7(O:aq X (c6 fns Γ fm) c){f:Uo->@&IE}(l:∀e g,f e=B g->SndE X (aa Γ g) e){g:IE}(h:ze fns c f x (a::es)=B g):SndE X (aa Γ g) (.Call (.Name x p) (a::es) [] pos):=by
 delta ze at h
 .ext1 b;rw[Qd,Q3,Qd] at b;ext h h
  .ext1 d m;let j:=(f9 Γ l m).1;ext h h
   .ext1 i k;ext h h
    .ext h
    ext h
    let e:aa Γ (.fn i d)=λZ=>y4 ((c6 fns Γ fm).fn x) (bf Γ d Z):=by
     funext Z;delta c6;cbv;rw[k];rfl
    rw[e];show NY O j b.1 b.2.1 b.2.2
   .ext h;show K3 O j b.1 b.2.1 b.2.2
  .ext h
 .ext h
def uV(O:aq X (c6 fns Γ fm) c){f:Uo->@&IE}(j:∀e o,f e=B o->SndE X (aa Γ o) e)(h:Hc c f tg iter=B it):SndI X (gp Γ it) tg iter:=by
 let k:∀{it:II},(f iter).map .e=B it->SndI X (gp Γ it) tg iter:=λh=>by
  let⟨a,g,rfl⟩:=bI h;show K6 (j _ _ g)
 delta Hc at h
 .ext1 x p a l;ext h h
  .ext1 i;subst i;ext h h
   .ext1 d;rw[Qd] at d;let⟨n,g,rfl⟩:=bI h;show G4 O d.1 d.2 (j _ _ g)
   .ext h
  .ext h h
   .ext1 i;subst i;ext h h
    .ext1 d;dsimp[Qd] at d;let⟨n,g,rfl⟩:=bI h;show K7 O d.1.1 d.1.2 d.2 (j _ _ g)
    .ext h
   .show k h
 .ext1 x p a b l;ext h h
  .ext1 i;subst i;ext h h
   .ext1 d;dsimp[Qd] at d;ext h h
    .ext1 n q g m;ext h;show G5 O d.1.1 d.1.2 d.2 (j _ _ g) (j _ _ m)
    .ext h
   .ext h
  .ext h h
   .ext1 i;subst i;ext h h
    .ext1 d;dsimp[Qd] at d;ext h h
     .ext1 n q g m;ext h;show K8 O d.1.1.1 d.1.1.2 d.1.2 d.2 (j _ _ g) (j _ _ m)
     .ext h
    .ext h
   .show k h
 .show k h
def Hk(h:Ld v=B ie):SndE X (aa Γ ie) (.Constant v k pos):=by
 cases v with
 |int i=>ext h;rw[n8];show KI _ _ _
 |bool i=>ext h;rw[n8];show NR _ _ _
 |none=>ext h;rw[n8];show KJ _ _
 |str i=>ext h;rw[n8];show KL _ _ _
 |_=>ext h
def uW{f:Uo->@&IE}(h:zf f a ops bs=B ie):(Σop b e g,ops=[op]/\bs=[b]/\UL op b=Uk/\f a=B e/\f b=B g/\ie=.cmp op e g)\/(Σop c b d e g d',ops=[op,c]/\bs=[b,d]/\UL c d=Uk/\f a=B e/\f b=B g/\f d=B d'/\ie=.chain op c e g d'):=by
 cases ops with
 |nil=>ext h
 |cons op ops=>cases bs with
  |nil=>ext h
  |cons b bs=>cases ops with
   |nil=>cases bs with
    |cons _ _=>ext h
    |nil=>
     dsimp only[zf] at h;ext h h
     .ext h
     .ext1 i;ext h h
      .ext1 e g k j;ext h;show .inl #[op,b,e,g,rfl,rfl,↥i,k,j,rfl]
      .ext h
   |cons c ops=>cases ops with
    |cons _ _=>ext h
    |nil=>cases bs with
     |nil=>ext h
     |cons d bs=>cases bs with
      |cons _ _=>ext h
      |nil=>
       dsimp only[zf] at h;ext h h
       .ext h
       .ext1 i;ext h h
        .ext1 e g d' k j l;ext h;show .inr #[op,c,b,d,e,g,d',rfl,rfl,↥i,k,j,l,rfl]
        .ext h
def zg{f:Uo->@&IE}(c:∀e b,f e=B b->SndE X (aa Γ b) e)(h:C6 f o=B io):w8 X (gm Γ io) o:=by
 cases o with
 |none=>
  ext h;let e:gm Γ .non=λY=>B L:=by funext Z;rfl
  rw[e];show GS
 |some e=>
  let⟨a,d,rfl⟩:=bI h;let e:gm Γ (.som a)=λZ=>CH (aa Γ a Z):=by funext Z;rfl
  rw[e];show GU (c _ _ d)
def uX{f:Uo->@&IE}(c:∀e b,f e=B b->SndT X (aR Γ b) e)(h:sZ f o=B io):j4 X (eA Γ io) o:=by
 delta sZ at h
 .ext h;let e:eA Γ .non=λY=>B Uj:=by funext Z;rfl
  rw[e];show EF
 .let⟨a,d,rfl⟩:=bI h;let e:eA Γ (.som a)=aR Γ a:=by funext Z;rfl
  rw[e];show Lc (c _ _ d)
 .ext h
def Hl(O:aq X (c6 fns Γ fm) c){f:Uo->@&IE}(d:∀e i,f e=B i->SndE X (aa Γ i) e){i:IE}(h:Hf f a b=B i):SndE X (aa Γ i) (.Subscript a b pos):=by
 delta Hf at h
 .ext1 lo s n p
  cases n with
  |none=>
   cbv at h;ext h h
   .ext1 o m r j g k;ext h;show NV (d _ _ j) (zg Γ d g) (zg Γ d k)
   .ext h
  |some n=>cases s with
   |some _=>ext h
   |none=>
    cbv at h;ext h h
    .ext1 o m t j g l;ext h;show KW (d _ _ j) (zg Γ d g) (d _ _ l)
    .ext h
 .ext h h
  .ext1 q;ext h h
   .ext1 o t j l;ext h;show NU O (d _ _ j) (d _ _ l) q
   .ext h
  .ext h
def Hm(O:aq X (c6 fns Γ fm) c){f:Uo->@&IE}(g:∀e b,f e=B b->SndE X (aa Γ b) e){b:IE}(h:Hg c f as=B b):SndE X (aa Γ b) (.Call (.Name "isinstance" p) as [] pos):=by
 cases as with
 |nil=>ext h
 |cons a as=>cases as with
  |nil=>ext h
  |cons t as=>cases as with
   |cons _ _=>ext h
   |nil=>
    dsimp only[Hg] at h;ext h h
    .ext h h
     .ext1 d;dsimp[Qd] at d;let⟨j,i,rfl⟩:=bI h;show Lb O d.1.1 d.1.2 d.2 (g _ _ i)
     .ext h
    .ext h
theorem zh:∀{l:-Str} {i:Nat},Jz m l=B i->Σy,rL y=Uj/\mM y=m/\a9 y l=B i
 |[],_,h=>by ext h
 |y::r,i,h=>by
  delta Jz at h
  .ext1 e;ext h;rwa[y,e.1,e.2,by delta a9;rw[if_pos rfl]]
  .ext1 a
   cases q:Jz m r with
   |none=>rw[q] at h;ext h
   |some j=>
    rw[q] at h;ext h;let⟨z,e1,e2,e3⟩:=zh q;rwa[z,e1,e2,?_];delta a9;rw[if_neg (λe:z=y=>a (e▸#[e1,e2])),e3];rfl
def Hn(O:aq X (c6 fns Γ fm) c){f:Uo->@&IE}(k:∀e b,f e=B b->SndE X (aa Γ b) e){b:IE}(h:Hh fns f o m ap as pos=B b):SndE X (aa Γ b) (.Call (.Attribute o m ap) as [] pos):=by
 unfold Hh at h
 cases g:Jz m fns.fns with
 |none=>rw[g] at h;ext h
 |some i=>
  rw[g] at h
  cases as with
  |nil=>ext h
  |cons a l=>
   cbv at h;ext h h
   .ext1 q;let⟨v,r,p,u,n⟩:=q
    cases d:f o with
    |none=>rw[d] at h;ext h
    |some t=>
     cases j:e7 f (a::l) with
     |none=>rw[d,j] at h;ext h
     |some s=>
      rw[d,j] at h;ext h;let⟨y,e1,rfl,e3⟩:=zh g;have:=EE O e1 (k o t d) (f9 Γ k j).1 v u r p n;rw[show(c6 fns Γ fm).fn y=Γ i from by change(a9 y fns.fns).bind Γ=_;rw[e3];rfl] at this;show this
   .ext h
def Lg(O:aq X (c6 fns Γ fm) c){f:Uo->@&IE}(d:∀e b,f e=B b->SndE X (aa Γ b) e){b:IE}(h:N0 fns c f g as ks pos=B b):SndE X (aa Γ b) (.Call g as ks pos):=by
 cases ks with
 |cons _ _=>ext h
 |nil=>
  dsimp only[N0] at h;ext h h
  .ext h h
   .ext1 i;subst i;show Hm fns Γ O d h
   .cases as with
    |cons a j=>show C7 fns Γ O d h
    |nil=>ext h
  .show Hn fns Γ O d h
  .ext h
def Lh(O:aq X (c6 fns Γ fm) c){m o:Cz->Uo->@&IE}(b:∀X c,aq X (c6 fns Γ fm) c->∀e a,m c e=B a->SndE X (aa Γ a) e)(j:∀X c,aq X (c6 fns Γ fm) c->∀e a,o c e=B a->SndT X (aR Γ a) e){a:IE}(h:Lf fns c m o elt gs scope pos=B a):SndE X (aa Γ a) (.ListComp elt gs scope pos):=by
 cases gs with
 |nil=>ext h
 |cons g gs=>cases gs with
  |cons _ _=>ext h
  |nil=>
   dsimp only[Lf] at h;ext h h
   .ext1 v;ext h h
    .ext1 d;rw[Qd] at d;ext h h
     .ext1 t it q n u hit k f;ext h;rw[show aa Γ (.comp _ (aA c _) t it q n)=λZ=>mZ _ (gp Γ it Z) (dS t (eA Γ q) (aa Γ n) (aT Z (aA c _))) from funext λY=>rfl];let l:=dc O d.2
      cases g with
      |mk x p r w=>
       subst v;show Ha O d.2 d.1 (uV fns Γ O (b X c O) hit) u (λC s H i=>uX Γ (j _ _ (l C s H i)) k) (λC s H i=>b _ _ (l C s H i) _ _ f)
     .ext h
    .ext h
   .ext h
end
section
variable (fns:Nms) (Γ:Nat->@&Fn) {fm:Str->@&(P9->Sp)}
theorem cC:∀n:Nat,(∀X c,aq X (c6 fns Γ fm) c->∀e y,cE fns n c e=B y->SndE X (aa Γ y) e)/\(∀X c,aq X (c6 fns Γ fm) c->∀e y,cT fns n c e=B y->SndT X (aR Γ y) e)
 |0=>#[λX c O e y h=>by (cases(h)),λX c O e y h=>by (cases(h))]
 |n+1=>by
  let⟨A,z⟩:=cC n;rwa[λX c O e y h=>?_,λX c O e y h=>?_]
  .let m:=A X c O;let M:=z X c O
   cases e with
   |Name x p=>
    dsimp only[cE] at h;ext h h
    .ext1 hg;let⟨d,N,rfl⟩:=bI h;let e:aa Γ (.lit d)=λL=>B (.sh,d):=by show funext λL=>rfl
     rw[e];show KM O hg N p
    .ext h h
     .let⟨i,hi,rfl⟩:=bI h;let e:aa Γ (.var i)=λZ=>ed i Z[i]?:=by show funext λL=>rfl
      rw[e];show gx O hi p
     .ext h
   |Constant v k j=>show Hk Γ h
   |BinOp a w b j=>
    dsimp only[cE] at h;ext h h
    .ext1 o F l u;ext h;show KN (m _ _ l) (m _ _ u)
    .ext h
   |Compare a R bs j=>
    rcases uW (h) with⟨w,b,o,F,rfl,rfl,C,l,u,rfl⟩|⟨w,S,b,d,o,F,d',rfl,rfl,C,l,u,N,rfl⟩
    .show KO O C (m _ _ l) (m _ _ u)
    .show Cw O C (m _ _ l) (m _ _ u) (m _ _ N)
   |UnaryOp w a j=>cases w with
    |Not=>
     let⟨o,l,rfl⟩:=bI (h);show KP (m _ _ l)
    |_=>ext h
   |BoolOp w P j=>
    let⟨o,l,rfl⟩:=bI (h);show uT Γ m _ _ l
   |IfExp t a b j=>
    dsimp only[cE] at h;ext h h
    .ext1 t' o F ht l u;ext h;show NS (M _ _ ht) (m _ _ l) (m _ _ u)
    .ext h
   |List P p=>
    let⟨o,l,rfl⟩:=bI (h);show KQ (f9 Γ m l).1
   |Tuple P k p=>
    let⟨o,l,rfl⟩:=bI (h);show KR (f9 Γ m l).1
   |Dict T V p=>cases T with
    |cons _ _=>ext h
    |nil=>cases V with
     |cons _ _=>ext h
     |nil=>
      let dn:∀t r,SndE X (aa Γ (.dnew t r)) (.Dict [] [] p):=λt r=>by
       show Hj
      dsimp only[cE] at h;ext h
      split<;>show dn _ _
   |Subscript a b j=>show Hl fns Γ O m h
   |Attribute a f j=>
    dsimp only[cE] at h;ext h h
    .ext1 u;let⟨o,l,rfl⟩:=bI h;show KS (dP u) (m _ _ l)
    .ext h
   |Call g W T j=>show Lg fns Γ O m h
   |ListComp hc gs U j=>show Lh fns Γ O A z h
   |_=>ext h
  .let m:=A X c O;let M:=z X c O
   cases e with
   |Compare a R bs j=>
    rcases uW (h) with⟨w,b,o,F,rfl,rfl,C,l,u,rfl⟩|⟨w,S,b,d,o,F,d',rfl,rfl,C,l,u,N,rfl⟩
    .show c5 O C (m _ _ l) (m _ _ u)
    .show N1 λL=>rfl
   |UnaryOp w a j=>cases w with
    |Not=>
     let⟨o,l,rfl⟩:=bI (h);show dL (M _ _ l)
    |_=>ext h
   |BoolOp w P j=>
    let⟨o,l,rfl⟩:=bI (h);show λZ b h g Y H Q se q=>λD s I=>uU Γ M _ _ l Z b h g Y H Q se q _ D s I
   |Name x p=>
    let⟨K,E⟩:=lE (h);rw[n6 E];show yR (m _ _ K) (λL=>rfl)
   |Call g W T p=>
    let⟨K,E⟩:=lE (h);rw[n6 E];show yR (m _ _ K) (λL=>rfl)
   |Subscript a b p=>
    let⟨K,E⟩:=lE (h);rw[n6 E];show yR (m _ _ K) (λL=>rfl)
   |_=>ext h
end
structure Evo(g:Gh)(H:Hp)(g':Gh)(H':Hp)(F:Pr):Prop where
 keep:∀b o,(∀i,g b≠B (B i))->H b=B o->H' b=B o
 out:∀b,g b=B L↔g' b=B L
 new:∀b i,g' b=B (B i)->(Σj,g b=B (B j))\/H b=L
 tmp:∀b,F b->g' b=L/\((Σj,g b=B (B j))\/H b=L)
 dom:∀b o,H b=B o->Σo',H' b=B o'
section
variable {K:P9} {H H' H1 H2:Hp} {g g' g1 g2:Gh} {F F1 F2:Pr}
theorem Evo.refl(g:Gh)(H:Hp):Evo g H g H (λZ=>False):=#[λZ Z Z e=>e,λZ=>Iff.rfl,λb i e=>.inl #[i,e],λZ z=>z.elim,λZ o e=>#[o,e]]
def Evo.froz(e:Evo g H g' H' F)(h:H b=B o)(n:g b=L):g' b=L/\¬F b:=by
 rwa[?_,λz=>?_]
 .cases q:g' b with
  |none=>rfl
  |some x=>
   cases x with
   |none=>have:=(e.out b).mpr q;rw[n] at this;ext this
   |some i=>
    rcases e.new b i q with⟨j,q⟩|q
    .rw[n] at q;ext q
    .rw[h] at q;ext q
 .rcases(e.tmp b z).2 with⟨j,q⟩|q
  .rw[n] at q;ext q
  .rw[h] at q;ext q
open Classical in
meta def Gh.minus(g:Gh)(F:Pr):Gh:=λb=>if F b then L else g b
def iB(h:F b):g.minus F b=L:=by delta Gh.minus;rw[if_pos h]
def bJ(h:¬F b):g.minus F b=g b:=by delta Gh.minus;rw[if_neg h]
def lF(h:g.minus F b=B x):g b=B x/\¬F b:=by
 delta Gh.minus at h
 .ext h
 .ext1 n;rwa[h,n]
def cc(h:¬F b):g.plus F b=g b:=by delta Gh.plus;rw[if_neg h]
def Evo.trans(a:Evo g H g1 H1 F1)(b:Evo (g1.plus F1) H1 g2 H2 F2):Evo g H (g2.minus F1) H2 (λb=>F1 b\/F2 b):=by
 let f:∀c,¬F1 c->∀j,(g1.plus F1) c=B (B j)->(Σk,g c=B (B k))\/H c=L:=λc n j e=>by
  rw[cc n] at e;show a.new c j e
 let p:∀c,H1 c=L->H c=L:=λc q=>by
  cases e:H c with
  |none=>rfl
  |some o=>let⟨v,m⟩:=a.dom c o e;rw[q] at m;ext m
 rwa[λc o n e=>?_,λc=>#[λq=>?_,λq=>?_],λc i q=>?_,λc z=>?_,λc o e=>?_]
 .show b.keep c o (λi q=>?_) (a.keep c o n e);let t:=bM q;rcases a.new c i t with⟨j,q⟩|q
  .show n j q
  .rw[e] at q;ext q
 .let d:¬F1 c:=λz=>by
   have:=(a.tmp c z).1;rw[(a.out c).mp q] at this;ext this
  rw[bJ d];show(b.out c).mp (by rw[cc d];show(a.out c).mp q)
 .let⟨l,d⟩:=lF q;have:=(b.out c).mpr l;rw[cc d] at this;show(a.out c).mpr this
 .let⟨l,d⟩:=lF q;rcases b.new c i l with⟨j,q⟩|q
  .show f c d j q
  .show .inr (p c q)
 .obtain z|z:=z
  .rwa[iB z,(a.tmp c z).2]
  .let⟨r,u⟩:=b.tmp c z;by_cases h:F1 c
   .rwa[iB h,(a.tmp c h).2]
   .rwa[by rw[bJ h];show r,?_];rcases u with⟨j,q⟩|q
    .show f c h j q
    .show .inr (p c q)
 .let⟨s,e1⟩:=a.dom c o e;show b.dom c s e1
def VR1.evo(l:bt kd=Uk)(b:Evo (g1.plus F1) H1 g2 H2 F2)(h:VR1 K H1 g1 F1 kd d v F1):VR1 K H2 (g2.minus F1) (λc=>F1 c\/F2 c) kd d v F1:=by
 let f:∀c o,(¬Sx g1 F1 c\/F1 c)->H1 c=B o->H2 c=B o:=λc o n e=>by
  show b.keep c o (λi q=>?_) e;obtain n|n:=n
  .show n (.inl (by rw[bM q];simp))
  .rw[aZ n] at q;ext q
 let g:∀c o,H1 c=B o->¬Sx g1 F1 c->¬Sx (g2.minus F1) (λc=>F1 c\/F2 c) c:=λc o e n z=>by
  let a:¬F1 c:=λz=>n (.inr z)
  let m:(g1.plus F1) c=L:=by
   rw[cc a]
   cases q:g1 c with
   |none=>rfl
   |some x=>show absurd (.inl (by rw[q];simp)) n
  let⟨j,f2⟩:=b.froz e m;obtain z|z|z:=z
  .rw[bJ a] at z;show z j
  .show a z
  .show f2 z
 cases kd with
 |sh=>rwa[h.1,h.2.go λc o n e=>#[f c o (.inl n) e,g c o e n]]
 |fr k=>show Tr.go f g h
 |bo i k=>ext l
def Ho(b:Evo (g1.plus F1) H1 g2 H2 F2)(c:Up):Sx (g2.minus F1) (λc=>F1 c\/F2 c) c↔Sx g2 F2 c:=by
 by_cases h:F1 c
 .have:g2 c=B L:=(b.out c).mp (aZ h);rwa[λZ=>.inl (by rw[this];simp),λZ=>.inr (.inl h)]
 .rwa[λz=>z.elim (λz=>.inl (by rw[bJ h] at z;show z)) λz=>z.elim (λz=>absurd z h) .inr,λz=>z.elim (λz=>.inl (by rw[bJ h];show z)) λz=>.inr (.inr z)]
def iC(b:Evo (g1.plus F1) H1 g2 H2 F2):(g2.minus F1).plus (λc=>F1 c\/F2 c)=g2.plus F2:=by
 funext c;by_cases a:F2 c
 .rw[aZ a,aZ (.inr a)]
 .by_cases h:F1 c
  .rw[aZ (.inl h),cc a];show((b.out c).mp (aZ h)).symm
  .rw[cc a,cc (λz=>z.elim h a),bJ h]
def VR1.evoR(b:Evo (g1.plus F1) H1 g2 H2 F2)(h:VR1 K H2 g2 F2 kd d v F):VR1 K H2 (g2.minus F1) (λc=>F1 c\/F2 c) kd d v F:=by
 let a:∀c o,H2 c=B o->¬Sx g2 F2 c->¬Sx (g2.minus F1) (λc=>F1 c\/F2 c) c:=λc o Z n z=>n ((Ho b c).mp z)
 cases kd with
 |sh=>rwa[h.1,h.2.go λc o n e=>#[e,a c o e n]]
 |fr k=>show Tr.go (λZ Z Z e=>e) a h
 |bo i k=>
  let⟨g,m,f,l⟩:=h;rwa[g,m,λc z=>?_,Tr.go (λZ Z Z e=>e) a l];rw[bJ (λj=>?_)]
  .show f c z
  .have:=f c z;rw[(b.out c).mp (aZ j)] at this;ext this
theorem VRL.evoR(b:Evo (g1.plus F1) H1 g2 H2 F2):∀{kds:-KD} {vs:-V} {F:Pr},VRL K H2 g2 F2 kds vs F->VRL K H2 (g2.minus F1) (λc=>F1 c\/F2 c) kds vs F
 |[],_,_,h=>h
 |(kd,d)::r,_,_,h=>by
  let⟨y,a,g,f,e,i,j,l,k⟩:=h;rwa[y,a,g,f,e,i,j,l.evoR b,VRL.evoR b k]
def p8(j:bt kd=Uk)(a:Evo g H g1 H1 F1)(h:VR1 K H1 g1 F1 kd d v F1)(b:Evo (g1.plus F1) H1 g2 H2 F2)(e:SE K (g2.plus F2) Z2 Y H2)(f:VRL K H2 g2 F2 kds vs F2) :
  Evo g H (g2.minus F1) H2 (λc=>F1 c\/F2 c)/\SE K ((g2.minus F1).plus (λc=>F1 c\/F2 c)) Z2 Y H2/\VRL K H2 (g2.minus F1) (λc=>F1 c\/F2 c) ((kd,d)::kds) (v::vs) (λc=>F1 c\/F2 c):=by
 rwa[a.trans b,by rw[iC b];show e,v,vs,F1,F2,rfl,λc=>Iff.rfl,λc i k=>?_,h.evo j b,f.evoR b];have:=(b.out c).mp (aZ i);rw[(b.tmp c k).1] at this;ext this
end
abbrev MR:=@&(Kd×D×Ro)
def bK(X:Cx)(f:Ro->MR)(e:Uo):Prop:=∀Z O d Z',f Z=B (O,d,Z')->∀g Y H Q,SE X.K g Z Y H->
 (∀v g' H' F,Evo g H g' H' F->SE X.K (g'.plus F) Z' Y H'->VR1 X.K H' g' F O d v F->Q v H')->wE X e Y H Q
def p9(X:Cx)(f:Ro->@&(-KD×Ro))(es:-Uo):Prop:=∀Z kds Z',f Z=B (kds,Z')->∀g Y H Q,SE X.K g Z Y H->
 (∀vs g' H' F,Evo g H g' H' F->SE X.K (g'.plus F) Z' Y H'->VRL X.K H' g' F kds vs F->Q vs H')->wA X es Y H Q
def uY(X:Cx)(f:Ro->@&(Bool×Ro))(e:Uo):Prop:=∀Z b Z',f Z=B (b,Z')->∀g Y H Q,SE X.K g Z Y H->
 (∀g' H',Evo g H g' H' (λW=>False)->SE X.K g' Z' Y H'->Q b H')->wT X e Y H Q
section
variable {X:Cx}
theorem cW{g:Gh}{H H':Hp}{F:Pr}(s:Same H H')(a:∀b,F b->H b=L)(c:∀b,F b->g b=L):Evo g H g H' F:=
 #[λb o Z e=>s b o e,λZ=>Iff.rfl,λb i e=>.inl #[i,e],λb z=>#[c b z,.inr (a b z)],λb o e=>#[o,s b o e]]
def eQ{g:Gh}{H:Hp}(m:MuOk H (Sg g))(h:H b=L):g b=L:=by
 cases e:g b with
 |none=>rfl
 |some x=>let⟨o,q,z_⟩:=m b (by rw[Sg,e];simp);rw[h] at q;ext q
def SndE.m{f:Ro->@&KD}(h:SndE X f e):bK X (λZ=>(f Z).map λp=>(p.1,p.2,Z)) e:=by
 intro Z o d r a g Y H Q c q;cbv at a
 cases i:f Z with
 |none=>rw[i] at a;ext a
 |some p=>
  rw[i] at a;ext a;show h Z p.1 p.2 i g Y H Q c λv l s n=>?_;let⟨F,j,k⟩:=n;show q v g l F (cW s j λb z=>eQ c.mu (j b z)) (c.plus s j k.dom) k
def SndT.m{f:Ro->@&Bool}(h:SndT X f e):uY X (λZ=>(f Z).map λp=>(p,Z)) e:=by
 intro Z b j a g Y H Q d q;cbv at a
 cases c:f Z with
 |none=>rw[c] at a;ext a
 |some p=>
  rw[c] at a;ext a;show h Z b c g Y H Q d λi s=>q g i (cW s (λW z=>z.elim) λW z=>z.elim) (d.same s)
def dW(O:Kd)(d:D):Kd:=match O with
 |.bo i k=>if uC d=Uj then .sh else .bo i k
 |k=>k
def VR1.im{g:Gh}(m:MuOk H (Sg (g.plus F)))(h:VR1 K H g F kd d v F):VR1 K H g F (dW kd d) d v F:=by
 cases kd with
 |sh=>show h
 |fr k=>show h
 |bo i k=>
  delta dW;cbv;split
  .ext1 a;rwa[h.1,h.rd.im (λb z=>m b ((aj b).mpr z)) a]
  .show h
def jw(a:MR)(r:Ro->@&(-KD×Ro)):@&(-KD×Ro):=match a with
 |some (kd,d,Z1)=>if bt (dW kd d)=Uj then L else(match r Z1 with|some (kds,Z2)=>B ((dW kd d,d)::kds,Z2)|none=>L)
 |none=>L
def C8{k:Ro->MR}(u:ah e=Uj)(D:bK X k e)(w:p9 X fr es):p9 X (λZ=>jw (k Z) fr) (e::es):=by
 intro Z y p h g Y H Q z q;dsimp only[jw] at h;ext h h
 .ext1 E d j e1;ext h h
  .ext h
  .ext1 x;ext h h
   .ext1 b K e2;ext h;show li (bB aC dI (am u)) (D Z E d j e1 g Y H _ z λv C F s i a o=>w j b p e2 (C.plus s) Y F _ a λm I r M f c A=>?_);let⟨t,l,n⟩:=p8 ↥x i (o.im a.mu) f c A;show q (v::m) _ r _ t l n
   .ext h
 .ext h
meta def iF(a:MR)(r:Ro->@&(-KD)):@&(-KD×Ro):=match a with
 |some (kd,d,Z1)=>(match r Z1 with|some kds=>B ((kd,d)::kds,Z1)|none=>L)
 |none=>L
def uZ{g g1:Gh}(a:Evo g H g1 H1 F1)(j:SE K (g1.plus F1) Z1 Y H1)(l:VR1 K H1 g1 F1 kd d v F1)(s:Same H1 H2)(r:VRs K (g1.plus F1) H1 H2 kds vs) :
  ΣF,Evo g H g1 H2 F/\SE K (g1.plus F) Z1 Y H2/\VRL K H2 g1 F ((kd,d)::kds) (v::vs) F:=by
 let⟨f,b1,b2⟩:=r
 let k:∀c,f c->g1 c=L/\¬F1 c:=λc z=>by
  have:=eQ j.mu (b1 c z);by_cases h:F1 c
  .rw[aZ h] at this;ext this
  .rw[cc h] at this;rwa[this,h]
 let t:∀c,H1 c=L->H c=L:=λc q=>by
  cases e:H c with
  |none=>rfl
  |some o=>let⟨b,i⟩:=a.dom c o e;rw[q] at i;ext i
 rwa[λc=>F1 c\/f c,#[λc o n e=>s c o (a.keep c o n e),a.out,a.new,λc z=>z.elim (a.tmp c) λz=>#[(k c z).1,.inr (t c (b1 c z))],λc o e=>let ⟨b,q⟩:=a.dom c o e;#[b,s c b q]],?_,v,vs,F1,f,rfl,λc=>Iff.rfl,λc m p=>(k c p).2 m,?_,b2.unplus]
 .rw[<- jq];show j.plus s b1 b2.dom
 .show l.go s λc o e z=>z.elim id λz=>by rw[b1 c z] at e;ext e
def Hq{i:Ro->MR}(n:ah e=Uj)(z:bK X i e)(s:kg X fr es):p9 X (λZ=>iF (i Z) fr) (e::es):=by
 intro Z u f h g Y H Q w q;dsimp only[iF] at h;ext h h
 .ext1 k d C e1;ext h h
  .ext1 b e2;ext h;show li (bB aC dI (am n)) (z Z k d f e1 g Y H _ w λv j A y c a r=>s f b e2 (j.plus y) Y A _ a λo t s2 x=>?_);let⟨F,m,l,p⟩:=uZ c a r s2 x;show q (v::o) j t F m l p
  .ext h
 .ext h
open Classical in
meta def mj(H:Hp)(F:Pr):Hp:=λb=>if F b then L else H b
theorem lG:Same (mj H F) H:=λb o e=>by
 delta mj at e
 .ext e
 .show e
theorem tf{g:Gh}{F:Pr}(a:SE K (g.plus F) Z Y H)(c:∀b,F b->g b=L):MuOk (mj H F) (Sg g):=λb z=>by
 let d:¬F b:=λf=>z (c b f);let⟨o,e,n⟩:=a.mu b ((aj b).mpr (.inl z));rwa[o,by delta mj;rw[if_neg d];show e,n]
def zi{g g1:Gh}{H H1 H2:Hp}{F F2:Pr}(a:Evo g H g1 H1 F)(f:SE K (g1.plus F) Z1 Y H1)(s:Same H1 H2)(h1:∀b,F2 b->mj H1 F b=L)(r:∀b,F2 b->Σo,H2 b=B o/\∀xs,o≠.tup xs):Evo g H g1 H2 F2/\SE K (g1.plus F2) Z1 Y H2:=by
 let j:∀b,F2 b->F b\/H1 b=L:=λb z=>by
  have:=h1 b z;delta mj at this
  .ext1 q;show .inl q
  .show .inr this
 let m:∀c,H1 c=L->H c=L:=λc q=>by
  cases e:H c with
  |none=>rfl
  |some o=>let⟨k,l⟩:=a.dom c o e;rw[q] at l;ext l
 let d:∀b,F2 b->g1 b=L:=λb z=>by
  obtain q|q:=j b z
  .show(a.tmp b q).1
  .have:=eQ f.mu q;by_cases h:F b
   .rw[aZ h] at this;ext this
   .rw[cc h] at this;show this
 rwa[#[λc o n e=>s c o (a.keep c o n e),a.out,a.new,λc z=>#[d c z,(j c z).elim (λq=>(a.tmp c q).2) λq=>.inr (m c q)],λc o e=>let ⟨k,q⟩:=a.dom c o e;#[k,s c k q]],?_];rwa[λi p e=>?_,λb z=>?_,f.len]
 .let⟨v,u,e1,e2,e3⟩:=f.slot i p e;rwa[v,u,e1,λb z=>?_,e3.go (λb o Z e=>s b o e) λb o e n z=>?_]
  .have:=bM (e2 b z);show cz this λt=>by rw[d b t] at this;ext this
  .rcases(aj b).mp z with z|z
   .show n ((aj b).mpr (.inl z))
   .obtain q|q:=j b z
    .show n ((aj b).mpr (.inr q))
    .rw[q] at e;ext e
 .rcases(aj b).mp z with z|z
  .let⟨o,e,n⟩:=f.mu b ((aj b).mpr (.inl z));rwa[o,s b o e,n]
  .show r b z
theorem VRL.off(h:VRL K H g F kds vs F):VRs K g (mj H F) H kds vs:=#[F,λb z=>by delta mj;rw[if_pos z],h]
def StrictOk.m{f:-KD->@&KD}{j:Ro->@&(-KD×Ro)}(h:StrictOk X f es node)(t:p9 X j es):bK X (λZ=>(j Z).bind λp=>(f p.1).map λq=>(q.1,q.2,p.2)) node:=by
 intro Z E d C a g Y H Q w q;cbv at a
 cases e:j Z with
 |none=>rw[e] at a;ext a
 |some p=>
  let⟨c,D⟩:=p;rw[e] at a;dsimp only[QY] at a
  cases e2:f c with
  |none=>rw[e2] at a;ext a
  |some r=>
   rw[e2] at a;ext a;show h c r.1 r.2 e2 Y H Q (t Z c _ e g Y H _ w λI l A F k i u=>#[l,mj A F,tf i λb z=>(k.tmp b z).1,lG,u.off,λv o s2 x=>?_]);let⟨y,b1,b2⟩:=x;let⟨s,n⟩:=zi k i s2 b1 b2.dom;show q v l o y s n b2
end
abbrev mn:=Ow×D
abbrev Fm:=-mn->@&(Kd×D×-(@&mn))
meta def Hr(p:mn):@&Sl:=B #[Uk,p.1,p.2]
meta def EH(p:@&mn):@&Sl:=p.map λp=>#[Uk,p.1,p.2]
def xg(K:P9)(U:Fm):Sp:=λvs H Q Z=>Σks g O d outs,SE K g (ks.map Hr) (vs.map B) H/\U ks=B (O,d,outs)/\
 ∀v g' H' F,Evo g H g' H' F->SE K (g'.plus F) (outs.map EH) (vs.map B) H'->VR1 K H' g' F O d v F->Q v H'
set_option genInjectivity true in
inductive RA where
 |ref (i:Nat)|val (kd:Kd) (d:D)
def VRA(K:P9)(H:Hp)(g:Gh)(Ft:Pr)(Y:L2.St):-RA->-V->Pr->Prop
 |[],vs,F=>vs=[]/\∀b,¬F b
 |.ref i::r,vs,F=>Σy ys,vs=y::ys/\Y[i]?=B (B y)/\VRA K H g Ft Y r ys F
 |.val kd d::r,vs,F=>Σy ys F1 F2,vs=y::ys/\(∀b,F b↔F1 b\/F2 b)/\(∀b,F1 b->¬F2 b)/\VR1 K H g Ft kd d y F1/\VRA K H g Ft Y r ys F2
def gB(X:Cx)(f:Ro->@&(-RA×Ro))(es:-Uo):Prop:=∀Z ras Z',f Z=B (ras,Z')->∀g Y H Q,SE X.K g Z Y H->
 (∀vs g' H' F,Evo g H g' H' F->SE X.K (g'.plus F) Z' Y H'->VRA X.K H' g' F Y ras vs F->Q vs H')->wA X es Y H Q
section
variable {K:P9} {H H1 H2:Hp} {g g1 g2:Gh} {F1 F2:Pr} {Y:L2.St}
theorem VRA.evoR(b:Evo (g1.plus F1) H1 g2 H2 F2):∀{ras:-RA} {vs:-V} {F:Pr},VRA K H2 g2 F2 Y ras vs F->VRA K H2 (g2.minus F1) (λc=>F1 c\/F2 c) Y ras vs F
 |[],_,_,h=>h
 |.ref i::r,_,_,h=>by
  let⟨y,a,e,e2,f⟩:=h;rwa[y,a,e,e2,VRA.evoR b f]
 |.val kd d::r,_,_,h=>by
  let⟨y,a,l,k,e,g,j,m,f⟩:=h;rwa[y,a,l,k,e,g,j,m.evoR b,VRA.evoR b f]
def a5{g:Gh}{F:Pr}(h:∀b,¬F b):g.plus F=g:=by
 funext b;show cc (h b)
end
section
variable {X:Cx}
def EI:gB X (λZ=>B ([],Z)) []:=by
 intro Z b c h g Y H Q a q;ext h;show li eM (q [] g H (λW=>False) (.refl g H) ?_ #[rfl,λW z=>z]);rw[a5 λW z=>z];show a
meta def qc(i:Nat)(o:@&(@&Sl))(r:@&(-RA×Ro)):@&(-RA×Ro):=match o,r with
 |some (B _),B (ras,Z')=>B (.ref i::ras,Z')
 |_,_=>L
def Li(O:aq X Γ c){i:Nat}{fr:Ro->@&(-RA×Ro)}(a:jk c x=B i)(w:gB X fr es):gB X (λZ=>qc i Z[i]? (fr Z)) (.Name x p::es):=by
 intro Z u o h g Y H Q m q;dsimp only[qc] at h;ext h h
 .ext1 y d z e1 e2;ext h;let b:SndE X (λZ=>ed i Z[i]?) (.Name x p):=gx O a p;let⟨k,e,z_⟩:=m.get e1
  show li (bB aC dI (am rfl)) ?_;delta jk at a
  .ext1 j t;ext a a
   .ext1 b;ext a;dsimp[Qd,nY,QZ] at b;show aB (rQ (by rw[O.N];show aP t) (by rw[O.sc];show nX b.1) b.2.1 b.2.2) #[k,e,?_];show w Z d o e2 g Y H _ m λl n s F v f r=>q (k::l) n s F v f #[k,l,rfl,e,r]
   .ext a
  .ext a
 .ext h
def zj(a:MR)(r:Ro->@&(-RA×Ro)):@&(-RA×Ro):=match a with
 |some (kd,d,Z1)=>if bt (dW kd d)=Uj then L else(match r Z1 with|some (ras,Z2)=>B (.val (dW kd d) d::ras,Z2)|none=>L)
 |none=>L
def zk{n:Ro->MR}(u:ah e=Uj)(E:bK X n e)(x:gB X fr es):gB X (λZ=>zj (n Z) fr) (e::es):=by
 intro Z t p h g Y H Q z q;dsimp only[zj] at h;ext h h
 .ext1 F d m e1;ext h h
  .ext h
  .ext1 y;ext h h
   .ext1 f M e2;ext h;show li (bB aC dI (am u)) (E Z F d m e1 g Y H _ z λv D I l j b o=>x m f p e2 (D.plus l) Y I _ b λk K s C a i A=>?_);show q (v::k) _ s _ (j.trans a) (by rw[iC a];show i) #[v,k,l,C,rfl,λc=>Iff.rfl,λc w r=>?_,(o.im b.mu).evo ↥y a,A.evoR a];have:=(a.out c).mp (aZ w);rw[(a.tmp c r).1] at this;ext this
   .ext h
 .ext h
end
meta def dC:-RA->-Nat
 |[]=>[]
 |.ref i::r=>i::dC r
 |.val _ _::r=>dC r
def eR(Z:Ro):-RA->@&(-mn)
 |[]=>B []
 |.ref i::r=>match Z[i]?,eR Z r with
  |some (B ⟨Uk,k,d⟩),B ks=>B ((k,d)::ks)
  |_,_=>L
 |.val kd d::r=>if bt kd=Uj then L else(eR Z r).map ((.fz,d)::·)
meta def dD:-RA->Ro->Ro->Ro
 |.ref i::r,o::os,Z=>dD r os (Z.set i o)
 |.val _ _::r,_::os,Z=>dD r os Z
 |_,_,Z=>Z
meta def n9(ras:-RA)(i:Nat):@&Nat:=ras.findIdx? λa=>match a with|.ref j=>j==i|_=>Uk
def C9(U:@&Fm)(a:@&(-RA×Ro)):MR:=match U,a with
 |some U,B (ras,Z)=>if(dC ras).Nodup then(match eR Z ras with
  |some ks=>(match U ks with
   |some (kd,d,outs)=>if bt kd=Uj\/outs.length≠ras.length then L else B (kd,d,dD ras (outs.map EH) Z)
   |none=>L)
  |none=>L) else L
 |_,_=>L
section
theorem gR{Z:Ro}:∀{ras:-RA} {ks:-mn},eR Z ras=B ks->ks.length=ras.length/\∀(j:Nat) a,ras[j]?=B a->Σk d,ks[j]?=B (k,d)/\(match a with|.ref i=>Z[i]?=B (B #[Uk,k,d])|.val kd d'=>k=.fz/\d=d'/\bt kd=Uk)
 |[],ks,h=>by ext h;rwa[rfl,λj a e=>by simp at e]
 |.ref i::r,ks,h=>by
  delta eR at h
  .ext1 k d b e1 e2;ext h;let⟨l,g⟩:=gR e2;rwa[by simp[l],λj a e=>?_]
   cases j with
   |zero=>simp at e;subst e;rwa[k,d,rfl,e1]
   |succ j=>simpa using g j a ↥e
  .ext h
 |.val kd d::r,ks,h=>by
  delta eR at h
  .ext h
  .ext1 c;let⟨b,e,rfl⟩:=bI h;let⟨l,g⟩:=gR e;rwa[by simp[l],λj a e=>?_]
   cases j with
   |zero=>simp at e;subst e;rwa[.fz,d,rfl,rfl,rfl,↥c]
   |succ j=>simpa using g j a ↥e
theorem iG:∀{ras:-RA} {i j:Nat},n9 ras i=B j->ras[j]?=B (.ref i)
 |[],i,j,h=>by simp[n9] at h
 |a::r,i,j,h=>by
  unfold n9 at h;rw[QS] at h
  cases a with
  |ref k=>
   by_cases e:k=i
   .subst e;simp at h;subst h;rfl
   .let f:(k==i)=Uk:=by simpa using e
    dsimp[f] at h;let⟨c,b,rfl⟩:=bI ↥h;simpa using iG (by delta n9;show b)
  |val g d=>
   simp only at h;let⟨c,b,rfl⟩:=bI ↥h;simpa using iG (by delta n9;show b)
theorem fG:∀{ras:-RA} {j i:Nat},ras[j]?=B (.ref i)->i∈dC ras
 |[],_,_,h=>by simp at h
 |a::r,0,i,h=>by simp at h;subst h;show Qr
 |.ref k::r,j+1,i,h=>Qh _ (fG ↥h)
 |.val kd d::r,j+1,i,h=>fG (ras:=r) ↥h
theorem tj:∀{ras:-RA} {j i:Nat},(dC ras).Nodup->ras[j]?=B (.ref i)->n9 ras i=B j
 |[],_,_,_,h=>by simp at h
 |.ref k::r,0,i,_,h=>by simp at h;subst h;simp[n9,QS]
 |.val kd d::r,0,i,_,h=>by simp at h
 |.ref k::r,j+1,i,hn,h=>by
  let c:=fG ↥h;let b:k∉dC r/\(dC r).Nodup:=QK.mp hn
  let e:(k==i)=Uk:=by
   dsimp[beq_eq_false_iff_ne,ne_eq];intro z;subst z;show b.1 c
  let a:=tj b.2 (by simpa using h:r[j]?=B (.ref i));unfold n9 at a⊢;rw[QS];dsimp[e,a];rfl
 |.val kd d::r,j+1,i,hn,h=>by
  let a:=tj (ras:=r) hn (by simpa using h:r[j]?=B (.ref i));unfold n9 at a⊢;rw[QS];dsimp[a];rfl
theorem jx:∀{ras:-RA} {outs:Ro} {Z:Ro},(dD ras outs Z).length=Z.length
 |[],_,_=>rfl
 |.ref i::r,[],_=>rfl
 |.val _ _::r,[],_=>rfl
 |.ref i::r,o::os,Z=>by change(dD r os (Z.set i o)).length=_;rw[jx];simp
 |.val _ _::r,o::os,Z=>jx (ras:=r) (outs:=os)
theorem jy:∀{ras:-RA} {outs:Ro} {Z:Ro},(dC ras).Nodup->outs.length=ras.length->∀(i:Nat) a,(dD ras outs Z)[i]?=B (B a)->(i∉dC ras/\Z[i]?=B (B a))\/Σ(j:Nat),ras[j]?=B (RA.ref i)/\outs[j]?=B (B a)
 |[],outs,Z,_,_,i,a,h=>by cases outs<;>show .inl #[by simp[dC],h]
 |.ref k::r,[],Z,_,hl,i,a,h=>by simp at hl
 |.val kd d::r,[],Z,_,hl,i,a,h=>by simp at hl
 |.val kd d::r,o::os,Z,hn,hl,i,a,h=>by
  replace h:(dD r os Z)[i]?=B (B a):=h;rcases jy (ras:=r) hn ↥hl i a h with⟨c,b⟩|⟨j,c,b⟩
  .show .inl #[c,b]
  .show .inr #[j+1,↥c,↥b]
 |.ref k::r,o::os,Z,hn,hl,i,a,h=>by
  replace h:(dD r os (Z.set k o))[i]?=B (B a):=h;let g:k∉dC r/\(dC r).Nodup:=QK.mp hn;rcases jy g.2 ↥hl i a h with⟨c,b⟩|⟨j,c,b⟩
  .by_cases e:i=k
   .subst e
    let f:i<Z.length:=by
     have:=(Qb.mp b).1;simpa using this
    rw[QF f] at b;show .inr #[0,rfl,b]
   .rw[QH (Ne.symm e)] at b;show .inl #[by dsimp[dC,Qf,not_or];rwa[e,c],b]
  .show .inr #[j+1,↥c,↥b]
end
section
variable {K:P9} {H H1 H2:Hp} {g g1:Gh} {F:Pr} {Y:L2.St} {Z:Ro}
theorem VRA.get:∀{ras:-RA} {vs:-V} {F:Pr},VRA K H g Ft Y ras vs F->vs.length=ras.length/\∀(j:Nat) a,ras[j]?=B a->Σy,vs[j]?=B y/\(match a with|.ref i=>Y[i]?=B (B y)|.val kd d=>Σf:Pr,(∀b,f b->F b)/\VR1 K H g Ft kd d y f)
 |[],vs,F,h=>by let⟨rfl,z_⟩:=h;rwa[rfl,λj a e=>by simp at e]
 |.ref i::r,vs,F,h=>by
  let⟨y,p,rfl,e,k⟩:=h;let⟨l,q⟩:=VRA.get k;rwa[by simp[l],λj a c=>?_]
  cases j with
  |zero=>simp at c;subst c;rwa[y,rfl,e]
  |succ j=>simpa using q j a ↥c
 |.val kd d::r,vs,F,h=>by
  let⟨y,p,t,v,rfl,m,u,s,k⟩:=h;let⟨l,q⟩:=VRA.get k;rwa[by simp[l],λj a c=>?_]
  cases j with
  |zero=>simp at c;subst c;rwa[y,rfl,t,λb z=>(m b).mpr (.inl z),s]
  |succ j=>
   let⟨n,e1,e2⟩:=q j a ↥c;rwa[n,↥e1,?_]
   cases a with
   |ref i=>show e2
   |val kd d=>let⟨f,o,f2⟩:=e2;rwa[f,λb z=>(m b).mpr (.inr (o b z)),f2]
def Lj{ks:-mn}{vs:-V}(C:(dC ras).Nodup)(Q:eR Z ras=B ks)(R:∀b,F b->g1 b=L)(w:SE K (g1.plus F) Z Y H1)(r:VRA K H1 g1 F Y ras vs F):SE K (g1.re (n9 ras)) (ks.map Hr) (vs.map B) H1:=by
 let⟨t,P⟩:=gR Q;let⟨H,M⟩:=r.get;let x:∀b,Sg (g1.re (n9 ras)) b->Sg (g1.plus F) b:=λb z=>(aj b).mpr (.inl ((ki b).mp z));rwa[λj S e=>?_,λb z=>w.mu b (x b z),by simp[t,H]];rw[Qc] at e
 cases l:ks[j]? with
 |none=>rw[l] at e;ext e
 |some p=>
  rw[l] at e;ext e;let O:j<ras.length:=by rw[<- t];show(Qb.mp l).1
  let q:ras[j]?=B ras[j]:=Qi O;let⟨k,d,h,m⟩:=P j _ q;rw[l] at h;ext h;let⟨y,u,g⟩:=M j _ q;generalize ras[j]=a at q m g
  cases a with
  |ref i=>
   let m:Z[i]?=B (B #[Uk,k,d]):=m;let g:Y[i]?=B (B y):=g;let⟨v,A,e1,e2,e3⟩:=w.slot i _ m;rw[g] at e1;ext e1;rwa[y,A,by simp[u],λb z=>?_,e3.go (λW W W e=>e) λb o W n z=>n (x b z)];delta Gh.re;rw[bM (e2 b z)];change B (n9 ras i)=_;rw[tj C q]
  |val f E=>
   obtain⟨rfl,rfl,D⟩:k=.fz/\d=E/\bt f=Uk:=m;let⟨T,I,f2⟩:=g;rwa[y,λW=>False,by simp[u],λb z=>z.elim,.fz ?_];let s:∀b,Sg (g1.re (n9 ras)) b->g1 b≠L:=λb z=>(ki b).mp z
   cases f with
   |sh=>show f2.2.weak λb z=>.inl (s b z)
   |fr c=>show Tr.rp (λb z=>#[.inl (s b z),λN=>s b z (R b (I b N))]) f2
   |bo i c=>ext D
meta def dE(g1 O:Gh)(ras:-RA):Gh:=λb=>match O b with
 |some (B j)=>(match ras[j]? with|some (.ref i)=>B (B i)|_=>L)
 |some L=>g1 b
 |none=>L
def Da{a:Gh}{ras:-RA}{j i:Nat}(h:a b=B (B j))(e:ras[j]?=B (.ref i)):dE g1 a ras b=B (B i):=by
 delta dE;rw[h];cbv;rw[e]
def qe{a:Gh}(h:a b=B L):dE g1 a ras b=g1 b:=by delta dE;rw[h]
def oa{a:Gh}(h:a b=L):dE g1 a ras b=L:=by delta dE;rw[h]
def lH{a:Gh}{ras:-RA}(h:dE g1 a ras b=B x):(Σj i,a b=B (B j)/\ras[j]?=B (.ref i)/\x=B i)\/(a b=B L/\g1 b=B x):=by
 delta dE at h
 .ext1 j e;ext h h
  .ext1 i e2;ext h;show .inl #[j,i,e,e2,rfl]
  .ext h
 .ext1 e;show .inr #[e,h]
 .ext h
def u0{m:Nat->@&Nat}(h:g.re m b=B (B j)):Σi,g b=B (B i)/\m i=B j:=by
 unfold Gh.re at h
 cases q:g b with
 |none=>simp[q] at h
 |some x=>
  cases x with
  |none=>simp[q] at h
  |some i=>simp[q] at h;rwa[i,rfl,h]
def Lk(h:g b=L):g.re m b=L:=by delta Gh.re;rw[h]
def N2(h:g b=B L):g.re m b=B L:=by delta Gh.re;rw[h]
def N3{m:Nat->@&Nat}(h:g b=B (B i)):g.re m b=B (m i):=by delta Gh.re;rw[h]
def m3{ras:-RA}{l:Gh}{I:Ro}{X:L2.St}(hn:(dC ras).Nodup)(N:I.length=ras.length)(O:bt kd=Uk)(a:Evo g H g1 H1 F)(se:SE K (g1.plus F) Z Y H1)(hY:∀(j i:Nat) u w,ras[j]?=B (.ref i)->I[j]?=B (B u)->X[j]?=B (B w)->Y[i]?=B (B w))(m:Evo (g1.re (n9 ras)) H1 l H2 Fr)(r:SE K (l.plus Fr) I X H2)(R:VR1 K H2 l Fr kd d v Fr) :
  Evo g H (dE g1 l ras) H2 Fr/\SE K ((dE g1 l ras).plus Fr) (dD ras I Z) Y H2/\VR1 K H2 (dE g1 l ras) Fr kd d v Fr:=by
 let E:∀c,H1 c=L->H c=L:=λc q=>by
  cases e:H c with
  |none=>rfl
  |some o=>let⟨o',S⟩:=a.dom c o e;rw[q] at S;ext S
 let y:∀b o,H1 b=B o->g1 b=L->dE g1 l ras b=L/\¬Fr b:=λb o e n=>by
  let⟨M,f2⟩:=m.froz e (Lk n);rwa[oa M,f2]
 let h:∀b i,g1 b=B (B i)->(Σj,g b=B (B j))\/H b=L:=λb i e=>a.new b i e
 let s:∀b j,l b=B (B j)->(Σk,g b=B (B k))\/H b=L:=λb j e=>by
  rcases m.new b j e with⟨k,q⟩|q
  .let⟨i,f,z_⟩:=u0 q;show h b i f
  .show .inr (E b q)
 let Q:Evo g H (dE g1 l ras) H2 Fr:=by
  rwa[λb o n e=>?_,λb=>#[λe=>?_,λe=>?_],λb i e=>?_,λb z=>?_,λb o e=>?_]
  .show m.keep b o (λj q=>?_) (a.keep b o n e);let⟨i,f,z_⟩:=u0 q;rcases a.new b i f with⟨k,p⟩|p
   .show n k p
   .rw[e] at p;ext p
  .let e1:=(a.out b).mp e;let e2:=(m.out b).mp (N2 e1);rw[qe e2];show e1
  .rcases lH e with⟨j,i,_,_,z⟩|⟨_,e1⟩
   .ext z
   .show(a.out b).mpr e1
  .rcases lH e with⟨j,i',e1,_,_⟩|⟨_,e1⟩
   .show s b j e1
   .show h b i e1
  .let⟨t1,t2⟩:=m.tmp b z;rwa[oa t1,?_];rcases t2 with⟨j,q⟩|q
   .let⟨i,f,z_⟩:=u0 q;show h b i f
   .show .inr (E b q)
  .let⟨o1,e1⟩:=a.dom b o e;show m.dom b o1 e1
 let t:∀b,Sg (dE g1 l ras) b->Sg l b:=λb z A=>z (oa A);rwa[Q,#[λi u e=>?_,λb z=>?_,by rw[jx];show se.len],?_]
 .rcases jy hn N i u e with⟨W,e1⟩|⟨j,ej,U⟩
  .
   let⟨w,T,e2,e3,e4⟩:=se.slot i u e1
   let C:∀b,T b->g1 b=B (B i)/\l b=B L:=λb z=>by
    let f:=bM (e3 b z);rwa[f,(m.out b).mp ?_];rw[N3 f]
    cases p:n9 ras i with
    |none=>rfl
    |some j=>show absurd (fG (iG p)) W
   rwa[w,T,e2,λb z=>?_,e4.go (λb o D e=>m.keep b o (λj q=>?_) e) λb o e n z=>?_]
   .let⟨l1,P⟩:=C b z;show cz (by rw[qe P];show l1) λA=>?_;rw[(m.tmp b A).1] at P;ext P
   .let⟨k,f,p⟩:=u0 q;obtain D|D:=D
    .show D ((aj b).mpr (.inl (by rw[Sg,f];simp)))
    .rw[(C b D).1] at f;ext f;show absurd (fG (iG p)) W
   .let nF:g1 b=L:=by
     cases f:g1 b with
     |none=>rfl
     |some x=>show absurd ((aj b).mpr (.inl (by rw[Sg,f];simp))) n
    let⟨M,f2⟩:=y b o e nF;rcases(aj b).mp z with z|z
    .show z M
    .show f2 z
  .
   let⟨w,Fj,e2,e3,e4⟩:=r.slot j u U;rwa[w,Fj,hY j i u w ej U e2,λb z=>?_,e4.go (λJ J J e=>e) λb o e n z=>?_]
   .let f:=bM (e3 b z);show cz (Da f ej) λA=>?_;rw[(m.tmp b A).1] at f;ext f
   .rcases(aj b).mp z with z|z
    .show n ((aj b).mpr (.inl (t b z)))
    .show n ((aj b).mpr (.inr z))
 .rcases(aj b).mp z with z|z
  .show r.mu b ((aj b).mpr (.inl (t b z)))
  .show r.mu b ((aj b).mpr (.inr z))
 .let V:∀b o,H2 b=B o->¬Sx l Fr b->¬Sx (dE g1 l ras) Fr b:=λb o J n z=>n (z.imp (t b) id)
  cases kd with
  |sh=>rwa[R.1,R.2.go λb o n e=>#[e,V b o e n]]
  |fr k=>show Tr.go (λJ J J e=>e) V R
  |bo i k=>ext O
def u7{Q:VK}(h:C9 (B U) (B (ras,Z))=B (kd,d,Z2))(a:Evo g H g1 H1 F)(p:SE K (g1.plus F) Z Y H1)(r:VRA K H1 g1 F Y ras vs F)(q:∀v g' H' F',Evo g H g' H' F'->SE K (g'.plus F') Z2 Y H'->VR1 K H' g' F' kd d v F'->Q v H'):xg K U vs H1 Q E:=by
 unfold C9 at h;cbv at h;ext h h
 .ext1 o;ext h h
  .ext1 A P;ext h h
   .ext1 N V outs u;ext h h
    .ext h
    .ext1 l;ext h
     let k:bt kd=Uk:=by
      cases e:bt kd with
      |false=>rfl
      |true=>show absurd (.inl e) l
     let f:outs.length=ras.length:=Classical.byContradiction λz=>l (.inr z);rwa[A,g1.re (n9 ras),kd,d,outs,Lj o P (λb z=>(a.tmp b z).1) p r,u,λv S C Fr D c R=>?_];let⟨z_,x⟩:=r.get
     let⟨M,s,t⟩:=m3 o (by rw[Qa];show f) k a p (λj i T w O W n=>by
      let⟨y,I,m⟩:=x j _ O;let m:Y[i]?=B (B y):=m;rw[Qc,I] at n;ext n;show m) D c R
     show q v _ C Fr M s t
   .ext h
  .ext h
 .ext h
end
meta def clr(ps:-(Nat×D))(Z:Ro):Ro:=ps.foldl (λZ p=>Z.set p.1 L) Z
meta def zl(cap:-(@&Nat))(ps:-(Nat×D)):Bool:=ps.all λp=>match cap[p.1]? with|some L=>Uj|_=>Uk
def iH(cap:-(@&Nat))(tg:IT)(U:Ro->@&(Bool×Ro))(R:Ro->MR)(d:D)(O:Ro):@&(@&KD×Ro):=match sV tg d with
 |some ps=>if bW ps O=Uj/\zl cap ps=Uj then(match U (setAll ps O) with
  |some (Uj,Zt)=>(match R Zt with|some (kd,d,Z1)=>B (B (dW kd d,d),clr ps Z1)|none=>L)
  |some (Uk,Zt)=>B (L,clr ps Zt)
  |none=>L) else L
 |none=>L
def aG(r:Ow)(f:D->Ro->@&(@&KD×Ro)):-D->Ro->@&(-D×Ro)
 |[],Z=>B ([],Z)
 |d::ds,Z=>match f d Z with
  |some (B kd,Z1)=>if bR r kd=Uj then(match aG r f ds Z1 with|some (ys,Z2)=>B (kd.2::ys,Z2)|none=>L) else L
  |some (L,Z1)=>aG r f ds Z1
  |none=>L
theorem gT:∀{a b:-D} {Z Z':Ro} {ys:-D},aG r f (a++b) Z=B (ys,Z')->Σx c y,aG r f a Z=B (x,c)/\aG r f b c=B (y,Z')/\ys=x++y
 |[],b,Z,Z',ys,h=>#[[],Z,ys,rfl,h,rfl]
 |d::a,b,Z,Z',ys,h=>by
  rw[Rs] at h;delta aG at h
  .ext1 k c e1;ext h h
   .ext1 j;ext h h
    .ext1 l m e2;ext h;let⟨x,e,y,i,g,rfl⟩:=gT e2;rwa[k.2::x,e,y,by simp[aG,e1,i,j],g,rfl]
    .ext h
   .ext h
  .ext1 c e1;let⟨x,e,y,i,g,rfl⟩:=gT h;rwa[x,e,y,by simp[aG,e1,i],g,rfl]
  .ext h
theorem cX:∀{a:-D} {d:D} {x y:-D} {Z c b:Ro},aG r f a Z=B (x,c)->aG r f [d] c=B (y,b)->aG r f (a++[d]) Z=B (x++y,b)
 |[],d,x,y,Z,c,b,h,h1=>by ext h;show h1
 |e::a,d,x,y,Z,c,b,h,h1=>by
  unfold aG at h;rw[Rs];delta aG;ext h h
  .ext1 l g e1;ext h h
   .ext1 i;ext h h
    .ext1 k j e2;ext h;rw[cX e2 h1];simp[i]
    .ext h
   .ext h
  .ext1 g e1;show cX h h1
  .ext h
def qf{f:D->Ro->@&(@&KD×Ro)}{ds ys:-D}(h:aG r f ds Z=B (ys,Z')){i:Nat}(e:ds[i]?=B d){x:-D}(g:aG r f (ds.take i) Z=B (x,Zi)) :
  (Σa,f d Zi=B (L,a)/\aG r f (ds.take (i+1)) Z=B (x,a))\/Σc a,f d Zi=B (B c,a)/\bR r c=Uj/\aG r f (ds.take (i+1)) Z=B (x++[c.2],a):=by
 let m:ds=ds.take i++(d::ds.drop (i+1)):=by
  let⟨o,rfl⟩:=Qb.mp e;rw[<- QW o,Sn]
 let n:ds.take (i+1)=ds.take i++[d]:=by rw[RU,e];rfl
 rw[m] at h;let⟨p,a,y,l,b,z_⟩:=gT h;rw[g] at l;ext l;unfold aG at b;rw[n];ext b b
 .ext1 c j e1;ext b b
  .ext1 k;show .inr #[c,j,e1,k,cX g (by simp[aG,e1,k])]
  .ext b
 .ext1 j e1;show .inl #[j,e1,by simpa using cX g (y:=[]) (by simp[aG,e1])]
 .ext b
theorem gU:∀{ds ys:-D} {Z Z':Ro},aG r f ds Z=B (ys,Z')->ys.length<=ds.length
 |[],ys,Z,Z',h=>by ext h;show Qe _
 |d::ds,ys,Z,Z',h=>by
  delta aG at h
  .ext1 e a e1;ext h h
   .ext h h
    .ext1 c b e2;ext h;have:=gU e2;simp;lia
    .ext h
   .ext h
  .ext1 a e1;have:=gU h;simp;lia
  .ext h
abbrev IR:=@&(-Nat×-D×Ro)
def qg(X:Cx)(f:Ro->IR)(tg iter:Uo):Prop:=∀Z bs ds O,f Z=B (bs,ds,O)->∀g Y H R,SE X.K g Z Y H->
 (∀J s g1 H1,Evo g H g1 H1 (λW=>False)->SE X.K g1 O Y H1->jp X.K J s ds->s.P X.K g1 H1->s.from g1 H1 bs->R J H1)->wI X tg iter Y H R
meta def JA(a:@&(-Nat×-D))(Z:Ro):IR:=match a with|some (bs,ds)=>B (bs,ds,Z)|none=>L
def SndI.m{f:Ro->@&(-Nat×-D)}(h:SndI X f tg iter):qg X (λZ=>JA (f Z) Z) tg iter:=by
 intro Z j l o a g Y H R b q;dsimp only[JA] at a;ext a a
 .ext1 c i e;ext a;show h Z j l e g Y H R b λJ s n s1 k sp d=>q J s g n (cW s1 (λW z=>z.elim) λW z=>z.elim) (b.same s1) k sp d.from_H
 .ext a
meta def jz(cap:-(@&Nat)):-RA:=cap.map λo=>match o with|some i=>.ref i|none=>.val .sh .non
def jA(r:Ow)(it:IR)(f:D->Ro->@&(@&KD×Ro))(cap:-(@&Nat)):MR:=match it with
 |some (bs,ds,Z)=>if bs=[]/\ds.length<=100000 then(match aG r f ds (aT Z cap) with|some (ys,Zc)=>if Zc.length=cap.length then B (.fr (.own [] r),.lst ys,dD (jz cap) Zc Z) else L|none=>L) else L
 |none=>L
theorem jB:∀cap:-(@&Nat),dC (jz cap)=cap.filterMap id
 |[]=>rfl
 |none::r=>by
  have:=jB r;dsimp[jz,QE,dC] at this⊢;simpa using this
 |some i::r=>by
  have:=jB r;dsimp[jz,QE,dC] at this⊢;simpa using this
def Db(cap:-(@&Nat))(i:Nat):n9 (jz cap) i=jr cap i:=by
 unfold n9 jr jz;rw[RS];congr 1;funext o
 cases o with
 |none=>rfl
 |some k=>simp[Function.comp]
theorem SE.clr{H:Hp}:∀{ps:-(Nat×D)} {Z:Ro} {Y:L2.St},SE K g Z Y H->SE K g (clr ps Z) Y H
 |[],Z,Y,h=>h
 |p::ps,Z,Y,h=>by
  change SE K g (J.clr ps (Z.set p.1 L)) Y H;show SE.clr #[λi c e=>?_,h.mu,by simp[h.len]];by_cases b:i=p.1
  .subst b
   let a:p.1<Z.length:=by
    have:=(Qb.mp e).1;simpa using this
   rw[QF a] at e;ext e
  .rw[QH (Ne.symm b)] at e;show h.slot i c e
theorem kB:∀{ps:-(Nat×D)} {vs:-(Nat×V)} {Y:L2.St} {j:Nat},RpP K H S ps vs->(∀p∈ps,p.1≠j)->(iy vs Y)[j]?=Y[j]?
 |[],vs,Y,j,h,_=>by rw[(h)];rfl
 |(i,d)::ps,vs,Y,j,h,hn=>by
  let⟨v,b,rfl,z_,a⟩:=h;change(iy b (Y.set i (B v)))[j]?=_;rw[kB a λp c=>hn p (Qh _ c),QH (hn (i,d) Qr)]
section
variable {X:Cx} {Γ:fw} {c:Cz}
theorem Evo.drop{F F2:Pr}(a:Evo g H g' H' F)(h:∀b,F2 b->F b):Evo g H g' H' F2:=#[a.keep,a.out,a.new,λb z=>a.tmp b (h b z),a.dom]
def SE.drop{g:Gh}{F F2:Pr}(c:SE K (g.plus F) Z Y H)(h:∀b,F2 b->F b)(j:∀b,F b->g b=L):SE K (g.plus F2) Z Y H:=by
 let a:∀b,Sg (g.plus F2) b->Sg (g.plus F) b:=λb z=>(aj b).mpr (((aj b).mp z).imp id (h b));rwa[λi d e=>?_,λb z=>c.mu b (a b z),c.len];let⟨v,k,e1,e2,e3⟩:=c.slot i d e;rwa[v,k,e1,λb z=>?_,e3.go (λW W W e=>e) λb o W n z=>n (a b z)];let q:=bM (e2 b z);show cz q λf=>by rw[j b (h b f)] at q;ext q
def Evo.upd{H H':Hp}(a:Evo g H g' H' F)(d:H p=L):Evo g H g' (upd H' p o) F:=by
 rwa[λb c n e=>?_,a.out,a.new,a.tmp,λb c e=>?_]
 .rw[ac (λz=>by rw[z,d] at e;ext e)];show a.keep b c n e
 .let⟨f,e1⟩:=a.dom b c e;rwa[f,by rw[ac (λz=>by rw[z,d] at e;ext e)];show e1]
def qi(a:Evo g H g1 H1 (λZ=>False))(b:Evo g1 H1 g2 H2 F2):Evo g H g2 H2 F2:=by
 let t:=a.trans (by rw[a5 λZ z=>z];show b);let e1:g2.minus (λZ=>False)=g2:=by funext c;show bJ λz=>z
 rw[e1] at t;show t.drop λc z=>.inr z
def oe(X:Cx)(f:Ro->@&(Bool×Ro))(O:-Uo):Prop:=∀Z b Z',f Z=B (b,Z')->∀g Y H Q,SE X.K g Z Y H->(∀g' H',Evo g H g' H' (λW=>False)->SE X.K g' Z' Y H'->Q b H')->G9 X O Y H Q
theorem Hs:oe X (λZ=>B (Uj,Z)) []:=λZ b c h g Y H Q a q=>by ext h;show sX uB (q g H (.refl g H) a)
def u8{K:P9}{g' h p:Gh}{H1 H2 k:Hp}{D:Up}{a:Pr}{us:-V}{t:-J.D}{r:Ow}(m:Evo g' H1 h H2 (λb=>b=D\/a b))(y:¬a D)(A:H2 D=B (.lst us))(u:TrL K H2 (Sx h λb=>b=D\/a b) t [] r us a)(d:Evo (h.plus λb=>b=D\/a b) H2 p k (λZ=>False)) :
  Σg,Evo g' H1 g k (λb=>b=D\/a b)/\(g.plus λb=>b=D\/a b)=p/\k D=B (.lst us)/\TrL K k (Sx g λb=>b=D\/a b) t [] r us a:=by
 let q:(h.plus λb=>b=D\/a b) D=B L:=aZ (.inl rfl);let l:=(m.trans d).drop λb z=>.inl z;rwa[p.minus (λb=>b=D\/a b),l,?_,d.keep D _ (λi f=>by rw[q] at f;ext f) A,?_]
 .let e:=iC d;rw[a5 λZ z=>z] at e;let e2:(λc=>(c=D\/a c)\/False)=λb=>b=D\/a b:=by funext b;simp
  rw[e2] at e;show e
 .show u.go (λb o j e=>?_) λb o e n z=>?_
  .show d.keep b o (λi f=>?_) e;obtain j|j:=j
   .show j (.inl (by rw[bM f];simp))
   .rw[aZ (.inr j)] at f;ext f
  .let s:¬(b=D\/a b):=λz=>n (.inr z)
   let w:(h.plus λb=>b=D\/a b) b=L:=by
    rw[cc s]
    cases f:h b with
    |none=>rfl
    |some x=>show absurd (.inl (by rw[f];simp)) n
   let⟨v,f2⟩:=d.froz e w;obtain z|z:=z
   .rw[bJ s] at z;show z v
   .show s z
abbrev N4(K:P9)(f:-J.D->Ro->@&(-J.D×Ro))(cp:-(@&Nat))(Y1:L2.St)(r:Ow)(ds:-J.D)(g':Gh)(Z:Ro)(H1:Hp)(D:Up):Nat->Nat->L2.St->Hp->Prop:=λi m Y' H'=>m=ds.length-i/\i<=ds.length/\Σ(R:Gh) (O:Pr) (us:-V) (yi:-J.D) (U:Ro),f (ds.take i) Z=B (yi,U)/\Evo g' H1 R H' (λb=>b=D\/O b)/\¬O D/\SE K (R.plus λb=>b=D\/O b) U Y' H'/\
  (∀(j i:Nat),cp[j]?=B (B i)->Y'[j]?=Y1[j]?)/\H' D=B (.lst us)/\TrL K H' (Sx R λb=>b=D\/O b) yi [] r us O
def u9(O:aq X Γ c){fi:Ro->IR}(hck:bb c scope=Uj)(hi:qg X fi tg iter)(g5:n5 #[gh scope c.sc,ae scope,gO scope] n tg=B t)(hz:∀C s H ex,oe (ai X (ae scope) scope C s H ex) ft ifs)(gk:∀C s H ex,bK (ai X (ae scope) scope C s H ex) fe elt)(h:jA r (fi Z) (iH (aA c scope) t ft fe) (aA c scope)=B (kd,d,Z')){Y:L2.St}{Q:VK}(se:SE X.K g Z Y H)(q:∀v g' H' F,Evo g H g' H' F->SE X.K (g'.plus F) Z' Y H'->VR1 X.K H' g' F kd d v F->Q v H') :
  ja (wI X tg iter) (λv Y H Q=>∀C s H0 ex,wG (ai X (ae scope) scope C s H0 ex) tg v Y H Q) (λY H Q=>∀C s H0 ex,G9 (ai X (ae scope) scope C s H0 ex) ifs Y H Q) (λY H Q=>∀C s H0 ex,wE (ai X (ae scope) scope C s H0 ex) elt Y H Q) (aA c scope) Y H Q:=by
 let hg:ly (aA c scope)=Uj:=by
  dsimp[bb,Qd] at hck;show hck.1.2
 delta jA at h
 .ext1 bs I Z0 hit;ext h h
  .ext1 M;let⟨rfl,M⟩:=M;ext h h
   .ext1 ys Ze hm;ext h h
    .ext1 kk;ext h;let CO:=dc O hck;show hi Z [] I Z0 hit g Y H _ se λjj kb g1 H1 h9 h7 jt sp sf D hD=>?_;replace q:∀v g' H' F,Evo g1 H1 g' H' F->SE X.K (g'.plus F) (dD (jz (aA c scope)) Ze Z0) Y H'->VR1 X.K H' g' F (.fr (.own [] r)) (.lst ys) v F->Q v H':=λv g' H' F e s r=>q v g' H' F (qi h9 e) s r;clear se h9;generalize g1=g at *;generalize Z0=Z at *;let V:SE X.K (g.re (jr (aA c scope))) (aT Z (aA c scope)) (cU Y (aA c scope)) H1:=h7.cap hg;generalize h0:g.re (jr (aA c scope))=g' at V;let gS:∀b,Sg g' b↔Sg g b:=λb=>by rw[<- h0];show ki b
     generalize hZ:aT Z (aA c scope)=Zc at V hm
     show#[N4 X.K (aG r (iH (aA c scope) t ft fe)) (aA c scope) (cU Y (aA c scope)) r I g' Zc H1 D,
      #[I.length,∎,QM _,g',λJ=>False,[],[],Zc,by simp[aG],?_,λz=>z,?_,λj i J=>rfl,al,by delta TrL;rwa[rfl,λJ z=>z]],?_]
     .let gD:g' D=L:=eQ V.mu hD;rwa[λb o n e=>ag hD b o e,λJ=>Iff.rfl,λb i e=>.inl #[i,e],λb z=>?_,λb o e=>#[o,ag hD b o e]];obtain z|z:=z
      .subst z;rwa[gD,.inr hD]
      .show z.elim
     .show V.plus (ag hD) (λb z=>z.elim (λz=>z▸hD) λz=>z.elim) λb z=>z.elim (λz=>#[.lst [],z▸al,λxs h=>by cases h]) λz=>z.elim
     rintro i m Y' H' ⟨rfl,kp,gi,f,us,yi,Zi,hf,u,E,hh,hv,gD,tr⟩
     let kn:∀b,(b=D\/f b)->gi b=L:=λb z=>(u.tmp b z).1
     let kf:kb.P X.K (gi.plus λb=>b=D\/f b) H':=by
      let fz:∀b o,H1 b=B o->¬Sg g b->H' b=B o/\¬Sg (gi.plus λb=>b=D\/f b) b:=λb o e n=>by
       let n':g' b=L:=by
        cases l:g' b with
        |none=>rfl
        |some x=>show absurd ((gS b).mp (by rw[Sg,l];simp)) n
       let⟨f1,f2⟩:=u.froz e n';rwa[u.keep b o (λi l=>by rw[n'] at l;ext l) e,λz=>?_];rcases(aj b).mp z with z|z
       .show z f1
       .show f2 z
      show Src.mono (λb o e n=>(fz b o e n).2) (λb o A e=>?_) (λa e=>sf.from_t e) sp;obtain A|A:=A
      .show(fz b o e A).1
      .obtain sf|⟨i,gl,_⟩:=sf.from_l A
       .show(fz b o e (by rw[Sg,sf];simp)).1
       .ext gl
     let⟨j1,j2⟩:=jt i _ H' kf hh.mu;by_cases ha:i<I.length
     .let hd:I[i]?=B I[i]:=Qi ha;let⟨go,yl⟩:=j2 _ hd;show .inr #[go,λx H2 hy C s0 H0 ex=>?_];let⟨s2,rx⟩:=yl x H2 hy;let st:=qf hm hd hf
      let hl:Σo,iH (aA c scope) t ft fe I[i] Zi=B o:=by
       rcases st with⟨Z1,e,_⟩|⟨kd,Z1,e,_⟩
       .rwa[_,e]
       .rwa[_,e]
      let⟨o0,U⟩:=hl;let S:=U;delta iH at S
      .ext1 ps kc;ext S S
       .ext1 h2;let⟨h2,ke⟩:=h2
        let h5:∀(j i:Nat),(aA c scope)[j]?=B (B i)->∀p∈ps,p.1≠j:=λj i e p hp z=>by
         have:=QB.mp ke p hp;rw[z,e] at this;ext this
        show uD (pX (CO C s0 H0 ex) n g5) (iz kc rx λvs hu C1 h3 ga h1=>?_);let t1:=SE.setAll hu (hh.same s2);let hx:Evo g' H1 gi H2 (λb=>b=D\/f b):=#[λb o n e=>s2 _ _ (u.keep b o n e),u.out,u.new,u.tmp,λb o e=>let ⟨o',l⟩:=u.dom b o e;#[o',s2 _ _ l]];let h6:TrL X.K H2 (Sx gi λb=>b=D\/f b) yi [] r us f:=tr.go (λb o J e=>s2 _ _ e) λJ J J n=>n;ext S S
        .ext1 Zt hT;show hz C1 h3 ga h1 _ Uj Zt hT _ _ _ _ t1 λgt H3 hj T=>wR λC2 g0 g3 ka=>?_;let⟨N,ho,hr,hw,hs⟩:=u8 hx E (s2 _ _ gD) h6 hj;rw[<- hr] at T
         let h4:us.length<=i:=by
          rw[tr.len];show QG (gU hf) (by rw[QO];lia)
         ext S S
         .ext1 ky y Z1 gd;ext S
          let hc:bR r (dW ky y,y)=Uj/\aG r (iH (aA c scope) t ft fe) (I.take (i+1)) Zc=B (yi++[y],clr ps Z1):=by
           rcases st with⟨Z2,e,_⟩|⟨kd,Z2,e,e2,e3⟩
           .rw[U] at e;ext e
           .rw[U] at e;ext e;rwa[e2,e3]
          show gk C2 g0 g3 ka _ ky y Z1 gd _ _ H3 _ T λvy g2 H4 Fy k hn r4=>?_;let gj:=VR1.im hn.mu r4;let gv:(N.plus λb=>b=D\/f b) D=B L:=aZ (.inl rfl);let gb:H4 D=B (.lst us):=k.keep D _ (λi l=>by rw[gv] at l;ext l) hw
          let R:∀b,(b=D\/f b)->¬Fy b:=λb z z2=>by
           have:=(k.out b).mp (aZ z);rw[(k.tmp b z2).1] at this;ext this
          let h8:=ho.trans k;let mm:MuOk H4 (Sx g2 Fy):=λb z=>hn.mu b ((aj b).mpr z);let⟨F2,a1,a2⟩:=VR1.fit hc.1 mm (λb z=>(k.tmp b z).1) (λb z=>z) gj;let kl:=h4;let kD:∀b o,b≠D->H4 b=B o->upd H4 D (.lst (us++[vy])) b=B o:=λb o n e=>by rw[ac n];show e
          let mD:∀b,(b=D\/f b)->(g2.minus λb=>b=D\/f b) b=L:=λb z=>iB z;let gs:∀b,((b=D\/f b)\/Fy b)->(g2.minus λb=>b=D\/f b) b=L:=λb z=>(h8.tmp b z).1;let ht:∀b,(b=D\/(f b\/F2 b))->((b=D\/f b)\/Fy b):=λb z=>z.elim (λz=>.inl (.inl z)) λz=>z.elim (λz=>.inl (.inr z)) λz=>.inr (a1 b z);rwa[us,gb,Rc kl (Qn ha (aO M)),I.length-(i+1),∅,rfl,ha,g2.minus (λb=>b=D\/f b),λb=>f b\/F2 b,us++[vy],yi++[y],clr ps Z1,hc.2,(h8.drop ht).upd hD,λz=>z.elim E λz=>R D (.inl rfl) (a1 D z),?_,λj i e=>(kB hu (h5 j i e)).trans (hv j i e),al,?_]
          .show SE.upd (SE.clr (SE.drop (by rw[iC k];show hn) ht gs)) (aZ (.inl rfl)) (λxs h=>by ext h)
          .show TrL.snoc (hs.go (λb o A e=>?_) λb o e n z=>?_) ((a2 (Sx (g2.minus λb=>b=D\/f b) λb=>b=D\/(f b\/F2 b)) λb z=>?_).go (λb o A e=>kD b o (λz=>?_) e) λb o e n z=>n z) λb z1 z2=>R b (.inr z1) (a1 b z2)
           .let nb:b≠D:=λz=>by
             subst z;show A.elim (λz=>z (.inr (.inl rfl))) E
            show kD b o nb (k.keep b o (λi l=>?_) e);obtain A|A:=A
            .show A (.inl (by rw[bM l];simp))
            .rw[aZ (.inr A)] at l;ext l
           .let nb:¬(b=D\/f b):=λz=>n (.inr z)
            let gn:(N.plus λb=>b=D\/f b) b=L:=by
             rw[cc nb]
             cases l:N b with
             |none=>rfl
             |some x=>show absurd (.inl (by rw[l];simp)) n
            let⟨f1,f2⟩:=k.froz e gn;obtain z|z:=z
            .rw[bJ nb] at z;show z f1
            .obtain z|z:=ht b z
             .show nb z
             .show f2 z
           .obtain z|z:=z
            .by_cases A:b=D\/f b
             .rw[iB A] at z;show absurd rfl z
             .rw[bJ A] at z;show .inr (.inl z)
            .obtain z|z|z:=z
             .right;left;rw[(k.out b).mp (aZ (.inl z))];simp
             .right;left;rw[(k.out b).mp (aZ (.inr z))];simp
             .show .inr (.inr (.inl z))
           .subst z;show A.elim (λz=>z (.inr (.inl rfl))) λz=>R b (.inl rfl) (a1 b z)
         .ext S
        .ext1 Zt hT;ext S
         let hc:aG r (iH (aA c scope) t ft fe) (I.take (i+1)) Zc=B (yi,clr ps Zt):=by
          rcases st with⟨Z1,e,e2⟩|⟨kd,Z1,e,_⟩
          .rw[U] at e;ext e;show e2
          .rw[U] at e;ext e
         show hz C1 h3 ga h1 _ Uk Zt hT _ _ _ _ t1 λgt H3 hj T=>wQ ?_;let⟨N,ho,hr,hw,hs⟩:=u8 hx E (s2 _ _ gD) h6 hj;rw[<- hr] at T;rwa[I.length-(i+1),∅,rfl,ha,N,f,us,yi,clr ps Zt,hc,ho,E,SE.clr T,λj i e=>(kB hu (h5 j i e)).trans (hv j i e),hw,hs]
        .ext S
       .ext S
      .ext S
     .let e:i=I.length:=∅
      subst e;rw[QQ,hm] at hf;ext hf;show .inl #[j1 (Qe _),?_];let g4:(dC (jz (aA c scope))).Nodup:=by rw[jB];simpa[ly] using hg
      let gc:g.re (n9 (jz (aA c scope)))=g':=by
       rw[<- h0];congr 1;funext i;show Db _ _
      let rv:VR1 X.K H' gi (λb=>b=D\/f b) (.fr (.own [] r)) (.lst ys) (.ref D) (λb=>b=D\/f b):=by
       change Tr _ _ _ _ _ _ _;delta Tr
       rwa[D,_,us,f,rfl,gD,rfl,λJ=>E,(λh=>nomatch h),λb=>#[λz=>z.imp (λz=>#[rfl,z]) id,λz=>z.imp (λz=>z.2) id],tr]
      let⟨c1,c2,c3⟩:=m3 g4 (by rw[kk];simp[jz]) rfl (.refl g H1) (by rw[a5 λJ z=>z];show h7)
       (λj i sl w ej eo ew=>by
        unfold jz at ej;rw[Qc] at ej
        cases l:(aA c scope)[j]? with
        |none=>rw[l] at ej;ext ej
        |some o=>
         rw[l] at ej
         cases o with
         |none=>ext ej
         |some i'=>
          ext ej;rw[hv j i l] at ew;unfold cU at ew;rw[Qc,l] at ew;let W:(Y[i]?).join=B w:=by simpa using ew
          cases q2:Y[i]? with
          |none=>rw[q2] at W;ext W
          |some w'=>rw[q2] at W;have:w'=B w:=W;rw[this]) (by rw[gc];show u) hh rv
      show q _ _ H' _ c1 c2 c3
    .ext h
   .ext h
  .ext h
 .ext h
def Dc(O:aq X Γ c){p:Ro->IR}(hck:bb c scope=Uj)(hns:dB iter=Uj)(hi:qg X p tg iter)(l:n5 #[gh scope c.sc,ae scope,gO scope] n tg=B t)(o:∀C s H ex,oe (ai X (ae scope) scope C s H ex) ft ifs)(k:∀C s H ex,bK (ai X (ae scope) scope C s H ex) fe elt) :
  bK X (λZ=>jA r (p Z) (iH (aA c scope) t ft fe) (aA c scope)) (.ListComp elt [#[tg,iter,ifs,0]] scope pos):=by
 intro Z y d x h g Y H Q w q
 show aB (pJ O.calm (dA O hck) wX
  (λC s e ex a b i m v u j I r f=>wY a b i m v u j I r (f C s e ex)) (λC s e ex a b i m j I f=>f C s e ex a b I) (λC s e ex a b i m j I f=>f C s e ex a b I) (dh hns)) (u9 O hck hi l o k h w q)
end
def w2(X:Cx)(a b:Uo)(Y:L2.St)(H:Hp)(R:-V->Hp->Prop):Prop:=wE X a Y H λx H1=>wE X b Y H1 λy H2=>R [x,y] H2
def va(X:Cx)(f:Ro->@&(-KD×Ro))(a b:Uo):Prop:=∀Z kds Z',f Z=B (kds,Z')->∀g Y H Q,SE X.K g Z Y H->
 (∀vs g' H' F,Evo g H g' H' F->SE X.K (g'.plus F) Z' Y H'->VRL X.K H' g' F kds vs F->Q vs H')->w2 X a b Y H Q
def Strict2(X:Cx)(f:-KD->@&KD)(a b O:Uo):Prop:=∀kds R d,f kds=B (R,d)->∀Y H Q,w2 X a b Y H (Pd X kds R d Q)->wE X O Y H Q
section
variable {X:Cx} {Γ:fw} {c:Cz}
def Strict2.m{f:-KD->@&KD}{k:Ro->@&(-KD×Ro)}(h:Strict2 X f a b node)(u:va X k a b):bK X (λZ=>(k Z).bind λp=>(f p.1).map λq=>(q.1,q.2,p.2)) node:=by
 intro Z I d D c g Y H Q x q;cbv at c
 cases e:k Z with
 |none=>rw[e] at c;ext c
 |some p=>
  let⟨i,E⟩:=p;rw[e] at c;dsimp only[QY] at c
  cases e2:f i with
  |none=>rw[e2] at c;ext c
  |some r=>
   rw[e2] at c;ext c;show h i r.1 r.2 e2 Y H Q (u Z i _ e g Y H _ x λK n C F l j w=>#[n,mj C F,tf j λb z=>(l.tmp b z).1,lG,w.off,λv s s2 y=>?_]);let⟨A,b1,b2⟩:=y;let⟨t,o⟩:=zi l j s2 b1 b2.dom;show q v n s A t o b2
def VR.one{v:V}(h:VR K g H0 H kd d v):VRs K g H0 H [(kd,d)] [v]:=by
 let⟨F,a,c⟩:=h;rwa[F,a,v,[],F,λZ=>False,rfl,λb=>#[.inl,λz=>z.elim id λz=>z.elim],λZ Z z=>z,c,rfl,λZ z=>z]
def Ht{l:Ro->MR}{fb:Ro->@&KD}(F:bK X l a)(A:SndE X fb b):va X (λZ=>iF (l Z) λZ=>ca (fb Z) (B [])) a b:=by
 intro Z C i h g Y H Q D q;dsimp only[iF] at h;ext h h
 .ext1 I d N e1;ext h h
  .ext1 j e2;ext h;delta ca at e2
   .ext1 x M o e;ext e2;ext e;let⟨y,u⟩:=x;show F Z I d i e1 g Y H _ D λv k K t f c p=>A i y u o (k.plus t) Y K _ c λw s s2 E=>?_;let⟨r,z,m,n⟩:=uZ f c p s2 E.one;show q [v,w] k s r z m n
   .ext e2
  .ext h
 .ext h
def Dd{s fb:Ro->MR}(P:bK X s a)(E:bK X fb b):va X (λZ=>jw (s Z) λZ=>iF (fb Z) λW=>B []) a b:=by
 intro Z F y h g Y H Q I q;dsimp only[jw] at h;ext h h
 .ext1 R d r e1;ext h h
  .ext h
  .ext1 j;ext h h
   .ext1 m T e2;ext h;delta iF at e2
    .ext1 p o S e3;ext e2;show P Z R d r e1 g Y H _ I λv O N C k c x=>E r p o y e3 (O.plus C) Y N _ c λw A n l f e M=>?_;let i:VRL X.K n A l [(p,o)] [w] l:=#[w,[],l,λW=>False,rfl,λb=>#[.inl,λz=>z.elim id λz=>z.elim],λW W z=>z,M,rfl,λW z=>z];let⟨D,t,u⟩:=p8 ↥j k (x.im c.mu) f e i;show q [v,w] _ n _ D t u
    .ext e2
   .ext h
 .ext h
meta def f2(f:KD->KD->@&KD):-KD->@&KD
 |[x,y]=>f x y
 |_=>L
def n_bin:Strict2 X (f2 (d8 op)) a b (.BinOp a op b pos):=by
 intro c t d h Y H Q f
 match c,h with
 |[x,y],h=>
  show aB (Ew (yO op) aC aC) (uJ f λA C p=>uJ p λz u ⟨g,l,m,s,r,q⟩=>?_);let⟨v,w,e,i,n⟩:=r.two;ext e;rwa[g,l,x,y,t,d,m,s,i,n,h,λv o j k=>q v o j (k.older s)]
def P8:KD->KD->@&KD:=λx y=>Cy (B x) (B y)
def n_tup:StrictOk X (λkds=>jm k (B kds)) es (.Tuple es n pos):=by
 intro kds l d h Y H Q e;dsimp only[jm] at h;ext h h
 .ext h h
  .ext1 c;ext h;show aB (nJ dI) (dO e λf j ⟨g,i,m,s1,a,q⟩=>#[by rw[a.len];show aO c.2,λp b=>?_]);show q _ _ (ag b) (a.tupO c.1 m s1 b)
  .ext h
 .ext h h
  .ext1 c;ext h;show aB (nJ dI) (dO e λf j ⟨g,i,m,s1,a,q⟩=>#[by rw[a.len];show aO c.2,λp b=>?_]);show q _ _ (ag b) ((GJ (m.same s1) b (a.sh c.1 m s1)).older s1)
  .ext h
def N5(O:aq X Γ c){es:-Uo}{j:Ro->@&(-RA×Ro)}(o:Γ.fm x=B λK=>xg K U)(y:jh c.sc x=Uj)(z:ah e=Uj)(k:es.all ah=Uj)(A:gB X j (e::es)) :
  bK X (λZ=>C9 (B U) (j Z)) (.Call (.Name x p) (e::es) [] pos):=by
 intro Z D d I h g Y H Q v q;let⟨n,l,M,ps,F,C,t,hk,u,f⟩:=O.tab.fm x _ o;cbv at h
 cases b:j Z with
 |none=>rw[b] at h;ext h
 |some r=>
  let⟨i,w⟩:=r;rw[b] at h;show aB (ul F C (d9 O y) t hk u .nil pB dI f (am z) (bZ k)) (A Z i w b g Y H _ v λE P R N s a m=>?_);rw[Q1];show u7 h s a m q
def zm(i:Nat)(Z:Ro):MR:=match Z[i]? with
 |some (B ⟨Uk,k,d⟩)=>if sD k=Uj then B (.sh,d,Z) else B (.fr k,d,Z.set i L)
 |_=>L
open Classical in
meta def Gh.off(g:Gh)(i:Nat):Gh:=λb=>if g b=B (B i) then L else g b
def vb{g:Gh}(h:Sg (g.off i) b):Sg g b/\g b≠B (B i):=by
 by_cases n:g b=B (B i)
 .show absurd (by delta Gh.off;rw[if_pos n]) h
 .rwa[λz=>h ?_,n];delta Gh.off;rw[if_neg n];show z
def zn{g:Gh}(h:g b≠B (B i)):g.off i b=g b:=by delta Gh.off;rw[if_neg h]
def Hu{g:Gh}(h:g b=B (B i)):g.off i b=L:=by delta Gh.off;rw[if_pos h]
def qj{g:Gh}(h:g.off i b=B x):g b=B x/\x≠B i:=by
 delta Gh.off at h
 .ext h
 .ext1 n;rwa[h,λz=>n #v[h,z]]
def vc{g:Gh}{F:Pr}(a:∀b,F b->g b=B (B i)):Evo g H (g.off i) H F:=by
 rwa[λZ Z Z e=>e,λb=>#[λe=>?_,λe=>(qj e).1],λb j e=>.inl #[j,(qj e).1],λb z=>#[Hu (a b z),.inl #[i,a b z]],λZ o e=>#[o,e]];rw[zn (by rw[e];simp)];show e
def zo{g:Gh}{F:Pr}{Z Z':Ro}{Y:L2.St}(h:SE K g Z Y H)(l:∀b,F b->g b=B (B i))(t:Z'.length=Z.length)(p:∀(j:Nat) a,Z'[j]?=B (B a)->(j≠i/\Z[j]?=B (B a))\/(Σv,Y[j]?=B (B v)/\a.k=.fz/\Rp K H (Sg ((g.off i).plus F)) a.d v)):SE K ((g.off i).plus F) Z' Y H:=by
 let c:∀b,Sg ((g.off i).plus F) b->Sg g b:=λb z=>((aj b).mp z).elim (λz=>(vb z).1) λz=>by rw[Sg,l b z];simp
 rwa[λj a e=>?_,λb z=>h.mu b (c b z),by rw[t];show h.len];rcases p j a e with⟨m,e1⟩|⟨v,e1,e2,e3⟩
 .let⟨v,w,u,q,r⟩:=h.slot j a e1;rwa[v,w,u,λb z=>?_,r.go (λW W W e=>e) λb o W n z=>n (c b z)];let f:=q b z;show cz ?_ λs=>by rw[l b s] at f;ext f;show m rfl
  rw[zn (by rw[f];intro z;ext z;show m rfl)];show f
 .let⟨x,k,d⟩:=a;let e2:k=.fz:=e2;subst e2;rwa[v,λW=>False,e1,λb z=>z.elim,.fz e3]
def kC(O:aq X Γ c){i:Nat}(a:jk c x=B i)(pos:Pos){Y:L2.St}{Q:VK}(e:Y[i]?=B (B v))(q:Q v H):wE X (.Name x pos) Y H Q:=by
 delta jk at a
 .ext1 j d;ext a a
  .ext1 b;ext a;dsimp[Qd,nY,QZ] at b;show aB (rQ (by rw[O.N];show aP d) (by rw[O.sc];show nX b.1) b.2.1 b.2.2) #[v,e,q]
  .ext a
 .ext a
def Ll(O:aq X Γ c)(p:jk c x=B i)(pos:Pos):bK X (zm i) (.Name x pos):=by
 intro Z s d u h g Y H Q f q;delta zm at h
 .ext1 k w e;let⟨v,r,e1,e2,e3⟩:=f.slot i _ e;ext h h
  .ext1 hk;ext h;let m:=kr hk;subst m;show kC O p pos e1 (q v g H (λW=>False) (.refl g H) (by rw[a5 λW z=>z];show f) #[λW z=>z,?_]);show e3.fz_inv.2.weak λb z=>z.elim id λz=>z.elim
  .ext h;show kC O p pos e1 (q v (g.off i) H r (vc e2) (zo f e2 ∎ λj t e4=>?_) ?_)
   .by_cases l:j=i
    .subst l
     let a:j<Z.length:=by
      have:=(Qb.mp e4).1;simpa using this
     rw[QF a] at e4;ext e4
    .rw[QH (Ne.symm l)] at e4;show .inl #[l,e4]
   .change Tr _ _ _ _ _ _ _;show e3.go (λW W W e=>e) λb o W n z=>n (z.elim (λz=>(vb z).1) λz=>by rw[Sg,e2 b z];simp)
 .ext h
end
section
variable {K:P9} {H:Hp} {S:Pr}
theorem TrL.focus:∀{ds:-D} {es:-Ow} {r:Ow} {xs:-V} {F:Pr} {j:Nat} {d:D},TrL K H S ds es r xs F->ds[j]?=B d->Σ(x:V) (m Fr:Pr),xs[j]?=B x/\(∀b,F b↔m b\/Fr b)/\(∀b,m b->¬Fr b)/\Tr K H S d (es.getD j r) x m/\
  ∀(g:Hp) (i:Pr) (l:D) (a:Pr),(∀b o,(¬S b\/Fr b)->H b=B o->g b=B o)->(∀b o,H b=B o->¬S b->¬i b)->Tr K g i l (es.getD j r) x a->(∀b,a b->¬Fr b)->TrL K g i (ds.set j l) es r xs (λb=>a b\/Fr b)
 |[],_,_,_,_,_,_,h,e=>by simp at e
 |d0::ds,es,r,xs,F,0,d,h,e=>by
  unfold TrL at h;let⟨y,n,q,C,rfl,w,u,E,v⟩:=h;simp at e;subst e
  rwa[y,q,C,rfl,w,u,by cases es<;>simpa using E,λg i l a s p t f=>?_]
  delta TrL
  rwa[y,n,a,C,rfl,λb=>Iff.rfl,f,by cases es<;>simpa using t,v.go s p]
 |d0::ds,es,r,xs,F,j+1,d,h,e=>by
  unfold TrL at h;let⟨y,n,q,C,rfl,w,u,E,v⟩:=h
  let⟨x,m,Fr,e1,e2,e3,e4,M⟩:=TrL.focus v ↥e
  let I:es.tail.getD j r=es.getD (j+1) r:=by cases es<;>simp
  rw[I] at e4;rwa[x,m,λb=>q b\/Fr b,↥e1,λb=>?_,λb k c=>?_,e4,λg i l a s p t f=>?_]
  .rw[w b,e2 b];rwa[λz=>z.elim (λz=>.inr (.inl z)) λz=>z.imp id .inr,λz=>z.elim (λz=>.inr (.inl z)) λz=>z.imp id .inr]
  .obtain c|c:=c
   .show u b c ((e2 b).mpr (.inl k))
   .show e3 b k c
  .change TrL K g i (d0::ds.set j l) es r (y::n) _;delta TrL;rwa[y,n,q,λb=>a b\/Fr b,rfl,λb=>#[λz=>z.elim (λz=>.inr (.inl z)) λz=>z.imp id .inr,λz=>z.elim (λz=>.inr (.inl z)) λz=>z.imp id .inr],λb k c=>?_,E.go (λb o A e=>s b o (A.imp id .inl) e) p,M g i l a (λb o A e=>s b o (A.imp id .inr) e) p (by rw[I];show t) λb k c=>f b k (.inr c)];obtain c|c:=c
   .show f b c (.inl k)
   .show u b k ((e2 b).mpr (.inr c))
def FP(K:P9)(H:Hp)(S:Pr)(k:Ow)(v:V)(F:Pr)(U:Ow)(d1:D)(v1:V)(up:D->D):Prop:=Σ(F1 Fr:Pr),(∀b,F b↔F1 b\/Fr b)/\(∀b,F1 b->¬Fr b)/\Tr K H S d1 U v1 F1/\
  ∀(H':Hp) (S':Pr) (R:D) (O:Pr),(∀b o,(¬S b\/Fr b)->H b=B o->H' b=B o)->(∀b o,H b=B o->¬S b->¬S' b)->Tr K H' S' R U v1 O->(∀b,O b->¬Fr b)->Tr K H' S' (up R) k v (λb=>O b\/Fr b)
def FP.root(h:Tr K H S d k v F):FP K H S k v F k d v id:=by
 rwa[F,λZ=>False,λb=>#[.inl,λz=>z.elim id λz=>z.elim],λZ Z z=>z,h,λi g e a f l t j=>?_];let c:(λb=>a b\/False)=a:=by funext b;show propext #[λz=>z.elim id λz=>z.elim,.inl]
 rw[c];show t
def FP.same(h:FP K H S k v F k1 d1 v1 up)(s:Same H H2):FP K H2 S k v F k1 d1 v1 up:=by
 let⟨g,Fr,r,q,j,l⟩:=h;rwa[g,Fr,r,q,j.go (λb o Z e=>s b o e) λZ Z Z n=>n,λm d c a k1 p t f=>l m d c a (λb o i e=>k1 b o i (s b o e)) (λb o e n=>p b o (s b o e) n) t f]
def FP.step{es:-Ow}{ds:-D}{up:D->D}{j:Nat}(h:FP K H S k v F (.own es r) (.nd hd ds) v1 up)(R:ds[j]?=B d):Σa o xs x,v1=.ref a/\H a=B o/\c7 K o hd xs/\xs.length=ds.length/\xs[j]?=B x/\FP K H S k v F (es.getD j r) d x (λz=>up (.nd hd (ds.set j z))):=by
 let⟨F1,Fr,X,y,M,W⟩:=h;unfold Tr at M;let⟨a,o,xs,F',rfl,q,I,O,E,u,t⟩:=M
 let⟨x,U,n,e1,e2,e3,e4,Y⟩:=t.focus R
 rwa[a,o,xs,x,rfl,q,I,t.len,e1,U,λb=>(hd.mu=Uj/\b=a)\/n b\/Fr b,λb=>?_,λb i c=>?_,e4,λp A m f s w T l=>?_]
 .rw[X b,u b,e2 b];rwa[λz=>z.elim (λz=>z.elim (λz=>.inr (.inl z)) λz=>z.imp id λz=>.inr (.inl z)) λz=>.inr (.inr (.inr z)),λz=>z.elim (λz=>.inl (.inr (.inl z))) λz=>z.elim (λz=>.inl (.inl z)) λz=>z.elim (λz=>.inl (.inr (.inr z))) .inr]
 .rcases c with⟨g,rfl⟩|c|c
  .show O g ((e2 b).mpr (.inl i))
  .show e3 b i c
  .show y b ((u b).mpr (.inr ((e2 b).mpr (.inl i)))) c
 .let P:=Y p A m f (λb o C e=>s b o (C.imp id λz=>.inr (.inl z)) e) w T λb i c=>l b i (.inr (.inl c))
  let Q:p a=B o:=by
   cases g:hd.mu with
   |true=>show s a o (.inr (.inl #[g,rfl])) q
   |false=>show s a o (.inl (E g)) q
  let Z:Tr K p A (.nd hd (ds.set j m)) (.own es r) (.ref a) (λb=>(hd.mu=Uj/\b=a)\/(f b\/n b)):=by
   delta Tr;rwa[a,o,xs,λb=>f b\/n b,rfl,Q,I,λg z=>z.elim (λz=>l a z (.inl #[g,rfl])) λz=>O g ((e2 a).mpr (.inr z)),λg=>w a o q (E g),λb=>Iff.rfl,P]
  let N:=W p A _ _ (λb o C e=>s b o (C.imp id λz=>.inr (.inr z)) e) w Z λb i c=>by
   rcases i with⟨g,rfl⟩|i|i
   .show y b ((u b).mpr (.inl #[g,rfl])) c
   .show l b i (.inr (.inr c))
   .show y b ((u b).mpr (.inr ((e2 b).mpr (.inr i)))) c
  let V:(λb=>((hd.mu=Uj/\b=a)\/(f b\/n b))\/Fr b)=λb=>f b\/((hd.mu=Uj/\b=a)\/n b\/Fr b):=by
   funext b;show propext #[λz=>z.elim (λz=>z.elim (λz=>.inr (.inl z)) λz=>z.imp id λz=>.inr (.inl z)) λz=>.inr (.inr (.inr z)),λz=>z.elim (λz=>.inl (.inr (.inl z))) λz=>z.elim (λz=>.inl (.inl z)) λz=>z.elim (λz=>.inl (.inr (.inr z))) .inr]
  rw[V] at N;show N
end
def EJ(hd:Hd)(n:Nat)(x:D):@&Nat:=match hd with
 |.lst=>(match x with|.int z=>jY n z|_=>L)
 |.tup=>(match x with|.int z=>jY n z|_=>L)
 |.dic t ks=>(match je x with|some k=>if ik t k=Uj then aX ks k else L|none=>L)
 |.obj _ _=>L
def zq(p:@&(Ow×D×(D->D)))(x:@&KD):@&(Ow×D×(D->D)):=match p,x with
 |some (.own es r,.nd hd ds,up),B (_,dx)=>(match EJ hd ds.length dx with
  |some j=>(match ds[j]? with|some d=>B (es.getD j r,d,λz=>up (.nd hd (ds.set j z)))|none=>L)
  |none=>L)
 |_,_=>L
def bz(f:Str)(p:@&(Ow×D×(D->D))):@&(Ow×D×(D->D)):=match p with
 |some (.own es r,.nd (.obj c ns) ds,up)=>(match a9 f ns with
  |some j=>(match ds[j]? with|some d=>B (es.getD j r,d,λz=>up (.nd (.obj c ns) (ds.set j z)))|none=>L)
  |none=>L)
 |_=>L
meta def j5(o:@&(@&Sl)):@&(Ow×D×(D->D)):=match o with
 |some (B ⟨Uk,k,d⟩)=>B (k,d,id)
 |_=>L
def mq(X:Cx)(i:Nat)(f:Ro->@&(Ow×D×(D->D)))(e:Uo):Prop:=∀Z O U up,f Z=B (O,U,up)->∀g Y H Q,SE X.K g Z Y H->
 (∀R H' v F k d,Same H H'->Z[i]?=B (B #[Uk,k,d])->Y[i]?=B (B v)->(∀b,F b->g b=B (B i))->FP X.K H' (Sg g) k v F O U R up->Q R H')->wE X e Y H Q
section
variable {X:Cx} {Γ:fw} {c:Cz}
def Hv(O:aq X Γ c){i:Nat}(b:jk c x=B i)(pos:Pos):mq X i (λZ=>j5 Z[i]?) (.Name x pos):=by
 intro Z a j up h g Y H Q f q;dsimp only[j5] at h;ext h h
 .ext1 k d e;ext h;let⟨v,F,e1,e2,e3⟩:=f.slot i _ e;show kC O b pos e1 (q v H v F a j (Same.refl H) e e1 e2 (.root e3))
 .ext h
def Hw(O:aq X Γ c){M:Ro->@&(Ow×D×(D->D))}{fb:Ro->@&KD}(U:mq X i M a)(R:SndE X fb b)(N:eP b=Uj):mq X i (λZ=>zq (M Z) (fb Z)) (.Subscript a b pos):=by
 intro Z k1 d1 up h g Y H Q p q;dsimp only[zq] at h;generalize T:M Z=P at h;generalize K:fb Z=Yq at h
 obtain _|⟨_|⟨es,r⟩,_|_|_|_|_|⟨hd,V⟩,hc⟩:=P<;>try cases h
 obtain _|⟨kx,W⟩:=Yq<;>try cases h
 .cbv at h;ext h h
  .ext1 j m;ext h h
   .ext1 dj S;ext h
    cases hd with
    |lst=>
     show aB (yw sr aC aC (dw N)) (U Z _ _ _ T g Y H _ p λv1 E v F k d s1 e1 e2 e3 n=>R Z _ _ K g Y E _ (p.same s1) λy u s2 C=>?_)
     cases W with
     |int z=>
      obtain rfl:=C.rd.int;let⟨w,o,I,x,rfl,A,s,l,f,e⟩:=(n.same s2).step S;cases(s);show .inl #[w,I,z,x,rfl,rfl,.of A,by delta L2.sn;rw[l,(show jY V.length z=B j from m)];show f,q x u v F k d (s1.trans s2) e1 e2 e3 e]
     |_=>ext m
    |tup=>
     show aB (yw sr aC aC (dw N)) (U Z _ _ _ T g Y H _ p λv1 E v F k d s1 e1 e2 e3 n=>R Z _ _ K g Y E _ (p.same s1) λy u s2 C=>?_)
     cases W with
     |int z=>
      obtain rfl:=C.rd.int;let⟨w,o,I,x,rfl,A,s,l,f,e⟩:=(n.same s2).step S;cases(s);show .inr (.inl #[w,I,z,x,rfl,rfl,.of A,by delta L2.sn;rw[l,(show jY V.length z=B j from m)];show f,q x u v F k d (s1.trans s2) e1 e2 e3 e])
     |_=>ext m
    |dic t ks=>
     dsimp[EJ] at m;ext m m
     .ext1 kk hk;ext m m
      .ext1 hf;show aB (uA (by have:=O.tab.units;lia) aC aC (dw N)) (U Z _ _ _ T g Y H _ p λv1 E v F k d s1 e1 e2 e3 n=>R Z _ _ K g Y E _ (p.same s1) λy u s2 C=>?_);let⟨w,o,I,x,rfl,A,s,l,f,e⟩:=(n.same s2).step S;let dg:=kA A s hk C.rd hf;rw[m,QY,f] at dg;rwa[w,x,rfl,dg,q x u v F k d (s1.trans s2) e1 e2 e3 e]
      .ext m
     .ext m
    |obj c ns=>ext m
   .ext h
  .ext h
end
section
variable {X:Cx}
def Lm{b:Ro->@&(Ow×D×(D->D))}(A:attributeBase a f X.env (eval a X.env)=eval a X.env)(N:mq X i b a):mq X i (λZ=>bz f (b Z)) (.Attribute a f pos):=by
 intro Z V S up h g Y H Q I q;dsimp only[bz] at h;generalize M:b Z=P at h
 obtain _|⟨_|⟨R,r⟩,_|_|_|_|_|⟨_|_|_|⟨c,ns⟩,U⟩,u⟩:=P<;>try cases h
 .cbv at h;ext h h
  .ext1 j p;ext h h
   .ext1 W K;ext h;show aB (yq aC A) (N Z _ _ _ M g Y H _ I λv1 O v F k d s1 e1 e2 e3 n=>?_);let⟨t,o,T,x,rfl,y,s,l,m,e⟩:=n.step K;obtain⟨C,z,_,⟨w,E⟩,rfl,_⟩:=s;rwa[t,C,z,_,x,rfl,y,w,E f (QD (aP p)),sK p m,q x O v F k d s1 e1 e2 e3 e]
   .ext h
  .ext h
end
open Classical in
meta def Gh.give(g:Gh)(F:Pr)(i:Nat):Gh:=λb=>if F b then B (B i) else g b
section
variable {K:P9} {H:Hp} {g:Gh} {F:Pr} {Z:Ro} {Y:L2.St}
def iI{F2:Pr}(h:F2 b):g.give F2 i b=B (B i):=by delta Gh.give;rw[if_pos h]
def bC{F2:Pr}(h:¬F2 b):g.give F2 i b=g b:=by delta Gh.give;rw[if_neg h]
def give_S{F2:Pr}:Sg (g.give F2 i) b↔Sg g b\/F2 b:=by
 by_cases h:F2 b
 .rwa[λZ=>.inr h,λZ=>by rw[Sg,iI h];simp]
 .rwa[λz=>.inl (by rw[Sg,bC h] at z;show z),λz=>z.elim (λz=>by rw[Sg,bC h];show z) λz=>absurd z h]
structure og(K:P9)(H:Hp)(g:Gh)(F:Pr)(Z:Ro)(Y:L2.St)(i:Nat)(k:Ow)(es:-Ow)(r:Ow)(hd:Hd)(ds:-D)(up:D->D)(a:Addr)(o:HO)(xs:-V)(F':Pr):Prop where
 at_:H a=B o
 ok:c7 K o hd xs
 kids:TrL K H (Sg (g.plus F)) ds es r xs F'
 lab:∀b,F' b->g b=B (B i)
 nin:¬F' a
 own:g a=B (B i)
 put:∀(o':HO) (hd':Hd) (ds':-D) (xs':-V) (F2 F3:Pr),hd'.mu=Uj->c7 K o' hd' xs'->(∀xs,o'≠.tup xs)->(∀b,F2 b->F b)->(∀b,F3 b->F' b\/F2 b)->TrL K H (Sg (g.give F2 i)) ds' es r xs' F3->
  SE K (g.give F2 i) (Z.set i (B #[Uk,k,up (.nd hd' ds')])) Y (upd H a o')
def FP.node{i:Nat}{P:Pr}{hd:Hd}(X:SE K (g.plus F) Z Y H)(hg:∀b,F b->g b=L)(e:Z[i]?=B (B #[Uk,k,d]))(hv:Y[i]?=B (B v))(lb:∀b,P b->(g.plus F) b=B (B i))(fp:FP K H (Sg (g.plus F)) k v P (.own es r) (.nd hd ds) v1 up)(x:hd.mu=Uj):Σa o xs F',v1=.ref a/\og K H g F Z Y i k es r hd ds up a o xs F':=by
 let⟨F1,Fr,M,R,h3,h4⟩:=fp;unfold Tr at h3;let⟨a,o,xs,F',rfl,q1,q2,n1,n2,y,t⟩:=h3;let E:∀b,P b->g b=B (B i):=λb z=>bM (lb b z);let l:g a=B (B i):=E a ((M a).mpr (.inl ((y a).mpr (.inl #[x,rfl]))));let gF:∀b,F' b->g b=B (B i):=λb z=>E b ((M b).mpr (.inl ((y b).mpr (.inr z))));rwa[a,o,xs,F',rfl,q1,q2,t,gF,n1 x,l,λA W Q O D N u T nt s2 s3 t'=>?_];let q:∀b,Sg (g.give D i) b->Sg (g.plus F) b:=λb z=>(aj b).mpr ((give_S.mp z).imp id (s2 b));let I:∀b f,b≠a->H b=B f->upd H a A b=B f:=λb f n e=>by rw[ac n];show e
 let m:∀b,D b->g b=L:=λb z=>hg b (s2 b z);let p:¬N a:=λz=>(s3 a z).elim (n1 x) λz=>by rw[m a z] at l;ext l
 rwa[λj sl C=>?_,λb z=>?_,by simp[X.len]]
 .by_cases S:j=i
  .subst S
   let U:j<Z.length:=by
    have:=(Qb.mp C).1;simpa using this
   rw[QF U] at C;ext C
   let tn:Tr K (upd H a A) (Sg (g.give D j)) (.nd W Q) (.own es r) (.ref a) (λb=>b=a\/N b):=by
    delta Tr;rwa[a,A,O,N,rfl,al,T,λJ=>p,λh=>by (rw[u] at h;ext h),λb=>#[λz=>z.imp (λz=>#[u,z]) id,λz=>z.imp (λz=>z.2) id],t'.go (λb f c e=>I b f (λz=>?_) e) λJ J J n=>n];subst z;obtain c|c:=c
    .show c (give_S.mpr (.inl (by rw[Sg,l];simp)))
    .show p c
   rwa[v,_,hv,λb z=>?_,h4 (upd H a A) (Sg (g.give D j)) _ _ (λb f c e=>I b f (λz=>?_) e) (λb f J n z=>n (q b z)) tn λb V s=>?_]
   .rcases z with(rfl|z)|z
    .rw[bC (λz=>by rw[m b z] at l;ext l)];show l
    .by_cases s:D b
     .show iI s
     .rw[bC s];show(s3 b z).elim (gF b) λz=>absurd z s
    .have:=E b ((M b).mpr (.inr z));rw[bC (λz=>by rw[m b z] at this;ext this)];show this
   .subst z;obtain c|c:=c
    .show c ((aj b).mpr (.inl (by rw[Sg,l];simp)))
    .show R b ((y b).mpr (.inl #[x,rfl])) c
   .obtain rfl|V:=V
    .show R b ((y b).mpr (.inl #[x,rfl])) s
    .obtain z|z:=s3 b V
     .show R b ((y b).mpr (.inr z)) s
     .have:=E b ((M b).mpr (.inr s));rw[m b z] at this;ext this
  .rw[QH (Ne.symm S)] at C;let⟨w,Fj,e1,e2,e3⟩:=X.slot j sl C;let gj:∀b,Fj b->g b=B (B j):=λb z=>bM (e2 b z);rwa[w,Fj,e1,λb z=>?_,e3.go (λb f c e=>I b f (λz=>?_) e) λb f J n z=>n (q b z)]
   .have:=gj b z;rw[bC (λz=>by rw[m b z] at this;ext this)];show this
   .subst z;obtain c|c:=c
    .show c ((aj b).mpr (.inl (by rw[Sg,l];simp)))
    .rw[gj b c] at l;ext l;show S rfl
 .by_cases c:b=a
  .rwa[A,by rw[c];show al,nt]
  .let⟨f,e2,n⟩:=X.mu b (q b z);rwa[f,I b f c e2,n]
def Evo.give{F2:Pr}(c:Evo g0 H0 g H F)(s2:∀b,F2 b->F b)(k:g a=B (B i)):Evo g0 H0 (g.give F2 i) (L2.upd H a o') (λZ=>False):=by
 let d:∀b,F2 b->g b=L:=λb z=>(c.tmp b (s2 b z)).1;rwa[λb o n e=>?_,λb=>#[λe=>?_,λe=>?_],λb j e=>?_,λZ z=>z.elim,λb o e=>?_]
 .rw[ac (λz=>?_)]
  .show c.keep b o n e
  .subst z;rcases c.new b i k with⟨j,q⟩|q
   .show n j q
   .rw[e] at q;ext q
 .have:=(c.out b).mp e;rw[bC (λz=>by rw[d b z] at this;ext this)];show this
 .by_cases z:F2 b
  .rw[iI z] at e;ext e
  .rw[bC z] at e;show(c.out b).mpr e
 .by_cases z:F2 b
  .show(c.tmp b (s2 b z)).2
  .rw[bC z] at e;show c.new b j e
 .by_cases f:b=a
  .rwa[o',by rw[f];show al]
  .let⟨h,q⟩:=c.dom b o e;rwa[h,by rw[ac f];show q]
end
end J
namespace L2
open PyProof.Rows
open PySem.AutoSeq1
theorem tq(l:Up)(items:Array Um)(n:Nat)(b:Up)(a:Array Um)(i:Nat)(k:@&Up)(j:Array (@&Um))(o:¬(!items.isEmpty&&Builtin.List.listTooLong (items.size+a.size))=Uj)(c:items.size<=sizeLine)(hs2:items.size+a.size<=sizeLine+1) :
  Meets (Builtin.«list.extend» #[[.ref l,.ref b],[]]) (λZ R s=>s.heap.get? l=B { cls:=.type "list",dict:=L,data:=.seq items n,slots:=([].toArray) }/\s.heap.get? b=B { cls:=.type "tuple",dict:=k,data:=.seq a i,slots:=j }/\R (.ok (.ret Value.none)) { s with heap:=s.heap.update l (Obj.mapSeq λx=>x++a),toks:=s.toks }):=
 .of_wp λe w A R s h=>by
  let⟨p,g,d,q,r⟩:=s;let⟨f,m,h⟩:=h;obtain f1:=idx_int;obtain f2:=AutoSeq1.sub_tuple_tuple;obtain f3:=AutoSeq1.sub_list_list;obtain f4:=AutoSeq1.sub_tuple_list;obtain f5:=AutoSeq1.sub_list_tuple;obtain hz':(items++a).size<=sizeLine+1:=by rw[Array.size_append];show hs2
  wp_walk using(wpAny_updateSeq f rfl (hz:=c) (_hz':=hz')),wpAny_loadPart' f,wpAny_loadPart' m;rwa[_,rfl,h]
def qk:V->-V->Hp->VK->Prop:=λx vs H Q=>Σl b xs zs,x=.ref l/\vs=[.ref b]/\H l=B (.lst xs)/\(H b=B (.lst zs)\/H b=B (.tup zs))/\xs.length+zs.length<=sizeLine/\Q .non (upd H l (.lst (xs++zs)))
def tu:Km X "list.extend" qk:=by
 intro g s Y H x R v T Q I t C h;let⟨l,b,E,y,rfl,rfl,k,i,K,q⟩:=h;obtain i|i:=i
 .show wL g s Y H _ _ _ _ Q I t C #[l,b,E,y,rfl,rfl,k,i,K,q]
 ext t;let⟨u,rfl,N⟩:=C.one;ext N;let⟨z,d,n,r,U,e⟩:=I.lstM k;obtain⟨S,a,A,⟨c,D,O,M⟩,e2,j,p,o⟩:=(show ObjOk X.prog X.w H s.heap b (.tup y) from I.hok b _ i);replace j:c=.type "tuple":=j;replace o:O=.seq _ p:=o;subst j o;let P:=A.length;let m:d.toArray.size+a.toArray.size<=sizeLine:=by rw[Qk,Qk];lia
 let f:¬(!d.toArray.isEmpty&&Builtin.List.listTooLong (d.toArray.size+a.toArray.size))=Uj:=by
  rw[kZ m,Se];show Qx
 show call_meets F.slot_list_extend #[_,e,rfl] F.entry_list_extend (F.args_list_extend_2 _ _)
  (tq l d.toArray n b a.toArray p D M f (by rw[Qk];lia) ∅) #[e,e2,?_]
 rwa[.non,_,I.lset (its':=d++a) k e ∎ (r.append A) ?_,rfl,q];rw[Qz]
 lia
end L2
namespace J
def oh(m:Str)(es:-Ow)(r:Ow)(ds:-D)(O:-KD):@&(D×-D):=
 if m="append" then(match O with|[x]=>if es.length<=ds.length/\bR r x=Uj/\ds.length<100000 then B (.non,ds++[x.2]) else L|_=>L)
 else if m="extend" then(match O with|[(k,.nd hd ys)]=>if fD (.own es r)=Uj/\dZ k ys=Uj/\bt k=Uk/\ds.length+ys.length<=100000/\(hd=.lst\/hd=.tup) then B (.non,ds++ys) else L|_=>L)
 else if m="pop" then(match O with
  |[]=>if fD (.own es r)=Uj then(ds[ds.length-1]?).map λd=>(d,ds.dropLast) else L
  |[(_,.int z)]=>if fD (.own es r)=Uj/\-(2^63)<=z/\z<2^63 then(match seqIndex? z ds.length with|some j=>(ds[j]?).map λd=>(d,ds.eraseIdx j)|none=>L) else L
  |_=>L)
 else L
def Hx(m:Str):V->-V->Hp->VK->Prop:=
 if m="append" then uu else if m="extend" then qk else if m="pop" then(λx vs H Q=>Ko x vs H Q\/yz x vs H Q) else λZ Z Z Z=>False
section
variable {K:P9} {H:Hp} {g g0:Gh} {H0:Hp} {F F':Pr} {Z:Ro} {Y:L2.St} {i:Nat} {k:Ow} {es:-Ow} {r:Ow} {ds:-D} {up:D->D} {a:Up} {o:HO} {xs:-V}
def iJ:g.give (λZ=>False) i=g:=by funext b;show bC λz=>z
theorem TrL.snoc2:∀{ds:-D} {es:-Ow} {r:Ow} {us:-V} {F F2:Pr} {d:D} {v:V},es.length<=ds.length->TrL K H S ds es r us F->Tr K H S d r v F2->(∀b,F b->¬F2 b)->TrL K H S (ds++[d]) es r (us++[v]) (λb=>F b\/F2 b)
 |[],es,r,us,F,F2,d,v,hl,h,t,dj=>by
  have:es=[]:=S8.mp (Nat.le_zero.mp hl);subst this;show TrL.snoc h t dj
 |e::ds,es,r,us,F,F2,d,v,hl,h,t,dj=>by
  unfold TrL at h;let⟨y,k,j,g,rfl,c,f,m,l⟩:=h;delta TrL
  rwa[y,k++[v],j,λb=>g b\/F2 b,rfl,λb=>?_,λb i a=>?_,m,TrL.snoc2 (by cases es<;>simp at hl⊢;lia) l t λb z=>dj b ((c b).mpr (.inr z))]
  .change F b\/F2 b↔j b\/g b\/F2 b;rw[c b,or_assoc]
  .obtain a|a:=a
   .show f b i a
   .show dj b ((c b).mpr (.inl i)) a
theorem TrL.ofFlat:∀{ds:-D} {es:-Ow} {xs:-V},(∀e∈es,e=.fz)->RpL K H S ds xs->TrL K H S ds es .fz xs λZ=>False
 |[],_,_,_,h=>by delta TrL;rwa[h.nil_inv,λZ z=>z]
 |d::ds,es,_,he,h=>by
  let⟨y,c,rfl,r,t⟩:=h.cons_inv;delta TrL
  rwa[y,c,_,_,rfl,λb=>#[.inl,λz=>z.elim id id],λZ z=>z.elim,?_,TrL.ofFlat (λe q=>he e (by cases es with|nil=>cases q|cons a r=>show .tail _ q)) t]
  let e:es.headD .fz=.fz:=by
   cases es with
   |nil=>rfl
   |cons a r=>show he a (.head _)
  rw[e];show Tr.fz r
def ql{Q:VK}(h:oh m es r ds as=B (d',ds'))(f:og K H g F Z Y i k es r .lst ds up a o xs F')(ev:Evo g0 H0 g H F)(se:SE K (g.plus F) Z Y H)(O:VRL K H g F as vs F)(q:∀v g' H' R,Evo g0 H0 g' H' R->SE K (g'.plus R) (Z.set i (B #[Uk,k,up (.lst ds')])) Y H'->VR1 K H' g' R .sh d' v R->Q v H'):Hx m (.ref a) vs H Q:=by
 let ho:o=.lst xs:=f.ok;subst ho;let X:∀b,F b->g b=L:=λb z=>(ev.tmp b z).1;let mm:MuOk H (Sx g F):=λb z=>se.mu b ((aj b).mpr z);let sx:∀b,Sg (g.plus F) b↔Sx g F b:=λb=>aj b
 let u:∀{c:-V} {F2 F3:Pr} {v:V},(∀b,F2 b->F b)->(∀b,F3 b->F' b\/F2 b)->TrL K H (Sg (g.give F2 i)) ds' es r c F3->Rp K (upd H a (.lst c)) (Sg (g.give F2 i)) d' v->Q v (upd H a (.lst c)):=λ{c F2 F3 v} s2 s3 t N=>by
  show q v (g.give F2 i) _ (λJ=>False) (ev.give s2 f.own) ?_ #[λJ z=>z,N.weak λb z=>z.elim id λz=>z.elim];rw[a5 λJ z=>z];show f.put (.lst c) .lst ds' c F2 F3 rfl rfl (λJ h=>by ext h) s2 s3 t
 let old:∀{F2:Pr},(∀b,F2 b->F b)->∀b o,H b=B o->¬Sg (g.plus F) b->¬Sg (g.give F2 i) b:=λs2 b o J n z=>n ((aj b).mpr ((give_S.mp z).imp id (s2 b)))
 let p:fD (.own es r)=Uj->(∀e∈es,e=.fz)/\r=.fz/\RpL K H (Sg g) ds xs:=λT=>by
  let⟨w,A⟩:=uF T;rwa[w,A,?_];have:=f.kids;rw[A] at this;show(this.flat w).2.weak λb z=>(aj b).mpr (.inl z)
 let M:∀{d:D} {v:V} {c:-V},Rp K H (Sg g) d v->Rp K (upd H a (.lst c)) (Sg g) d v:=λr=>r.go λb o n e=>#[by rw[ac (λz=>n (by rw[z,Sg,f.own];simp))];show e,n];unfold oh at h;delta Hx;ext h h
 .ext1 W;rw[if_pos W];ext h h
  .ext1 x;ext h h
   .ext1 l;ext h;let⟨y,ys,F1,ha,rfl,I,dj,r1,rfl,hn⟩:=O;let e1:∀b,F b↔F1 b:=λb=>#[λz=>((I b).mp z).elim id λz=>absurd z (hn b),λz=>(I b).mpr (.inl z)];let⟨F2,a1,a2⟩:=VR1.fit l.2.1 mm (λb z=>X b ((e1 b).mpr z)) (λb z=>(e1 b).mpr z) r1;rwa[a,xs,y,rfl,rfl,f.at_,by rw[f.kids.len];show Qn l.2.2 (aO (Qe _)),?_];show u (λb z=>(e1 b).mpr (a1 b z)) (λb z=>z) (TrL.snoc2 l.1 (f.kids.go (λJ J J e=>e) (old λb z=>(e1 b).mpr (a1 b z))) (a2 _ λb z=>?_) λb z1 z2=>?_) (by delta Rp;rfl)
    .obtain z|z:=give_S.mp z
     .show .inr (.inl z)
     .show .inr (.inr (.inl z))
    .have:=f.lab b z1;rw[X b ((e1 b).mpr (a1 b z2))] at this;ext this
   .ext h
  .ext h
 .ext1 W;rw[if_neg W];ext h h
  .ext1 C;rw[if_pos C];ext h h
   .ext1 kk ys;ext h h
    .ext1 l;ext h;let⟨w,A,s⟩:=p l.1;subst A;let⟨v,rfl,N⟩:=O.off.one;let⟨b,o,zs,rfl,gb,qb,rb⟩:=N.items l.2.1 (tf se X) lG;rwa[a,b,xs,zs,rfl,rfl,f.at_,?_,by rw[s.len,rb.len];show aO l.2.2.2.1,?_]
     .obtain rfl|rfl:=l.2.2.2.2<;>cases(qb)
      .show .inl gb
      .show .inr gb
     show u (F2:=λJ=>False) (F3:=λJ=>False) (λJ z=>z.elim) (λJ z=>z.elim) (by rw[iJ];show .ofFlat w (s.append rb)) (by delta Rp;rfl)
    .ext h
   .ext h
  .ext1 C;rw[if_neg C];ext h h
   .ext1 S;rw[if_pos S];ext h h
    .ext h h
     .ext1 T;let⟨w,A,s⟩:=p T;subst A;let⟨rfl,z_⟩:=O;let⟨dd,E,e⟩:=bI h;ext e;let⟨y,P,U⟩:=s.getD E;rw[<- s.len] at P;show .inl #[a,xs,y,rfl,rfl,f.at_,P,?_]
      show u (F2:=λJ=>False) (F3:=λJ=>False) (λJ z=>z.elim) (λJ z=>z.elim) (by
       rw[iJ,Tk,Tk,s.len];show .ofFlat w (s.take _)) (by rw[iJ];show M U)
     .ext h
    .ext1 kz z;ext h h
     .ext1 l;let⟨w,A,s⟩:=p l.1;subst A;let⟨v,rfl,N⟩:=O.off.one;obtain rfl:=N.rd.int;ext h h
      .ext1 j hj;let⟨dd,E,e⟩:=bI h;ext e;let⟨y,P,U⟩:=s.getD E;show .inr #[a,xs,z,j,y,rfl,rfl,f.at_,l.2.1,l.2.2,by rw[s.len];show hj,P,?_];show u (F2:=λJ=>False) (F3:=λJ=>False) (λJ z=>z.elim) (λJ z=>z.elim) (by rw[iJ];show .ofFlat w (s.erase _)) (by rw[iJ];show M U)
      .ext h
     .ext h
    .ext h
   .ext h
end
meta def mNames:-Str:=["append","extend","pop"]
def mr(m:Str)(i:Nat)(p:@&(Ow×D×(D->D)))(O:@&(-KD))(Z:Ro):MR:=match p,O with
 |some (.own es r,.nd .lst ds,up),B O=>(match oh m es r ds O,Z[i]? with
  |some (d',ds'),B (B ⟨Uk,k,_⟩)=>B (.sh,d',Z.set i (B #[Uk,k,up (.lst ds')]))
  |_,_=>L)
 |_,_=>L
section
variable {X:Cx} {Γ:fw} {c:Cz}
def zr(b:m∈mNames):Σid,Slot "list" m id/\typeOf (.builtin id)=pure (.type "method_descriptor")/\Jt X id (Hx m):=by
 dsimp[mNames,Qf,Qw,or_false] at b;obtain rfl|rfl|rfl:=b
 .rwa[_,PySem.F.slot_list_append,PySem.F.type_list_append,mR]
 .rwa[_,PySem.F.slot_list_extend,PySem.F.type_list_extend,tu]
 .rwa[_,PySem.F.slot_list_pop,PySem.F.type_list_pop,?_];intro a s Y H x c v d Q I e f h;obtain h|h:=h
  .show Gw a s Y H x c v d Q I e f h
  .show yA a s Y H x c v d Q I e f h
def Hy{s cp:Pos}{j:Ro->@&(Ow×D×(D->D))}(C:m∈mNames)(x:mq X i j b)(E:ee b=Uj)(N:(s.endLine==cp.line)=Uj):bK X (λZ=>mr m i (j Z) (B []) Z) (.Call (.Attribute b m s) [] [] cp):=by
 intro Z kd d T h g Y H Q t q;dsimp only[mr] at h;ext h h
 .ext1 S r ds up W O I;ext I;ext h h
  .ext1 d' A k U M l;ext h;let⟨u,s1,s2,s3⟩:=zr C;show aB (su PySem.F.plainAttrs_list s1 s2 s3 aC (dP E) N) (x Z _ _ _ O g Y H _ t λv1 P v F k0 R n e1 e2 e3 w=>?_);rw[l] at e1;ext e1;let c:SE X.K (g.plus λL=>False) Z Y P:=by rw[a5 λL z=>z];show t.same n
   let f:g.plus (λL=>False)=g:=a5 λL z=>z;let⟨a,o,p,V,rfl,e⟩:=FP.node c (λL z=>z.elim) l e2 (by rw[f];show e3) (by rw[f];show w) rfl;let y:o=.lst p:=e.ok;subst y;rwa[.inl #[rfl,p,.of e.at_],ql M e (cW n (λL z=>z.elim) λL z=>z.elim) c #[rfl,λL z=>z] q]
  .ext h
 .ext h
def Hz{b e:Uo}{ap cp:Pos}{fp:Ro->@&(Ow×D×(D->D))}{fa:Ro->@&KD}(hm:m∈mNames)(hp:mq X i fp b)(ha:SndE X fa e)(N:ee b=Uj)(I:ah e=Uj)(hl:(ap.endLine==cp.line)=Uj):bK X (λZ=>mr m i (fp Z) (ca (fa Z) (B [])) Z) (.Call (.Attribute b m ap) [e] [] cp):=by
 intro Z kd d Z' h g Y H Q p q;dsimp only[mr] at h;ext h h
 .ext1 es r ds up as ep w;ext h h
  .ext1 d' hf k dd em S;ext h;let⟨hc,s1,s2,s3⟩:=zr hm;show aB (Kl PySem.F.plainAttrs_list s1 s2 s3 aC (bB aC eM (am I)) (dP N) (GZ I) hl (am I) rfl) (hp Z _ _ _ ep g Y H _ p λv1 O v F k0 d0 j e1 e2 e3 R=>?_);rw[S] at e1;ext e1;delta ca at w
   .ext1 x hd ex A;ext A;ext w;let⟨kx,dx⟩:=x;let P:g.plus (λJ=>False)=g:=a5 λJ z=>z
    let sq:Σl,SqL X.K O (match v1 with|.ref a=>a|_=>0) l/\Σa,v1=.ref a:=by
     let⟨a,o,l,F',rfl,s⟩:=FP.node (F:=λJ=>False) (by rw[P];show p.same j) (λJ z=>z.elim) S e2 (by rw[P];show e3) (by rw[P];show R) rfl;let ho:o=.lst l:=s.ok;subst ho;rwa[l,.of s.at_,a,rfl]
    let⟨U,M,a0,rfl⟩:=sq;rwa[.inl #[rfl,U,M],ha Z kx dx ex g Y O _ (p.same j) λy H2 c r2=>?_];let⟨u,t,V⟩:=r2;let W:=(p.same j).plus c t V.dom;let f:∀b,u b->g b=L:=λb z=>eQ (p.same j).mu (t b z);let he:=R.same c
    let f3:FP X.K H2 (Sg (g.plus u)) k v F (.own es r) (.lst ds) (.ref a0) up:=by
     let⟨F1,Fr,q1,q2,q3,q4⟩:=R;let T:∀b o,O b=B o->¬Sg g b->¬Sg (g.plus u) b:=λb o e n z=>((aj b).mp z).elim n λz=>by rw[t b z] at e;ext e
     rwa[F1,Fr,q1,q2,q3.go (λb o J e=>c b o e) T,λH' S' E C t1 t2 t3 t4=>q4 H' S' E C (λb o N e=>t1 b o (N.imp (λn=>T b o e n) id) (c b o e)) (λb o e n=>t2 b o (c b o e) (T b o e n)) t3 t4]
    let⟨a,o,l,F',e4,s⟩:=FP.node W f S e2 (λb z=>cz (e3 b z) λz2=>by have:=e3 b z;rw[f b z2] at this;ext this) f3 rfl;ext e4;show ql em s (cW (j.trans c) (λb z=>j.free (t b z)) f) W #[y,[],u,λJ=>False,rfl,λb=>#[.inl,λz=>z.elim id λz=>z.elim],λJ J z=>z,V,rfl,λJ z=>z] q
   .ext w
  .ext h
 .ext h
end
abbrev iX:Pr:=λZ=>False
meta def frzN:-Nat->Ro->Ro
 |[],Z=>Z
 |i::is,Z=>frzN is (match Z[i]? with|some (B ⟨Uk,k,d⟩)=>Z.set i (B #[Uk,.fz,d])|_=>Z)
def SE.frz1{g:Gh}{Z:Ro}{i:Nat}(f:SE K g Z Y H)(e:Z[i]?=B (B #[Uk,k,d])):SE K (g.off i) (Z.set i (B #[Uk,.fz,d])) Y H/\Evo g H (g.off i) H iX:=by
 let⟨v,l,e1,e2,e3⟩:=f.slot i _ e;let r:Rp K H (Sg ((g.off i).plus iX)) d v:=e3.rp λb z=>((aj b).mp z).elim (λz=>#[(vb z).1,λh=>(vb z).2 (e2 b h)]) λz=>z.elim
 have:=zo (Z':=Z.set i (B #[Uk,.fz,d])) (F:=iX) f (λW z=>z.elim) ∎ λj m e4=>(by
  by_cases a:j=i
  .subst a
   let c:j<Z.length:=by
    have:=(Qb.mp e4).1;simpa using this
   rw[QF c] at e4;ext e4;show .inr #[v,e1,rfl,r]
  .rw[QH (Ne.symm a)] at e4;show .inl #[a,e4])
 rw[a5 λW z=>z] at this;rwa[this,vc λW z=>z.elim]
set_option tactic.hygienic true in
theorem SE.frzN{H:Hp}:∀(is:-Nat) {g:Gh} {Z:Ro},SE K g Z Y H->Σg',SE K g' (frzN is Z) Y H/\Evo g H g' H iX
 |[],g,Z,se=>#[g,se,.refl g H]
 |i::is,g,Z,se=>by
  delta J.frzN;split
  .ext1 k d e;let⟨s1,e1⟩:=se.frz1 e;let⟨a,s2,e2⟩:=SE.frzN is s1;rwa[a,s2,qi e1 e2]
  .show SE.frzN is se
inductive BP where
 |nm (i:Nat)
 |ix (b:BP) (e:IE)
 |fld (b:BP) (f:Str)
meta def BP.slot:BP->Nat
 |.nm i=>i
 |.ix b _=>b.slot
 |.fld b _=>b.slot
def xh(Γ:Nat->@&Fn):BP->Ro->@&(Ow×D×(D->D))
 |.nm i,Z=>j5 Z[i]?
 |.ix b e,Z=>zq (xh Γ b Z) (aa Γ e Z)
 |.fld b f,Z=>bz f (xh Γ b Z)
inductive MI where
 |p (it:II)
inductive MT where
 |p (e:IE)
inductive MO where
 |non
mutual
inductive ME where
 |p (e:IE)
 |mv (i:Nat)
 |io (f:Nat) (as:MAs)
 |tup (k:Ow) (as:BA)
 |bin (op:UD) (as:BA)
 |comp (r:Ow) (cap:-(@&Nat)) (tg:IT) (it:MI) (ts:MO) (elt:ME)
 |mut (m:Str) (b:BP) (as:f7)
inductive MAs where
 |nil
 |ref (i:Nat) (r:MAs)
 |val (a:ME) (r:MAs)
inductive BA where
 |fin (a:ME) (r:f7)
 |cons (a:ME) (r:BA)
end
meta def oS(f:-KD->@&KD)(a:@&(-KD×Ro)):MR:=match a with
 |some (kds,Z)=>(match f kds with|some (kd,d)=>B (kd,d,Z)|none=>L)
 |none=>L
meta def MQ(a:@&KD)(Z:Ro):MR:=match a with|some (kd,d)=>B (kd,d,Z)|none=>L
meta def MS(a:@&Bool)(Z:Ro):@&(Bool×Ro):=match a with|some b=>B (b,Z)|none=>L
structure GG where
 fn:Nat->@&Fn
 fm:Nat->@&Fm
def qm(Γ:GG):MI->Ro->IR
 |.p it,Z=>JA (gp Γ.fn it Z) Z
def oj(Γ:GG):MT->Ro->@&(Bool×Ro)
 |.p e,Z=>MS (aR Γ.fn e Z) Z
meta def De(Γ:GG):MO->Ro->@&(Bool×Ro)
 |.non,Z=>B (Uj,Z)
mutual
def bT(Γ:GG):ME->Ro->MR
 |.p e,Z=>MQ (aa Γ.fn e Z) Z
 |.mv i,Z=>zm i Z
 |.io f as,Z=>C9 (Γ.fm f) (fH Γ as Z)
 |.tup k as,Z=>oS (λkds=>jm k (B kds)) (fu Γ as Z)
 |.bin op as,Z=>oS (f2 (d8 op)) (fu Γ as Z)
 |.comp r cap tg it ts elt,Z=>jA r (qm Γ it Z) (iH cap tg (De Γ ts) (bT Γ elt)) cap
 |.mut m b as,Z=>mr m b.slot (xh Γ.fn b Z) (bf Γ.fn as Z) Z
def fH(Γ:GG):MAs->Ro->@&(-RA×Ro)
 |.nil,Z=>B ([],Z)
 |.ref i r,Z=>qc i Z[i]? (fH Γ r Z)
 |.val a r,Z=>zj (bT Γ a Z) (fH Γ r)
def fu(Γ:GG):BA->Ro->@&(-KD×Ro)
 |.fin a r,Z=>iF (bT Γ a Z) (bf Γ.fn r)
 |.cons a r,Z=>jw (bT Γ a Z) (fu Γ r)
end
section
theorem zt{Γ:GG}:bT Γ (.p e) Z=MQ (aa Γ.fn e Z) Z:=rfl
theorem HA:bT Γ (.mv i) Z=zm i Z:=rfl
theorem tw{Γ:GG}:bT Γ (.io f as) Z=C9 (Γ.fm f) (fH Γ as Z):=rfl
theorem Df:bT Γ (.tup k as) Z=oS (λkds=>jm k (B kds)) (fu Γ as Z):=rfl
theorem Dg:bT Γ (.bin op as) Z=oS (f2 (d8 op)) (fu Γ as Z):=rfl
theorem qo:bT Γ (.comp r cap tg it ts elt) Z=jA r (qm Γ it Z) (iH cap tg (De Γ ts) (bT Γ elt)) cap:=rfl
theorem ol{Γ:GG}:bT Γ (.mut m b as) Z=mr m b.slot (xh Γ.fn b Z) (bf Γ.fn as Z) Z:=rfl
end
def EK(f:Uo->@&ME)(g:Uo->@&IE):-Uo->@&BA
 |[]=>L
 |e::es=>if ah e then(match e7 g es with
  |some r=>(f e).map λa=>.fin a r
  |none=>(match f e,EK f g es with|some a,B r=>B (.cons a r)|_,_=>L)) else L
def EL(c:Cz)(f:Uo->@&ME):-Bool->-Uo->@&MAs
 |_,[]=>B .nil
 |true::fl,.Name x _::es=>(match jk c x,EL c f fl es with|some i,B r=>B (.ref i r)|_,_=>L)
 |fl,e::es=>if ah e then(match f e,EL c f fl.tail es with|some a,B r=>B (.val a r)|_,_=>L) else L
meta def zu(it:@&II):@&MI:=match it with
 |some it=>B (.p it)
 |none=>L
def EM(c:Cz)(f:Uo->@&IE):Nat->Uo->@&BP
 |0,_=>L
 |n+1,e=>match e with
  |.Name x _=>(jk c x).map .nm
  |.Subscript a b _=>if eP b then(match EM c f n a,f b with|some p,B e=>B (.ix p e)|_,_=>L) else L
  |.Attribute a z _=>if ee a then(EM c f n a).map λp=>.fld p z else L
  |_=>L
def MU(m:Str)(b:Uo)(O cp:Pos):Bool:=mNames.contains m&&ee b&&(O.endLine==cp.line)
def N6(fns:Nms)(c:Cz)(x:Str)(p:Pos):@&ME:=match fns.md p.line p.col with
 |some Uj=>(jk c x).map .mv
 |_=>L
def N7(fns:Nms)(c:Cz)(O:Uo->@&ME)(fE:Uo->@&IE)(x:Str)(U:-Uo):@&ME:=match U with
 |[]=>L
 |a::es=>if jh c.sc x&&(a::es).all ah then(match a9 x fns.fns with
  |some i=>(match fns.io i with
   |some R=>(EL c O R (a::es)).map (.io i)
   |none=>L)
  |none=>L) else L
def MV(c:Cz)(fM:Uo->@&ME)(O:Uo->@&IE)(b:Uo)(m:Str)(R cp:Pos)(as:-Uo):@&ME:=match as with
 |[]=>if MU m b R cp then(EM c O 6 b).map λp=>.mut m p .nil else L
 |e::es=>match es with
  |_::_=>L
  |[]=>if MU m b R cp&&ah e then(match O e with
   |some U=>(EM c O 6 b).map λp=>.mut m p (.cons U .nil)
   |none=>L) else L
def N8(fns:Nms)(c:Cz)(R:Uo->@&ME)(O:Uo->@&IE)(g:Uo)(U:-Uo)(ks:-Keyword)(cp:Pos):@&ME:=match ks with
 |_::_=>L
 |[]=>match g with
  |.Name x _=>N7 fns c R O x U
  |.Attribute b m ap=>MV c R O b m ap cp U
  |_=>L
meta def om:-Uo->@&MO
 |[]=>B .non
 |_=>L
def zw(fns:Nms)(c:Cz)(U:Cz->Uo->@&ME)(R:Cz->Uo->@&IE)(elt:Uo)(O:-Comprehension)(scope:UC)(p:Pos):@&ME:=match O with
 |[]=>L
 |g::O=>match O with
  |_::_=>L
  |[]=>if g.is_async=0 then(if dB g.iter&&bb c scope then(match n5 #[gh scope c.sc,ae scope,gO scope] 4 g.target,zu (Hc c (R c) g.target g.iter),om g.ifs,U #[gh scope c.sc,ae scope,gO scope] elt with
    |some t,B it,B ts,B el=>B (.comp ((fns.an p.line p.col).getD .fz) (aA c scope) t it ts el)|_,_,_,_=>L) else L) else L
def cM(fns:Nms):Nat->Cz->Uo->@&ME
 |0,_,_=>L
 |n+1,c,e=>match cE fns n c e with
  |some O=>B (.p O)
  |none=>match e with
   |.Name x p=>N6 fns c x p
   |.Call g as ks cp=>N8 fns c (cM fns n c) (cE fns n c) g as ks cp
   |.Tuple es _ p=>(EK (cM fns n c) (cE fns n c) es).map (.tup (fns.kT p))
   |.BinOp a op b _=>(EK (cM fns n c) (cE fns n c) [a,b]).map (.bin op)
   |.ListComp elt gs scope p=>zw fns c (cM fns n) (cE fns n) elt gs scope p
   |_=>L
def N9(fns:Nms):Nat->Cz->Uo->@&MT
 |0,_,_=>L
 |n+1,c,e=>(cT fns n c e).map .p
def qp(fns:Nms)(Γ:GG):Str->@&(P9->Sp):=λx=>(a9 x fns.fns).bind λi=>(Γ.fm i).map λU=>λK=>xg K U
abbrev ba(fns:Nms)(Γ:GG):fw:=c6 fns Γ.fn (qp fns Γ)
section
variable {X:Cx} {c:Cz} (fns:Nms) (Γ:GG)
def tz(O:aq X (c6 fns Γ.fn fm) c){d:Uo->@&IE}(f:∀e b,d e=B b->SndE X (aa Γ.fn b) e)(h:zu (Hc c d tg iter)=B a):qg X (qm Γ a) tg iter:=by
 delta zu at h
 .ext1 it hit;ext h;show(uV fns Γ.fn O f hit).m
 .ext h
def vd(f:-KD->@&KD)(b:Ro->@&(-KD×Ro)):(λZ=>oS f (b Z))=λZ=>(b Z).bind λp=>(f p.1).map λq=>(q.1,q.2,p.2):=by
 funext Z;delta oS
 cases b Z with
 |none=>rfl
 |some p=>
  let⟨a,c⟩:=p;dsimp only[QY]
  cases f a with
  |none=>rfl
  |some q=>rfl
def tB(h:SndE X (aa Γ.fn ie) e):bK X (bT Γ (.p ie)) e:=by
 have:=h.m
 rw[show(λZ=>(aa Γ.fn ie Z).map λp=>(p.1,p.2,Z))=bT Γ (.p ie) by funext Z;rw[zt];delta MQ;cases aa Γ.fn ie Z<;>rfl] at this
 show this
theorem EN{f:Uo->@&ME}{g:Uo->@&IE}(c:∀e a,f e=B a->bK X (bT Γ a) e)(k:∀e a,g e=B a->SndE X (aa Γ.fn a) e):∀{es:-Uo} {b:BA},EK f g es=B b->p9 X (fu Γ b) es
 |[],b,h=>by ext h
 |e::es,b,h=>by
  delta EK at h
  .ext1 j;ext h h
   .ext1 r i;let⟨a,d,rfl⟩:=bI h;show Hq j (c _ _ d) (f9 Γ.fn k i).1
   .ext h h
    .ext1 a r d i;ext h;show C8 j (c _ _ d) (EN c k i)
    .ext h
  .ext h
def Ln{f:Uo->@&ME}{g:Uo->@&IE}(l:∀e a,f e=B a->bK X (bT Γ a) e)(p:∀e a,g e=B a->SndE X (aa Γ.fn a) e){a b:Uo}(h:EK f g [a,b]=B as):va X (fu Γ as) a b:=by
 delta EK at h
 .ext1 s;ext h h
  .ext1 r c;let⟨i,m,rfl⟩:=bI h;unfold e7 e7 at c;ext c c
   .ext c c
    .ext1 j o k d;ext c;ext d
     rw[show fu Γ (.fin i (.cons j .nil))=λZ=>iF (bT Γ i Z) λZ=>ca (aa Γ.fn j Z) (B []) by
      funext Z;rfl]
     show Ht (l _ _ m) (p _ _ k)
    .ext c
   .ext c
  .ext h h
   .ext1 i r m c;ext h;delta EK at c
    .ext c c
     .ext1 o d;ext d;let⟨j,n,rfl⟩:=bI c
      rw[show fu Γ (.cons i (.fin j .nil))=λZ=>jw (bT Γ i Z) λZ=>iF (bT Γ j Z) λY=>B [] by
       funext Z;rfl]
      show Dd (l _ _ m) (l _ _ n)
     .ext1 q;show absurd q (by simp[e7])
    .ext c
   .ext h
 .ext h
theorem HB(O:aq X Γt c){f:Uo->@&ME}(k:∀e a,f e=B a->bK X (bT Γ a) e):∀{j:-Bool} {es:-Uo} {b:MAs},EL c f j es=B b->gB X (fH Γ b) es
 |j,[],b,h=>by
  have:b=.nil:=by
   unfold EL at h;ext h;rfl
  subst this;show EI
 |j,e::es,b,h=>by
  let m:∀{d:-Bool} {b:MAs},(if ah e then(match f e,EL c f d es with|some a,B r=>B (MAs.val a r)|_,_=>L) else L)=B b->gB X (fH Γ b) (e::es):=λh=>by
   ext h h
   .ext1 n;ext h h
    .ext1 a r s l;ext h;show zk n (k _ _ s) (HB O k l)
    .ext h
   .ext h
  delta EL at h
  .ext1 q;ext q
  .ext1 d x p g q;ext q;ext h h
   .ext1 i r o l;ext h;show Li O o (HB O k l)
   .ext h
  .ext1 d t g q;ext q;show m h
def bE(a:Evo g H g1 H1 (λZ=>False))(b:Evo g1 H1 g2 H2 F2):Evo g H g2 H2 F2:=by
 let t:=a.trans (by rw[a5 λZ z=>z];show b);let e1:g2.minus (λZ=>False)=g2:=by funext c;show bJ λz=>z
 rw[e1] at t;show t.drop λc z=>.inr z
theorem xi(O:aq X Γt c){f:Uo->@&IE}(d:∀e a,f e=B a->SndE X (aa Γ.fn a) e):∀(n:Nat) {e:Uo} {b:BP},EM c f n e=B b->mq X b.slot (xh Γ.fn b) e
 |0,e,b,h=>by ext h
 |n+1,e,b,h=>by
  delta EM at h
  .ext1 x p;let⟨i,k,rfl⟩:=bI h;show Hv O k p
  .ext1 a o p;ext h h
   .ext1 g;ext h h
    .ext1 q m hq l;ext h;show Hw O (xi O d n hq) (d _ _ l) g
    .ext h
   .ext h
  .ext1 a z p;ext h h
   .ext1 j;let⟨q,hq,rfl⟩:=bI h;show Lm (dP j) (xi O d n hq)
   .ext h
  .ext h
def zx{a cp:Pos}(h:MU m b a cp=Uj):m∈mNames/\ee b=Uj/\(a.endLine==cp.line)=Uj:=by
 dsimp[MU,Qd] at h;rwa[by simpa using h.1.1,h.1.2,h.2]
def Oa(O:aq X (ba fns Γ) c)(h:N6 fns c x p=B a):bK X (bT Γ a) (.Name x p):=by
 delta N6 at h
 .let⟨i,b,rfl⟩:=bI h;show Ll O b p
 .ext h
def Lo(O:aq X (ba fns Γ) c){f:Uo->@&ME}(k:∀e a,f e=B a->bK X (bT Γ a) e){es:-Uo}{a:ME}(h:(EL c f fl (a'::es)).map (.io i)=B a)(h1:jh c.sc x=Uj)(h2:ah a'=Uj)(l:es.all ah=Uj)(hi:a9 x fns.fns=B i):bK X (bT Γ a) (.Call (.Name x p) (a'::es) [] pos):=by
 let⟨g,m,rfl⟩:=bI h
 first
  |(show offM λY=>rfl)
  |(cases b:Γ.fm i with
   |none=>
    intro Z o d n j;rw[tw,b] at j;ext j
   |some U=>
    rw[show bT Γ (.io i g)=λZ=>C9 (B U) (fH Γ g Z) by funext Z;rw[tw,b]];show N5 O ?_ h1 h2 l (HB Γ O k m);change qp fns Γ x=_;delta qp;rw[hi,QY,b];rfl)
def Ob(O:aq X (ba fns Γ) c){g:Uo->@&ME}{d:Uo->@&IE}(k:∀e a,g e=B a->bK X (bT Γ a) e)(q:∀e f,d e=B f->SndE X (aa Γ.fn f) e){a:ME}(h:N7 fns c g d x as=B a):bK X (bT Γ a) (.Call (.Name x p) as [] pos):=by
 cases as with
 |nil=>ext h
 |cons m o=>
  dsimp only[N7] at h;ext h h
  .ext1 b;rw[Qd,Q3,Qd] at b;ext h h
   .ext1 i j;ext h h
    .ext1 n l;show Lo fns Γ O k h b.1 b.2.1 b.2.2 j
    .ext h
   .ext h
  .ext h
def Oc(O:aq X (ba fns Γ) c){n:Uo->@&ME}{k:Uo->@&IE}(s:∀e a,n e=B a->bK X (bT Γ a) e)(d:∀e l,k e=B l->SndE X (aa Γ.fn l) e){a:ME}(h:MV c n k b m ap cp as=B a):bK X (bT Γ a) (.Call (.Attribute b m ap) as [] cp):=by
 cases as with
 |nil=>
  dsimp only[MV] at h;ext h h
  .ext1 hk;let⟨j,i,g⟩:=zx hk;let⟨p,f,rfl⟩:=bI h;show Hy j (xi Γ O d _ f) i g
  .ext h
 |cons e o=>cases o with
  |cons _ _=>ext h
  |nil=>
   dsimp only[MV] at h;ext h h
   .ext1 hk;rw[Qd] at hk;let⟨j,i,g⟩:=zx hk.1;ext h h
    .ext1 r q;let⟨p,f,rfl⟩:=bI h;show Hz j (xi Γ O d _ f) (d _ _ q) i hk.2 g
    .ext h
   .ext h
def Od(O:aq X (ba fns Γ) c){j:Uo->@&ME}{d:Uo->@&IE}(b:∀e a,j e=B a->bK X (bT Γ a) e)(i:∀e f,d e=B f->SndE X (aa Γ.fn f) e){a:ME}(h:N8 fns c j d g as ks pos=B a):bK X (bT Γ a) (.Call g as ks pos):=by
 cases ks with
 |cons _ _=>ext h
 |nil=>
  dsimp only[N8] at h;ext h h
  .show Ob fns Γ O b i h
  .show Oc fns Γ O b i h
  .ext h
def ve{k:Cz->Uo->@&ME}{j:Cz->Uo->@&IE}{p:Pos}(h:zw fns c k j elt gs scope p=B a):Σtg iter b t it ts d,gs=[#[tg,iter,b,0]]/\dB iter=Uj/\bb c scope=Uj/\n5 #[gh scope c.sc,ae scope,gO scope] 4 tg=B t/\zu (Hc c (j c) tg iter)=B it/\om b=B ts/\k #[gh scope c.sc,ae scope,gO scope] elt=B d/\a=.comp ((fns.an p.line p.col).getD .fz) (aA c scope) t it ts d:=by
 cases gs with
 |nil=>ext h
 |cons g gs=>cases gs with
  |cons _ _=>ext h
  |nil=>
   dsimp only[zw] at h;ext h h
   .ext1 m;ext h h
    .ext1 f;rw[Qd] at f;ext h h
     .ext1 t it ts d l hit i e;ext h
      cases g with
      |mk tg iter b n=>
       subst m;rwa[tg,iter,b,t,it,ts,d,rfl,f.1,f.2,l,hit,i,e,rfl]
     .ext h
    .ext h
   .ext h
def qr(h:om o=B io):oe X (De Γ io) o:=by
 cases o with
 |nil=>
  ext h;show Hs
 |cons _ _=>ext h
theorem lI:∀n:Nat,(∀X c,aq X (ba fns Γ) c->∀e a,cM fns n c e=B a->bK X (bT Γ a) e)/\(∀X c,aq X (ba fns Γ) c->∀e t,N9 fns n c e=B t->uY X (oj Γ t) e)
 |0=>#[λX c O e a h=>by (cases(h)),λX c O e a h=>by (cases(h))]
 |n+1=>by
  let i:=(lI n).1;let b:=cC (fm:=qp fns Γ) fns Γ.fn n;rwa[λX c O e a h=>?_,λX c O e a h=>?_]
  .let j:=b.1 X c O;let v:=i X c O
   replace h:(match cE fns n c e with|some d=>B (ME.p d)|none=>_)=B a:=h
   ext h h
   .ext1 d z;ext h;show tB Γ (j _ _ z)
   .cases e with
    |Name x p=>show Oa fns Γ O h
    |Call g f R N=>show Od fns Γ O v j h
    |Tuple Q k p=>
     let⟨f,r,rfl⟩:=bI (h);rw[show ∀k,bT Γ (.tup k f)=λZ=>oS (λw=>jm k (B w)) (fu Γ f Z) by intro k;show funext λY=>rfl,vd];show n_tup.m (EN Γ v j r)
    |BinOp x A y p=>
     let⟨f,r,rfl⟩:=bI (h);rw[show ∀A,bT Γ (.bin A f)=λZ=>oS (f2 (d8 A)) (fu Γ f Z) by intro k;show funext λY=>rfl,vd];show n_bin.m (Ln Γ v j r)
    |ListComp P U q p=>
     let⟨T,F,M,t,it,V,S,rfl,u,l,K,hit,D,o,rfl⟩:=ve fns (h);let I:=dc O l;show Dc O l u (tz fns Γ O j hit) K (λC s H E=>qr Γ D) (λC s H E=>i _ _ (I C s H E) _ _ o)
    |_=>ext h
  .let⟨d,z,rfl⟩:=bI (h);have:=(b.2 X c O _ _ z).m
   rw[show(λZ=>(aR Γ.fn d Z).map λp=>(p,Z))=oj Γ (.p d) by funext Z;change _=MS _ Z;delta MS;cases aR Γ.fn d Z<;>rfl] at this
   show this
end
inductive Res where
 |nx (Z:Ro)|rt (kd:Kd) (d:D) (Z:Ro)|ct (Z:Ro)|bk (Z:Ro)
def PinOk(pn:-Nat)(Y Y':L2.St):Prop:=∀i∈pn,Y'[i]?=Y[i]?
def EndM(K:P9)(pn:-Nat)(g:Gh)(H:Hp)(Y:L2.St)(O:i4):Res->Prop
 |.nx Z'=>∀Y' g' H',Evo g H g' H' iX->SE K g' Z' Y' H'->PinOk pn Y Y'->O.nx Y' H'
 |.rt kd d Z'=>∀v Y' g' H' F,Evo g H g' H' F->SE K (g'.plus F) Z' Y' H'->PinOk pn Y Y'->VR1 K H' g' F kd d v F->O.rt v H'
 |.ct Z'=>∀Y' g' H',Evo g H g' H' iX->SE K g' Z' Y' H'->PinOk pn Y Y'->O.ct Y' H'
 |.bk Z'=>∀Y' g' H',Evo g H g' H' iX->SE K g' Z' Y' H'->PinOk pn Y Y'->O.bk Y' H'
def HC(X:Cx)(st:-Uw):TS:=λO Y H=>∀pins s,Inv X pins Y H s->⇑X (execs st X.env) (SP X pins O) X.xe s
def MW(X:Cx)(st:Uw):TS:=λO Y H=>∀pins s,Inv X pins Y H s->⇑X (exec st X.env) (SP X pins O) X.xe s
theorem fI:PSs X st (HC X st):=λa s Y H D I h=>h a s I
theorem Lp:PS X st (MW X st):=λa s Y H D I h=>h a s I
theorem cm{t:TS}(p:PS X st t)(h:t Dn Y H):MW X st Dn Y H:=λa s I=>p a s Y H Dn I h
theorem tD{t:TS}(p:PSs X st t)(h:t Dn Y H):HC X st Dn Y H:=λa s I=>p a s Y H Dn I h
def c4(X:Cx)(pn:-Nat)(f:Ro->@&Res)(st:Uw):Prop:=∀Z r,f Z=B r->∀g Y H O,SE X.K g Z Y H->EndM X.K pn g H Y O r->MW X st O Y H
def aW(X:Cx)(pn:-Nat)(f:Ro->@&Res)(st:-Uw):Prop:=∀Z r,f Z=B r->∀g Y H O,SE X.K g Z Y H->EndM X.K pn g H Y O r->HC X st O Y H
section
variable {K:P9} {H H' H1:Hp} {g g' g1:Gh} {F F1 F2:Pr} {Z:Ro} {Y Y' Y1:L2.St} {pn:-Nat}
theorem PinOk.refl:PinOk pn Y Y:=λZ Z=>rfl
theorem PinOk.trans(a:PinOk pn Y Y1)(b:PinOk pn Y1 Y2):PinOk pn Y Y2:=λi h=>(b i h).trans (a i h)
theorem PinOk.set(h:i∉pn):PinOk pn Y (Y.set i v):=λj a=>QH λz=>h (by rw[z];show a)
def EndM.from(h:EndM K pn g H Y Dn r)(f:Evo g H g1 H1 iX)(pk:PinOk pn Y Y1):EndM K pn g1 H1 Y1 Dn r:=by
 cases r with
 |nx i=>show λc a b e s p=>h c a b (bE f e) s (pk.trans p)
 |rt j d i=>show λv c a b F e s p r=>h v c a b F (bE f e) s (pk.trans p) r
 |ct i=>show λc a b e s p=>h c a b (bE f e) s (pk.trans p)
 |bk i=>show λc a b e s p=>h c a b (bE f e) s (pk.trans p)
def Lq{S:Pr}(a:Evo g H g1 H1 F)(m:SE K (g1.plus F) Z Y H1)(c:∀b,F b↔F1 b\/F2 b)(r:∀b,F1 b->¬F2 b)(y:∀b,Sx g1 F b->S b)(t:Tr K H1 S d k v F1) :
  Evo g H (g1.give F1 i) H1 F2/\SE K ((g1.give F1 i).plus F2) (Z.set i (B #[Uk,k,d])) (Y.set i (B v)) H1/\∀b,Sx (g1.give F1 i) F2 b↔Sx g1 F b:=by
 let D:∀b,F1 b->g1 b=L:=λb z=>(a.tmp b ((c b).mpr (.inl z))).1
 let p:∀b,Sx (g1.give F1 i) F2 b↔Sx g1 F b:=λb=>by
  delta Sx;rw[c b];constructor
  .rintro (z|z)
   .show(give_S.mp z).imp id .inl
   .show .inr (.inr z)
  .rintro (z|z|z)
   .show .inl (give_S.mpr (.inl z))
   .show .inl (give_S.mpr (.inr z))
   .show .inr z
 let s:∀b,Sg ((g1.give F1 i).plus F2) b↔Sx g1 F b:=λb=>(aj b).trans (p b);let h:∀b,Sg ((g1.give F1 i).plus F2) b->Sg (g1.plus F) b:=λb z=>(aj b).mpr ((s b).mp z);rwa[#[a.keep,λb=>#[λe=>?_,λe=>?_],λb j e=>?_,λb z=>?_,a.dom],#[λj A e=>?_,λb z=>m.mu b (h b z),by simp[m.len]],p]
 .have:=(a.out b).mp e;rw[bC (λz=>by rw[D b z] at this;ext this)];show this
 .by_cases z:F1 b
  .rw[iI z] at e;ext e
  .rw[bC z] at e;show(a.out b).mpr e
 .by_cases z:F1 b
  .show(a.tmp b ((c b).mpr (.inl z))).2
  .rw[bC z] at e;show a.new b j e
 .have:=a.tmp b ((c b).mpr (.inr z));rwa[by rw[bC λC=>r b C z];show this.1,this.2]
 .by_cases u:j=i
  .subst u
   let f:j<Z.length:=by
    have:=(Qb.mp e).1;simpa using this
   rw[QF f] at e;ext e;rwa[v,F1,QF (by rw[<- m.len];show f),λb z=>cz (iI z) (r b z),t.go (λW W W e=>e) λb o W n z=>n (y b ((s b).mp z))]
  .rw[QH (Ne.symm u)] at e⊢;let⟨w,E,e1,e2,e3⟩:=m.slot j A e;rwa[w,E,e1,λb z=>?_,e3.go (λW W W e=>e) λb o W n z=>n (h b z)];let q:=bM (e2 b z);let x:¬F b:=λl=>by rw[(a.tmp b l).1] at q;ext q
   show cz ?_ λl=>x ((c b).mpr (.inr l));rw[bC λl=>x ((c b).mpr (.inl l))];show q
meta def HD:Kd->Ow
 |.fr k=>k
 |_=>.fz
def VR1.tr(a:bt kd=Uk)(h:VR1 K H g F kd d v F):Tr K H (Sx g F) d (HD kd) v F:=by
 cases kd with
 |sh=>
  let e:F=iX:=by funext b;show propext #[h.1 b,λz=>z.elim]
  rw[show HD .sh=.fz from rfl];have:=Tr.fz h.2;rw[e] at this⊢;show this
 |fr k=>show h
 |bo i k=>ext a
end
meta def fJ:Uo->Bool
 |.ListComp ..|.SetComp ..|.DictComp ..=>Uk
 |_=>Uj
def kF(h:fJ e=Uj):swapsWith e t n env=pure Uk:=by
 cases e<;>first|rfl|cases h
meta def zy:Uo->Bool
 |.Tuple ..=>Uk
 |_=>Uj
def lJ:swapsWithSole [.Tuple es k tp] e n env=pure Uk:=by
 cases e<;>rfl
def qt(h:zy e=Uj):swappedStores [.Tuple es k tp] e env=pure L:=by
 cases e<;>first|rfl|cases h
def fv(pn:-Nat)(i:Nat)(a:MR):@&Res:=match a with
 |some (kd,d,Z1)=>if bt (dW kd d)=Uj\/i∈pn then L else B (.nx (Z1.set i (B #[Uk,HD (dW kd d),d])))
 |none=>L
section
variable {X:Cx} {Γ:fw} {c:Cz} {pn:-Nat}
def iK{g g1:Gh}{Y:L2.St}{j:i4}(h:fv pn i (B (kd,d,Z1))=B r)(q:EndM K pn g H Y j r)(m:Evo g H g1 H1 F)(f:SE K (g1.plus F) Z1 Y H1)(l:VR1 K H1 g1 F kd d v F):j.nx (Y.set i (B v)) H1:=by
 unfold fv at h;cbv at h;ext h h
 .ext h
 .ext1 c;ext h;rw[not_or] at c;let a:=l.im f.mu;let⟨k,e,z_⟩:=Lq m f (λb=>#[.inl,λz=>z.elim id λz=>z.elim]) (λZ Z z=>z) (λZ z=>z) (a.tr ↥(c.1));show q _ _ H1 k (by rw[a5 λZ z=>z] at e;show e) (PinOk.set c.2)
def vf(O:aq X Γ c){f:Ro->MR}(o:mf c x=Uj)(hi:a9 x c.N=B i)(j:fJ e=Uj)(n:bK X f e):c4 X pn (λZ=>fv pn i (f Z)) (.Assign [.Name x p] e pos):=by
 intro Z r h g Y H y k q;let l:=ji O o
 cases a:f Z with
 |none=>cbv at h;rw[a] at h;ext h
 |some w=>
  let⟨u,d,m⟩:=w;cbv at h;rw[a] at h;show cm (rS (by rw[O.N];show O.nd) (by rw[O.N];show aP hi) l.1 aC (kF j) l.2) (n Z u d m a g Y H _ k λv z A F t b s=>iK h q t b s)
def HE:-Nat->ya
 |[]=>F7
 |i::is=>ui (hV i) (HE is)
meta def qu:-Nat->-D->-Ow->Ow->Ro->Ro
 |i::is,d::ds,es,r,Z=>qu is ds es.tail r (Z.set i (B #[Uk,es.headD r,d]))
 |_,_,_,_,Z=>Z
theorem iL{H H1:Hp}{Q:L2.St->Hp->Prop}:∀{is:-Nat} {ds:-D} {es:-Ow} {r:Ow} {vs:-V} {g1:Gh} {F S:Pr} {Z:Ro} {Y:L2.St},is.length=ds.length->(∀i∈is,i∉pn)->Evo g H g1 H1 F->SE K (g1.plus F) Z Y H1->(∀b,Sx g1 F b->S b)->TrL K H1 S ds es r vs F->PinOk pn Y0 Y->
  (∀c a,Evo g H c H1 iX->SE K c (qu is ds es r Z) a H1->PinOk pn Y0 a->Q a H1)->HE is vs Y H1 Q
 |[],[],es,r,vs,g1,F,S,Z,Y,hl,hp,ev,se,hS,t,pk,q=>by
  unfold TrL at t;let e:F=iX:=by funext b;show propext #[t.2 b,λz=>z.elim]
  subst e;rwa[t.1,q g1 Y ev (by rw[a5 λW z=>z] at se;show se) pk]
 |[],_::_,_,_,_,_,_,_,_,_,hl,_,_,_,_,_,_,_=>by simp at hl
 |_::_,[],_,_,_,_,_,_,_,_,hl,_,_,_,_,_,_,_=>by simp at hl
 |i::is,d::ds,es,r,vs,g1,F,S,Z,Y,hl,hp,ev,se,hS,t,pk,q=>by
  unfold TrL at t;let⟨y,n,v,u,rfl,k,l,s,p⟩:=t;let⟨h,f,m⟩:=Lq ev se k l hS s;rwa[y,n,rfl,iL ↥hl (λj o=>hp j (Qh _ o)) h f (λb z=>hS b ((m b).mp z)) p (pk.trans (PinOk.set (hp i Qr))) q]
def jC(O:Kd)(ds:-D):@&(-Ow×Ow):=match O with
 |.sh=>B ([],.fz)
 |.fr (.own es r)=>B (es,r)
 |.fr .fz=>B ([],.fz)
 |.bo _ _=>if Cm ds=Uj then B ([],.fz) else L
def VR1.parts{H:Hp}{F:Pr}(w:hd=.tup\/hd=.lst)(hk:jC kd ds=B (es,r))(m:MuOk H (Sx g F))(h:VR1 K H g F kd (.nd hd ds) v F):Σa o xs F',v=.ref a/\H a=B o/\c7 K o hd xs/\(∀b,F' b->F b)/\TrL K H (Sx g F) ds es r xs F':=by
 let l:∀{d:-D} {xs:-V},RpL K H (Sx g F) d xs->TrL K H (Sx g F) d [] .fz xs iX:=λh=>.ofFlat (λe z=>by ext z) h
 cases kd with
 |sh=>
  ext hk;let⟨a,o,xs,rfl,z_,f,c,j⟩:=h.2.nd;rwa[a,o,xs,iX,rfl,f,c,λZ z=>z.elim,l j]
 |fr k=>
  cases k with
  |fz=>
   ext hk;let⟨a,o,xs,rfl,z_,f,c,j⟩:=(Tr.fz_inv h).2.nd;rwa[a,o,xs,iX,rfl,f,c,λZ z=>z.elim,l j]
  |own p u=>
   ext hk;let n:Tr K H (Sx g F) (.nd hd ds) (.own es r) v F:=h;unfold Tr at n;let⟨a,o,xs,F',rfl,f,c,z_,y_,q,t⟩:=n;rwa[a,o,xs,F',rfl,f,c,λb z=>(q b).mpr (.inr z),t]
 |bo i k=>
  dsimp[jC] at hk;ext hk hk
  .ext1 s;ext hk;let⟨a,o,xs,rfl,z_,f,c,j⟩:=h.rd.nd;rwa[a,o,xs,iX,rfl,f,c,λZ z=>z.elim,l (j.im m s)]
  .ext hk
def Dh(pn:-Nat)(is:-Nat)(a:MR):@&Res:=match a with
 |some (kd,.nd .tup ds,Z1)=>(match jC kd ds with|some (es,r)=>if is.length=ds.length/\(is.all λi=>!pn.contains i)=Uj then B (.nx (qu is ds es r Z1)) else L|none=>L)
 |some (kd,.nd .lst ds,Z1)=>(match jC kd ds with|some (es,r)=>if is.length=ds.length/\(is.all λi=>!pn.contains i)=Uj then B (.nx (qu is ds es r Z1)) else L|none=>L)
 |_=>L
def zA(c:Cz):-Uo->@&(-Nat)
 |[]=>B []
 |.Name x _::r=>if mf c x then(match a9 x c.N,zA c r with|some i,B is=>B (i::is)|_,_=>L) else L
 |_=>L
theorem vg(O:aq X Γ c):∀{es:-Uo} {is:-Nat},zA c es=B is->F5 X es (HE is)/\(UI es X.env).length=is.length/\(UI es X.env).findIdx? (·.1)=L
 |[],is,h=>by ext h;rwa[uj,rfl,rfl]
 |e::es,is,h=>by
  cases e with
  |Name x p=>
   delta zA at h
   .ext1 g;ext h h
    .ext1 i j b a;ext h;let l:=ji O g;let⟨k,d,f⟩:=vg O a;rwa[pb (uh (by rw[O.N];show O.nd) (by rw[O.N];show aP b) l.1 l.2) k,?_,?_]
     .change(UI es X.env).length+1=_;rw[d];rfl
     .change((Uk,assign (.Name x p) X.env)::UI es X.env).findIdx? (·.1)=L;rw[QS];simp[f]
    .ext h
   .ext h
  |_=>ext h
def Lr(O:aq X Γ c){f:Ro->MR}(E:bK X f e)(h1:zA c es=B is)(I:zy e=Uj):c4 X pn (λZ=>Dh pn is (f Z)) (.Assign [.Tuple es k tp] e pos):=by
 intro Z r h g Y H Dn K q;let⟨N,m,M⟩:=vg O h1
 let n:(is.all λi=>!pn.contains i)=Uj->∀i∈is,i∉pn:=λh i U=>by
  have:=QB.mp h i U;simpa using this
 dsimp only[Dh] at h;ext h h
 .ext1 W S V C;ext h h
  .ext1 R P hk;ext h h
   .ext1 l;ext h;show cm (rR aC (yd O.calm N m M) lJ (qt I)) (E Z _ _ _ C g Y H _ K λv T y F p d x=>?_);let⟨a,o,w,Q,rfl,u,A,j,t⟩:=x.parts (.inl rfl) hk λb z=>d.mu b ((aj b).mpr z);cases(A);rwa[a,w,rfl,.of u,#v[t.len,l.1],iL l.1 (n l.2) (p.drop j) (d.drop j λb z=>(p.tmp b z).1) (λb z=>z.imp id (j b)) t PinOk.refl λm s e2 s2 D=>q s m y e2 s2 D]
   .ext h
  .ext h
 .ext1 W S V C;ext h h
  .ext1 R P hk;ext h h
   .ext1 l;ext h;show cm (rR aC (GE O.calm N m M) lJ (qt I)) (E Z _ _ _ C g Y H _ K λv T y F p d x=>?_);let⟨a,o,w,Q,rfl,u,A,j,t⟩:=x.parts (.inr rfl) hk λb z=>d.mu b ((aj b).mpr z);cases(A);rwa[a,w,rfl,.of u,#v[t.len,l.1],iL l.1 (n l.2) (p.drop j) (d.drop j λb z=>(p.tmp b z).1) (λb z=>z.imp id (j b)) t PinOk.refl λm s e2 s2 D=>q s m y e2 s2 D]
   .ext h
  .ext h
 .ext h
def tF(a:MR):@&Res:=match a with
 |some (kd,d,Z1)=>if bt (dW kd d)=Uj then L else B (.rt (dW kd d) d Z1)
 |none=>L
def EO{f:Ro->MR}(c:bK X f e):c4 X pn (λZ=>tF (f Z)) (.Return (B e) pos):=by
 intro Z r h g Y H n b q;dsimp only[tF] at h;ext h h
 .ext1 p d o j;ext h h
  .ext h
  .ext h;show cm (FZ aC) (c Z _ _ _ j g Y H _ b λv i m F l a k=>q v Y i m F l a PinOk.refl (k.im a.mu))
 .ext h
meta def xj(a:MR):@&Res:=match a with
 |some (_,_,Z1)=>B (.nx Z1)
 |none=>L
def zB{f:Ro->MR}(i:fJ e=Uj)(l:bK X f e):c4 X pn (λZ=>xj (f Z)) (.Expr e pos):=by
 intro Z r h g Y H o j q;dsimp only[xj] at h;ext h h
 .ext1 t d p n;ext h;show cm (BU aC (kF i)) (l Z _ _ _ n g Y H _ j λv m k F c a s=>q Y m k (c.drop λW z=>z.elim) ?_ PinOk.refl);have:=a.drop (F2:=iX) (λW z=>z.elim) λb z=>(c.tmp b z).1;rw[a5 λW z=>z] at this;show this
 .ext h
def Ls:c4 X pn (λZ=>B (.nx Z)) (.Expr (.Constant (.str x) j pos) pos'):=by
 intro Z r h g Y H b a q;ext h;show cm FY (q Y g H (.refl g H) a PinOk.refl)
meta def Di(t:@&(Bool×Ro))(a b:Ro->@&Res):@&Res:=match t with
 |some (Uj,Z)=>a Z
 |some (Uk,Z)=>b Z
 |none=>L
def Lu{k:Ro->@&(Bool×Ro)}(l:uY X k t)(p:aW X pn fa a)(o:aW X pn fb b):c4 X pn (λZ=>Di (k Z) fa fb) (.If t a b pos):=by
 intro Z r h g Y H n m q;dsimp only[Di] at h;ext h h
 .ext1 d e;show cm (Ev jb fI fI) (l Z _ _ e g Y H _ m λf j i c=>wR (p d r h f Y j n c (q.from i PinOk.refl)))
 .ext1 d e;show cm (Ev jb fI fI) (l Z _ _ e g Y H _ m λf j i c=>wQ (o d r h f Y j n c (q.from i PinOk.refl)))
 .ext h
meta def cq(a:@&Res)(b:Ro->@&Res):@&Res:=match a with
 |some (.nx Z)=>b Z
 |r=>r
def Lv:aW X pn (λZ=>B (.nx Z)) []:=by
 intro Z r h g Y H b a q;ext h;show tD BQ (q Y g H (.refl g H) a PinOk.refl)
def HF{i fb:Ro->@&Res}(c:c4 X pn i s)(m:aW X pn fb st):aW X pn (λZ=>cq (i Z) fb) (s::st):=by
 intro Z r h g Y H l a q;cbv at h;show tD (xZ Lp fI) ?_
 cases e:i Z with
 |none=>rw[e] at h;ext h
 |some j=>
  rw[e] at h
  cases j with
  |nx b=>show c Z _ e g Y H _ a λk n p o f pk=>m b r h n k p l f (q.from o pk)
  |rt t d b=>ext h;show c Z _ e g Y H _ a q
  |ct b=>ext h;show c Z _ e g Y H _ a q
  |bk b=>ext h;show c Z _ e g Y H _ a q
def HG:c4 X pn (λZ=>B (.nx Z)) (.Pass pos):=by
 intro Z r h g Y H b a q;ext h;show cm BS (q Y g H (.refl g H) a PinOk.refl)
end
def EQ(c:Cz)(x y:Str)(a:Uo)(O py:Pos):Bool:=(!foldedForSure 8 a&&!constantsAlone 8 a)&&decide (c.sc.names.lookup x=B .local)&&decide (c.sc.names.lookup y=B .local)&&decide (x≠y)&&(py.line==O.line)&&decide (c.sc.kind=.function)
def zC{env:Env}{x y:Str}{c f2 e q:Uo}{f k}{a py j d:Pos}{n o}(l:env.scope.names.lookup x=B .local)(m:env.scope.names.lookup y=B .local)(g:x≠y)(p:(py.line==a.line)=Uj)(hk:env.scope.kind=.function)(h:(!foldedForSure 8 (.Subscript c e f)&&!constantsAlone 8 (.Subscript c e f))=Uj) :
  swappedStores [.Tuple [.Name x a,.Name y py] n j] (.Tuple [.Subscript c e f,.Subscript f2 q k] o d) env=pure (B [x,y]):=by
 let e1:env.kindOf x=B .local:=l;let e2:env.kindOf y=B .local:=m;let e3:env.blockKind=.function:=by delta Env.blockKind;rw[hk];rfl
 let e4:([x,y]:-Str).eraseDups.length=2:=by
  have:(y==x)=Uk:=beq_eq_false_iff_ne.mpr (Ne.symm g);simp[List.eraseDups_cons,this]
 let b:py.line=a.line:=eq_of_beq p;delta swappedStores;let s:(Expr.Name x a).pos=a:=rfl;dsimp[s,List.head?_cons,Sy,TZ,QI,Sv,QN,List.filterMap_nil,e1,e2,e3,b,beq_self_eq_true,Bool.and_self,if_true];dsimp[Qd,QZ] at h;let⟨r,i⟩:=h;rw[if_neg ⋯,if_neg ∎,if_neg (by rw[e4];decide),if_neg (by rw[Q3,r];show Qx),if_neg (by rw[Q3,i];show Qx)]
def Dj(pn:-Nat)(i j:Nat)(a:@&(-KD))(Z:Ro):@&Res:=match a with
 |some [x,y]=>if(pK x.1 x.2=Uj/\pK y.1 y.2=Uj)/\i≠j/\i∉pn/\j∉pn then B (.nx (qu [i,j] [x.2,y.2] [] .fz Z)) else L
 |_=>L
section
variable {X:Cx} {Γ:fw} {c:Cz} {pn:-Nat}
def Lw(O:aq X Γ c){U:Ro->@&(-KD)}{x y:Str}{n f2 I T:Uo}{u P}{R py pt C pos:Pos}{kt s}{i j:Nat}(ha:kg X U [.Subscript n I u,.Subscript f2 T P])(hi:a9 x c.N=B i)(hj:a9 y c.N=B j)(a:EQ c x y (.Subscript n I u) R py=Uj) :
  c4 X pn (λZ=>Dj pn i j (U Z) Z) (.Assign [.Tuple [.Name x R,.Name y py] kt pt] (.Tuple [.Subscript n I u,.Subscript f2 T P] s C) pos):=by
 intro Z r h g Y H Dn E q;unfold EQ at a;let⟨a,l⟩:=QP.mp a;let⟨a,h4⟩:=QP.mp a;let⟨a,p⟩:=QP.mp a;let⟨a,d⟩:=QP.mp a;let⟨h0,k⟩:=QP.mp a;replace k:=of_decide_eq_true k;replace d:=of_decide_eq_true d;replace p:=of_decide_eq_true p;replace l:=of_decide_eq_true l;rw[<- O.sc] at k d l;dsimp only[Dj] at h;ext h h
 .ext1 k1 s he;ext h h
  .ext1 f;ext h;show cm (Ga O.calm (by rw[O.N];show O.nd) (by rw[O.N];show aP hi) (by rw[O.N];show aP hj) f.2.1 k d dI (zC k d p h4 l h0)) ?_;show ha Z _ he g Y H _ E λvs H1 s1 V=>?_;let rl:=V.sh (by simp[f.1.1,f.1.2]) E.mu s1;let⟨v,ys,rfl,rv,M⟩:=rl.cons_inv;let⟨w,zs,rfl,D,m⟩:=M.cons_inv;cases m.nil_inv;rwa[v,w,rfl,?_]
   let t:=iL (pn:=pn) (K:=X.K) (g:=g) (H:=H) (H1:=H1) (Y0:=Y) (Q:=λY' H'=>Dn.nx Y' H') (is:=[i,j]) (ds:=[k1.2,s.2]) (es:=[]) (r:=.fz) (vs:=[v,w]) (g1:=g) (F:=iX) (S:=Sg g) (Z:=Z) (Y:=Y) rfl (λz A=>by
     obtain rfl|A:=Qf.mp A
     .show f.2.2.1
     .rw[Qs.mp A];show f.2.2.2) #[λb o L e=>s1 b o e,λL=>Iff.rfl,λb i e=>.inl #[i,e],λL z=>z.elim,λb o e=>#[o,s1 b o e]] (by rw[a5 λL z=>z];show E.same s1) (λb z=>z.elim id λz=>z.elim) (.ofFz (.cons rv (.cons D .nil))) PinOk.refl λg2 W e2 s2 p2=>q W g2 H1 e2 s2 p2
   let⟨z_,y_,e1,x_,w_,e2,v_,z⟩:=t;ext e1;ext e2;show z
  .ext h
 .ext h
end
open Classical in
meta def Gh.lend(g:Gh)(bs:-Nat):Gh:=λb=>if ∃i∈bs,g b=B (B i) then B L else g b
open Classical in
meta def Gh.unlend(g' g:Gh)(bs:-Nat):Gh:=λb=>if ∃i∈bs,g b=B (B i) then g b else g' b
meta def clrN:-Nat->Ro->Ro
 |[],Z=>Z
 |i::is,Z=>clrN is (Z.set i L)
meta def BB:-Nat->Ro->Ro->Ro
 |[],_,Z'=>Z'
 |i::is,Z,Z'=>BB is Z (Z'.set i (Z[i]?).join)
section
variable {K:P9} {H H' H1:Hp} {g g' g1:Gh} {F:Pr} {Z Z':Ro} {Y Y':L2.St} {bs:-Nat}
def tG(b:Up):Sg (g.lend bs) b↔Sg g b:=by
 unfold Gh.lend Sg;cbv;by_cases h:∃i∈bs,g b=B (B i)
 .rw[if_pos h];let⟨i,z_,e⟩:=h;simp[e]
 .rw[if_neg h]
def kH(h:g.lend bs b=B (B j)):g b=B (B j)/\j∉bs:=by
 delta Gh.lend at h
 .ext h
 .ext1 n;rwa[h,λz=>n #[j,z,h]]
def vh(hi:i∈bs)(h:g b=B (B i)):g.lend bs b=B L:=by
 delta Gh.lend;rw[if_pos #[i,hi,h]]
def kI(h:∀i∈bs,g b≠B (B i)):g.lend bs b=g b:=by
 delta Gh.lend;rw[if_neg λ⟨i,a,e⟩=>h i a e]
theorem lK:∀{is:-Nat} {Z:Ro},(clrN is Z).length=Z.length
 |[],_=>rfl
 |i::is,Z=>by delta clrN;rw[lK];simp
theorem jD:∀{is:-Nat} {Z:Ro} {j:Nat} {c:Sl},(clrN is Z)[j]?=B (B c)->Z[j]?=B (B c)/\j∉is
 |[],_,_,_,h=>#[h,∎]
 |i::is,Z,j,c,h=>by
  unfold clrN at h;let⟨b,e⟩:=jD h
  let a:j≠i:=λz=>by
   subst z
   let d:j<Z.length:=by
    have:=(Qb.mp b).1;simpa using this
   rw[QF d] at b;ext b
  rw[QH (Ne.symm a)] at b;rwa[b,by simp[a,e]]
theorem vi:∀{is:-Nat} {Z Z':Ro},(BB is Z Z').length=Z'.length
 |[],_,_=>rfl
 |i::is,Z,Z'=>by delta BB;rw[vi];simp
theorem qw:∀{is:-Nat} {Z Z':Ro} {j:Nat} {b:Sl},(BB is Z Z')[j]?=B (B b)->(j∈is/\Z[j]?=B (B b))\/(j∉is/\Z'[j]?=B (B b))
 |[],_,_,_,_,h=>.inr #[by simp,h]
 |i::is,Z,Z',j,b,h=>by
  unfold BB at h;rcases qw h with⟨d,a⟩|⟨d,a⟩
  .show .inl #[Qh _ d,a]
  .by_cases e:j=i
   .subst e
    let c:j<Z'.length:=by
     have:=(Qb.mp a).1;simpa using this
    rw[QF c] at a;show .inl #[Qr,?_];have:(Z[j]?).join=B b:=by simpa using a
    cases q:Z[j]? with
    |none=>rw[q] at this;ext this
    |some o=>rw[q] at this;have:o=B b:=this;rw[this]
   .rw[QH (Ne.symm e)] at a;show .inr #[by simp[e,d],a]
theorem SE.clrN(h:SE K g Z Y H)(is:-Nat):SE K g (clrN is Z) Y H:=#[λi a e=>h.slot i a (jD e).1,h.mu,by rw[lK];show h.len]
def SE.lend(h:SE K g Z Y H)(bs:-Nat):SE K (g.lend bs) (J.clrN bs Z) Y H:=by
 rwa[λi c e=>?_,λb z=>h.mu b ((tG b).mp z),by rw[lK];show h.len];let⟨e1,a⟩:=jD e;let⟨v,F,k,d,f⟩:=h.slot i c e1;rwa[v,F,k,λb z=>?_,f.go (λW W W e=>e) λb o W n z=>n ((tG b).mp z)];have:=d b z;rw[kI λj l e=>by rw[this] at e;ext e;show a l];show this
def m4(h:∃i∈bs,g b=B (B i)):g'.unlend g bs b=g b:=by delta Gh.unlend;rw[if_pos h]
def di(h:¬∃i∈bs,g b=B (B i)):g'.unlend g bs b=g' b:=by delta Gh.unlend;rw[if_neg h]
def j6(h:SE K g Z Y H)(a:Evo (g.lend bs) H g' H' F)(w:SE K (g'.plus F) Z' Y' H')(pk:PinOk bs Y Y') :
  Evo g H (g'.unlend g bs) H' F/\SE K ((g'.unlend g bs).plus F) (BB bs Z Z') Y' H'/\∀b,Sg (g'.unlend g bs) b->Sg g' b:=by
 let s:∀b,(∃i∈bs,g b=B (B i))->g' b=B L:=λb ⟨i,m,e⟩=>(a.out b).mp (vh m e)
 let d:∀b,Sg (g'.unlend g bs) b->Sg g' b:=λb z=>by
  by_cases q:∃i∈bs,g b=B (B i)
  .rw[Sg,s b q];simp
  .rw[Sg,di q] at z;show z
 let c:∀b,Sg ((g'.unlend g bs).plus F) b->Sg (g'.plus F) b:=λb z=>(aj b).mpr (((aj b).mp z).imp (d b) id);let p:∀b,F b->¬∃i∈bs,g b=B (B i):=λb z q=>by have:=s b q;rw[(a.tmp b z).1] at this;ext this
 rwa[#[λb o n e=>a.keep b o (λi q=>n i (kH q).1) e,λb=>#[λe=>?_,λe=>?_],λb j e=>?_,λb z=>?_,a.dom],#[λj C e=>?_,λb z=>w.mu b (c b z),by rw[vi];show w.len],d]
 .let n:¬∃i∈bs,g b=B (B i):=λ⟨i,_,q⟩=>by rw[e] at q;ext q
  rw[di n];show(a.out b).mp (by rw[kI λi m q=>n #[i,m,q]];show e)
 .by_cases q:∃i∈bs,g b=B (B i)
  .rw[m4 q] at e;show e
  .rw[di q] at e;have:=(a.out b).mpr e;rw[kI λi m z=>q #[i,m,z]] at this;show this
 .by_cases q:∃i∈bs,g b=B (B i)
  .let⟨i,z_,q⟩:=q;show .inl #[i,q]
  .rw[di q] at e;show(a.new b j e).imp (λ⟨j,z⟩=>#[j,(kH z).1]) id
 .let t:=a.tmp b z;rwa[by rw[di (p b z)];show t.1,t.2.imp (λ⟨j,z⟩=>#[j,(kH z).1]) id]
 .rcases qw e with⟨r,e1⟩|⟨r,e1⟩
  .let⟨v,A,y,f,u⟩:=h.slot j C e1;rwa[v,A,by rw[pk j r];show y,λb z=>?_,u.go (λb o k e=>a.keep b o (λi q=>?_) e) λb o e n z=>?_]
   .have:∃i∈bs,g b=B (B i):=#[j,r,f b z];show cz (by rw[m4 this];show f b z) λl=>p b l this
   .let⟨q,E⟩:=kH q;obtain k|k:=k
    .show k (by rw[Sg,q];simp)
    .rw[f b k] at q;ext q;show E r
   .let D:g b=L:=by
     cases q:g b with
     |none=>rfl
     |some x=>show absurd (by rw[Sg,q];simp) n
    let⟨I,f2⟩:=a.froz e (by rw[kI λi W z=>by rw[D] at z;cases z];show D);rcases(aj b).mp z with z|z
    .show d b z I
    .show f2 z
  .let⟨v,A,y,f,u⟩:=w.slot j C e1;rwa[v,A,y,λb z=>?_,u.go (λW W W e=>e) λb o W n z=>n (c b z)];let q:=bM (f b z);show cz ?_ λl=>by rw[(a.tmp b l).1] at q;ext q
   rw[di λl=>by rw[s b l] at q;cases q];show q
def VR1.unlend(f:bt kd=Uk)(a:∀b,Sg g b->Sg g' b)(h:VR1 K H g' F kd d v F):VR1 K H g F kd d v F:=by
 let c:∀b,Sx g F b->Sx g' F b:=λb z=>z.imp (a b) id
 cases kd with
 |sh=>rwa[h.1,h.2.weak c]
 |fr k=>show Tr.go (λZ Z Z e=>e) (λb o Z n z=>n (c b z)) h
 |bo i k=>ext f
def Dk{s:Src}(p:s.P K g H1)(c:s.from g H bs)(h:Evo (g.lend bs) H1 gi Hi iX):s.P K gi Hi:=by
 let f:∀b o,H1 b=B o->¬Sg g b->Hi b=B o/\¬Sg gi b:=λb o e n=>by
  let k:g.lend bs b=L:=by
   cases q:g.lend bs b with
   |none=>rfl
   |some x=>show absurd ((tG b).mp (by rw[Sg,q];simp)) n
  let⟨m,f2⟩:=h.froz e k;rwa[h.keep b o (λi q=>by rw[k] at q;ext q) e,λz=>z m]
 show Src.mono (λb o e n=>(f b o e n).2) (λb o d e=>?_) (λa e=>c.from_t e) p;obtain d|d:=d
 .show(f b o e d).1
 .obtain c|⟨i,l,c⟩:=c.from_l d
  .show(f b o e (by rw[Sg,c];simp)).1
  .show h.keep b o (λj q=>by rw[vh l c] at q;ext q) e
end
def fK(pn fg:-Nat)(tg:IT)(fb:Ro->@&Res):-D->Ro->@&Res
 |[],Z=>B (.nx (clrN fg Z))
 |d::ds,Z=>match sV tg d with
  |some ps=>if(ps.all λp=>!pn.contains p.1)=Uj then(match fb (setAll ps (clrN fg Z)) with
   |some (.nx Z2)=>fK pn fg tg fb ds Z2
   |some (.ct Z2)=>fK pn fg tg fb ds Z2
   |some (.bk Z2)=>B (.nx (clrN fg Z2))
   |some (.rt k d Z2)=>B (.rt k d Z2)
   |none=>L) else L
  |none=>L
def Lx(J:It)(g:TG)(tb:TS):TS:=λD Y H1=>ΣW:Nat->Nat->L2.St->Hp->Prop,(Σm,W 0 m Y H1)/\∀i m Y H,W i m Y H->
 (J.stop i H/\D.nx Y H)\/(J.go i H/\ΣN:L2.St->Hp->Prop,(∀Y' H',N Y' H'->ΣO,O<m/\W (i+1) O Y' H')/\∀x H',J.yld i H x H'->g x Y H' λR H2=>tb { D with nx:=N,ct:=N,bk:=D.nx } R H2)
section
variable {X:Cx} {Γ:fw} {c:Cz} {pn:-Nat}
theorem zD{ps:-(Nat×D)}(h:RpP K H S ps vs)(c:(ps.all λp=>!pn.contains p.1)=Uj):PinOk pn Y (iy vs Y):=λi b=>kB h λp a z=>by
 have:=QB.mp c p a;rw[z] at this;simp[b] at this
def qx(O:aq X Γ c)(V:n5 c n tg=B t)(T:aW X pn fb body){src:Src}{g g0:Gh}(se:SE X.K (g.lend bs) Z Y H1)(jt:jp X.K jj src ds)(sp:src.P X.K g H1)(sf:src.from g H bs)(h:fK pn fg t fb ds Z=B r)(q:EndM X.K pn (g.lend bs) H1 Y Dn r) :
  Lx jj (wG X tg) (HC X body) Dn Y H1:=by
 show#[λi m S F=>m=ds.length-i/\i<=ds.length/\ΣE o,SE X.K o E S F/\Evo (g.lend bs) H1 o F iX/\PinOk pn Y S/\fK pn fg t fb (ds.drop i) E=B r,
  #[ds.length,∎,QM _,Z,g.lend bs,se,.refl _ _,PinOk.refl,↥h],?_]
 rintro i m S F ⟨rfl,hc,E,o,A,C,I,a⟩
 let⟨j1,j2⟩:=jt i o F (Dk sp sf C) A.mu;by_cases y:i<ds.length
 .let hd:ds[i]?=B ds[i]:=Qi y;let⟨go,yl⟩:=j2 _ hd;rw[QW y] at a;delta fK at a
  .ext1 ps ha;ext a a
   .ext1 W;show .inr #[go,λU p=>ds.length-(i+1)=ds.length-(i+1)/\i+1<=ds.length/\ΣE o,SE X.K o E U p/\Evo (g.lend bs) H1 o p iX/\PinOk pn Y U/\fK pn fg t fb (ds.drop (i+1)) E=B r,λU p hN=>#[ds.length-(i+1),∅,hN],λx p hy=>?_];let⟨s2,rx⟩:=yl x p hy;show uD (pX O n V) (iz ha rx λvs R=>?_);let u:=SE.setAll R ((A.clrN fg).same s2);let w:Evo (g.lend bs) H1 o p iX:=bE C (cW s2 (λL z=>z.elim) λL z=>z.elim);let s:=I.trans (zD R W);ext a a
    .ext1 N b;show T _ _ b o _ p _ u λQ D M f j l=>#[rfl,y,N,D,j,bE w f,s.trans l,a]
    .ext1 N b;show T _ _ b o _ p _ u λQ D M f j l=>#[rfl,y,N,D,j,bE w f,s.trans l,a]
    .ext1 N b;ext a;show T _ _ b o _ p _ u λQ D M f j l=>q Q D M (bE w f) (j.clrN fg) (s.trans l)
    .ext1 k d N b;ext a;show T _ _ b o _ p _ u λv Q D M F4 f j l r4=>q v Q D M F4 (bE w f) j (s.trans l) r4
    .ext a
   .ext a
  .ext a
 .let e:i=ds.length:=∅
  subst e;rw[Ua] at a;ext a;show .inl #[j1 (Qe _),q S o F C (A.clrN fg) I]
def vj(bs:-Nat)(Z:Ro)(r:@&Res):@&Res:=match r with
 |some (.nx Z')=>B (.nx (BB bs Z Z'))
 |some (.rt k d Z')=>if bt k=Uj then L else B (.rt k d (BB bs Z Z'))
 |_=>L
def m5(pn fg:-Nat)(tg:IT)(fb:-Nat->Ro->@&Res)(it:IR):@&Res:=match it with
 |some (bs,ds,Z)=>vj bs Z (fK (pn++bs) fg tg (fb (pn++bs)) ds (clrN bs Z))
 |none=>L
theorem PinOk.left{a b:-Nat}(h:PinOk (a++b) Y Y'):PinOk a Y Y':=λi c=>h i (QL _ c)
theorem PinOk.right{a b:-Nat}(h:PinOk (a++b) Y Y'):PinOk b Y Y':=λi c=>h i (Ql _ c)
def zE(O:aq X Γ c)(N:PassesOwn (Ut X.prog X.w) X.A X.env X.xe){u:Ro->IR}{fb:-Nat->Ro->@&Res}(e:n5 c n tg=B t)(hi:qg X u tg iter)(C:∀pn,aW X pn (fb pn) body)(I:dB iter=Uj) :
  c4 X pn (λZ=>m5 pn fg t fb (u Z)) (.For tg iter body [] pos):=by
 intro Z r h g Y H W T q;dsimp only[m5] at h;ext h h
 .ext1 l P U hit;show cm (Gf N O.calm wX wY fI (dh I)) (hi Z l P U hit g Y H _ T λV S E H1 s a D sp x=>?_);let y:=q.from s PinOk.refl;delta vj at h
  .ext1 M j;ext h;show qx (g0:=E) O e (C _) (a.lend l) D sp x j λp R i m b pk=>?_;let⟨o,f,z_⟩:=j6 a m (by rw[a5 λV z=>z];show b) pk.right;show y p _ i o (by rw[a5 λV z=>z] at f;show f) pk.left
  .ext1 k d M j;ext h h
   .ext h
   .ext1 hk;ext h;show qx (g0:=E) O e (C _) (a.lend l) D sp x j λv p R i F m b pk Q=>?_;let⟨o,f,K⟩:=j6 a m b pk.right;show y v p _ i F o f pk.left (Q.unlend ↥hk K)
  .ext h
 .ext h
def kj(fg:-Nat)(O:Ro->@&(Bool×Ro))(fb:Ro->@&Res):Nat->Ro->@&Res
 |0,_=>L
 |n+1,Z=>match O (clrN fg Z) with
  |some (Uk,Z1)=>B (.nx Z1)
  |some (Uj,Z1)=>(match fb Z1 with
   |some (.nx Z2)=>kj fg O fb n Z2
   |some (.ct Z2)=>kj fg O fb n Z2
   |some (.bk Z2)=>B (.nx (clrN fg Z2))
   |some (.rt k d Z2)=>B (.rt k d Z2)
   |none=>L)
  |none=>L
def Ly(U:PassesOwn (Ut X.prog X.w) X.A X.env X.xe)(R:uY X ft t)(N:aW X pn fb body)(n:Nat):c4 X pn (kj fg ft fb n) (.While t body [] pos):=by
 intro Z r h g Y H Dn W q;show cm (yf U jb fI) #[λm o C=>ΣO D,SE X.K D O o C/\Evo g H D C iX/\PinOk pn Y o/\kj fg ft fb m O=B r,#[n,Z,g,W,.refl g H,PinOk.refl,h],?_]
 rintro m o C ⟨O,D,E,F,j,l⟩
 cases m with
 |zero=>ext l
 |succ m=>
  delta kj at l
  .ext1 Z1 e;ext l
   show R _ _ _ e D o C _ (E.clrN fg) λy z u i=>by
    rw[if_neg ⋯];show q o y z (bE F u) i j
  .ext1 Z1 e;show R _ _ _ e D o C _ (E.clrN fg) λy z u i=>?_;rw[if_pos rfl];rwa[λP Q=>Σs S,SE X.K S s P Q/\Evo g H S Q iX/\PinOk pn Y P/\kj fg ft fb m s=B r,λP Q V=>#[m,Rr m,V],?_];let p:=bE F u;ext l l
   .ext1 s a;show N _ _ a y o z _ i λM x I b c f=>#[s,x,c,bE p b,j.trans f,l]
   .ext1 s a;show N _ _ a y o z _ i λM x I b c f=>#[s,x,c,bE p b,j.trans f,l]
   .ext1 s a;ext l;show N _ _ a y o z _ i λM x I b c f=>q M x I (bE p b) (c.clrN fg) (j.trans f)
   .ext1 k d s a;ext l;show N _ _ a y o z _ i λv M x I F4 b c f T=>q v M x I F4 (bE p b) c (j.trans f) T
   .ext l
  .ext l
def Lz{f:Ro->@&Res}(is:-Nat)(h:c4 X pn f st):c4 X pn (λZ=>f (frzN is Z)) st:=by
 intro Z r d g Y H c a q;let⟨b,s1,e1⟩:=SE.frzN is a;show h _ r d b Y H c s1 (q.from e1 PinOk.refl)
meta def Oe(op:UD)(i j:Int):@&D:=match op with
 |.Add=>B (.int (i+j))
 |.BitAnd=>B (.int (Builtin.bitAnd i j))
 |.BitOr=>B (.int (Builtin.bitOr i j))
 |_=>L
def Dl(op:UD)(x y:D):@&D:=match x with
 |.int i=>(match y with|.int j=>Oe op i j|_=>L)
 |_=>L
meta def j7:D->@&V
 |.int i=>B (.int i)
 |.str x=>B (.str x)
 |.bl b=>B (.bl b)
 |.non=>B .non
 |_=>L
def zG(h:j7 d=B v):Rp K H S d v:=by
 cases d<;>first|(cases h;delta Rp;rfl)|cases h
def qy(h:j7 d=B v)(r:Rp K H S d u):u=v:=by
 cases d<;>first|(cases h;unfold Rp at r;show r)|cases h
def xk(h:Dl op x y=B z):Σu v w,j7 x=B u/\j7 y=B v/\j7 z=B w:=by
 cases x with
 |int i=>cases y with
  |int j=>cases op<;>first|(cases h;rwa[_,_,_,rfl,rfl,rfl])|(let⟨z_,e⟩:=wZ h;ext e;rwa[_,_,_,rfl,rfl,rfl])|cases h
  |_=>ext h
 |_=>ext h
def Of(op:UD):V->V->Hp->VK->Prop:=λx y H Q=>Σdx O R u,j7 dx=B x/\j7 O=B y/\Dl op dx O=B R/\j7 R=B u/\Q u H
def HI(op:UD):Pa X op (Of op):=by
 intro a s Y H x y v u Q I c f h;let⟨k,l,m,w,d,e,b,g,q⟩:=h
 cases k with
 |int i=>cases l with
  |int j=>cases op with
   |Add=>ext b;ext d;ext e;ext g;show BY a s Y H _ _ v u Q I c f #[_,_,rfl,rfl,q]
   |BitAnd=>ext b;ext d;ext e;ext g;show BZ a s Y H _ _ v u Q I c f #[_,_,rfl,rfl,q]
   |BitOr=>ext b;ext d;ext e;ext g;show Gq a s Y H _ _ v u Q I c f #[_,_,rfl,rfl,q]
   |_=>ext b
  |_=>ext b
 |_=>ext b
def Dm(pn:-Nat)(i:Nat)(op:UD)(o:@&(@&Sl))(a:MR):@&Res:=match o,a with
 |some (B s),B (ky,dy,Z1)=>if i∈pn then L else(match Dl op s.d dy with|some dz=>B (.nx (Z1.set i (B (Jx dz))))|none=>L)
 |_,_=>L
def LA(O:aq X Γ c){f:Ro->MR}{i:Nat}(I:mf c x=Uj)(hi:a9 x c.N=B i)(C:bK X f e):c4 X pn (λZ=>Dm pn i op Z[i]? (f Z)) (.AugAssign (.Name x p) op e pos):=by
 intro Z r h g Y H Dn n q;let l:=ji O I;dsimp only[Dm] at h;ext h h
 .ext1 W V R Z1 t M;ext h h
  .ext h
  .ext1 w;ext h h
   .ext1 P s;ext h;let⟨T,S,A,o,m,k⟩:=xk s;let⟨v,U,e1,e2,e3⟩:=n.slot i _ t;let D:=qy o e3.rd;subst D;show cm (Gb (by rw[O.N];show O.nd) (by rw[O.N];show aP hi) l.1 aC (HI op) l.2) #[_,e1,C Z _ _ _ M g Y H _ n λy K Q F d j u=>?_];let E:=qy m u.rd;subst E;rwa[_,_,P,A,o,m,s,k,?_];let a:=j.drop (F2:=iX) (λL z=>z.elim) λb z=>(d.tmp b z).1;rw[a5 λL z=>z] at a;show q _ K Q (d.drop λL z=>z.elim) (a.set i (zG k)) (PinOk.set w)
   .ext h
 .ext h
end
theorem m6(b:-Uw)(env:Env):∀a:-Uw,execs (a++b) env=(execs a env >>= λf=>match f with|.next=>execs b env|f=>pure f)
 |[]=>by
  change execs b env=((pure .next:Sem Flow) >>= _)
  rw[pure_bind]
 |st::a=>by
  change execs (st::(a++b)) env=_;rw[execs_cons,execs_cons,bind_assoc];congr 1;funext f
  cases f with
  |next=>show m6 b env a
  |_=>rw[pure_bind]
def Do{a b:-Uw}{Y:L2.St}(h:HC X a { Dn with nx:=λY H=>HC X b Dn Y H } Y H):HC X (a++b) Dn Y H:=by
 intro c s I;rw[m6];show Ul (a8 (h c s I) λf s1 q=>?_)
 cases f with
 |next=>
  let⟨g,e,d,q⟩:=q;show q c s1 d
 |_=>show Ur q
theorem ou{κ:Type}[DecidableEq κ]:∀(d:-(κ×V)) (k:κ) (j:Nat),(d.map (·.1)).Nodup->d.findIdx? (λc=>decide (c.1=k))=B j->(d.map (λc=>if c.1=k then(c.1,v) else c)).map (·.2)=(d.map (·.2)).set j v
 |[],k,j,_,h=>by simp at h
 |(a,b)::r,k,j,hn,h=>by
  rw[QS] at h;rw[QE,QK] at hn;by_cases e:a=k
  .subst e;simp at h;subst h
   have:r.map (λc=>if c.1=a then(c.1,v) else c)=r:=by
    conv=>rhs;rw[<- List.map_id r]
    show Ra λc hk=>?_;rw[if_neg λz=>hn.1 (Qv.mpr #[c,hk,z])];rfl
   simp[this]
  .dsimp[e,decide_false] at h;let⟨f,g,rfl⟩:=bI ↥h;have:=ou (v:=v) r k f hn.2 g;dsimp[QE,e,if_false,SK,this]
def vm{κ:Type}[DecidableEq κ](a:-(κ×V))(k:κ):(a.map (λb=>if b.1=k then(b.1,v) else b)).map (·.1)=a.map (·.1):=by
 rw[QA];show Ra λb Z=>?_;dsimp[Function.comp]
 split<;>rfl
def cY{κ:Type}[DecidableEq κ]{a:-(κ×V)}{k:κ}:(a.any λb=>decide (b.1=k))=(a.findIdx? λb=>decide (b.1=k)).isSome:=by
 rw[List.findIdx?_isSome]
theorem jE{α β:Type}{f:α->β}:∀{l:List α},(l.map f).Nodup->l.Nodup
 |[],_=>.nil
 |a::l,h=>by
  rw[QE,QK] at h;show QK.mpr #[λz=>h.1 (List.mem_map_of_mem z),jE h.2]
def vn{H:Hp}{ks:-DK}{xs:-V}{k:DK}{y v:V}(g:H a=B o)(q:c7 K o (.dic t ks) xs)(h:je d=B k)(r:Rp K H S d y)(hk:ik t k=Uj)(hz:xs.length<sizeLine) :
  (∀j,aX ks k=B j->ks.Nodup->Σs:Nat->HO,DPut H a y v (λe=>upd H a (s e))/\∀e,(∀xs,s e≠.tup xs)/\c7 K (s e) (.dic t ks) (xs.set j v))/\(aX ks k=L->Σs:Nat->HO,DPut H a y v (λe=>upd H a (s e))/\∀e,(∀xs,s e≠.tup xs)/\c7 K (s e) (.dic t (ks++[k])) (xs++[v])):=by
 rcases q with⟨rfl,c,rfl,e1,e2⟩|⟨m,rfl,c,C,rfl,e1,e2⟩
 .rcases nU h r with⟨x,rfl,rfl⟩|⟨n,b,rfl,rfl,A⟩
  .let e3:aX ks (.inl x)=c.findIdx? λw=>decide (w.1=x):=by
    delta aX;rw[e1,RS];congr 1;funext p;simp[Sum.inl.injEq]
   let z:c.length<sizeLine:=by rw[e2] at hz;simpa using hz
   let u:=DPut.k (k:=x) (v:=v) g z;rwa[λj f i=>#[λZ=>.dK (cR c x v),u,λZ=>#[(λxs h=>by ext h),.inl #[rfl,_,rfl,?_,?_]]],λf=>#[λZ=>.dK (cR c x v),u,λZ=>#[(λxs h=>by ext h),.inl #[rfl,_,rfl,?_,?_]]]]
   .rw[e3] at f;delta cR;rw[cY,f,if_pos (by rfl),e1];have:=congrArg (Sb (Sum.inl:aD->DK)) (vm (v:=v) c x);dsimp[QA] at this⊢;show this.symm
   .rw[e3] at f;delta cR;rw[cY,f,if_pos (by rfl),e2]
    let l:(c.map (·.1)).Nodup:=by
     rw[e1] at i;have:c.map (λp=>(Sum.inl p.1:DK))=(c.map (·.1)).map Sum.inl:=by rw[QA];rfl
     rw[this] at i;show jE i
    show(ou c x j l f).symm
   .rw[e3] at f;delta cR;rw[cY,f,if_neg ∎,e1];simp
   .rw[e3] at f;delta cR;rw[cY,f,if_neg ∎,e2];simp
  .ext hk
 .rcases nU h r with⟨x,rfl,rfl⟩|⟨n,b,rfl,rfl,A⟩
  .ext hk
  .let e3:aX ks (.inr n)=c.findIdx? λw=>decide (w.1=n):=by
    delta aX;rw[e1,RS];congr 1;funext p;simp[Sum.inr.injEq]
   let z:c.length<sizeLine:=by rw[e2] at hz;simpa using hz
   let u:=DPut.t (v:=v) g (A m hk) z;rwa[λj f i=>#[λe=>.dT m e (cR c n v),u,λe=>#[(λxs h=>by ext h),.inr #[m,rfl,_,e,rfl,?_,?_]]],λf=>#[λe=>.dT m e (cR c n v),u,λe=>#[(λxs h=>by ext h),.inr #[m,rfl,_,e,rfl,?_,?_]]]]
   .rw[e3] at f;delta cR;rw[cY,f,if_pos (by rfl),e1];have:=congrArg (Sb (Sum.inr:-(aD ⊕ -aD)->DK)) (vm (v:=v) c n);dsimp[QA] at this⊢;show this.symm
   .rw[e3] at f;delta cR;rw[cY,f,if_pos (by rfl),e2]
    let l:(c.map (·.1)).Nodup:=by
     rw[e1] at i;have:c.map (λp=>(Sum.inr p.1:DK))=(c.map (·.1)).map Sum.inr:=by rw[QA];rfl
     rw[this] at i;show jE i
    show(ou c n j l f).symm
   .rw[e3] at f;delta cR;rw[cY,f,if_neg ∎,e1];simp
   .rw[e3] at f;delta cR;rw[cY,f,if_neg ∎,e2];simp
section
variable {K:P9} {H:Hp} {S:Pr}
theorem TrL.setAt:∀{ds:-D} {es:-Ow} {r:Ow} {xs:-V} {F F2:Pr} {j:Nat} {d:D} {v:V},TrL K H S ds es r xs F->j<ds.length->Tr K H S d (es.getD j r) v F2->(∀b,F b->¬F2 b)->ΣF3:Pr,(∀b,F3 b->F b\/F2 b)/\TrL K H S (ds.set j d) es r (xs.set j v) F3
 |[],_,_,_,_,_,_,_,_,_,hj,_,_=>by simp at hj
 |d0::ds,es,r,xs,F,F2,0,d,v,h,hj,t,dj=>by
  unfold TrL at h;let⟨y,k,i,F3,rfl,a,c,m,g⟩:=h;rwa[λb=>F2 b\/F3 b,λb z=>z.elim .inr λz=>.inl ((a b).mpr (.inr z)),?_];delta TrL
  rwa[v,k,F2,F3,rfl,λb=>Iff.rfl,λb e f=>dj b ((a b).mpr (.inr f)) e,by cases es<;>simpa using t,g]
 |d0::ds,es,r,xs,F,F2,j+1,d,v,h,hj,t,dj=>by
  unfold TrL at h;let⟨y,k,i,F3,rfl,a,c,m,g⟩:=h
  let o:es.tail.getD j r=es.getD (j+1) r:=by cases es<;>simp
  let⟨l,n,p⟩:=TrL.setAt g ↥hj (by rw[o];show t) λb z=>dj b ((a b).mpr (.inr z));rwa[λb=>i b\/l b,λb z=>z.elim (λz=>.inl ((a b).mpr (.inl z))) λz=>(n b z).imp (λz=>(a b).mpr (.inr z)) id,?_];delta TrL;rwa[y,_,i,l,rfl,λb=>Iff.rfl,λb e f=>?_,m,p];obtain z|z:=n b f
  .show c b e z
  .show dj b ((a b).mpr (.inl e)) z
end
def ow(es:-Ow)(r:Ow)(hd:Hd)(ds:-D)(dx:D)(x:KD):@&(Hd×-D):=match hd with
 |.lst=>(match dx with|.int z=>(match jY ds.length z with|some j=>if bR (es.getD j r) x=Uj then B (.lst,ds.set j x.2) else L|none=>L)|_=>L)
 |.dic t ks=>(match je dx with
  |some k=>if ik t k=Uj/\ds.length<100000 then(match aX ks k with
   |some j=>if bR (es.getD j r) x=Uj/\ks.Nodup/\j<ds.length then B (.dic t ks,ds.set j x.2) else L
   |none=>if es.length<=ds.length/\bR r x=Uj then B (.dic t (ks++[k]),ds++[x.2]) else L) else L
  |none=>L)
 |_=>L
def zH(i:Nat)(O:Ro->@&(Ow×D×(D->D)))(fk:Ro->@&KD)(a:MR):@&Res:=match a with
 |some (kd,d,Z1)=>(match O Z1,fk Z1,Z1[i]? with
  |some (.own es r,.nd hd ds,up),B (_,dx),B (B ⟨Uk,k,_⟩)=>(match ow es r hd ds dx (dW kd d,d) with
   |some (hd',ds')=>B (.nx (Z1.set i (B #[Uk,k,up (.nd hd' ds')])))
   |none=>L)
  |_,_,_=>L)
 |none=>L
def xl:swapsWithSole [.Subscript o b sp] e n env=pure Uk:=by
 cases e<;>rfl
def Dp:swappedStores [.Subscript o b sp] e env=pure L:=by
 cases e<;>rfl
section
variable {X:Cx} {Γ:fw} {c:Cz} {pn:-Nat}
def zI{H H0:Hp}{g g0:Gh}{Z:Ro}{up:D->D}{xs:-V}{x:KD}{O:i4}(c:ow es r hd ds dx x=B (hd',ds'))(f:og K H g F Z Y i k es r hd ds up a o xs F')(X:Evo g0 H0 g H F)(se:SE K (g.plus F) Z Y H)(vr:VR1 K H g F x.1 x.2 v F)(W:Rp K H S dx y)(q:EndM K pn g0 H0 Y O (.nx (Z.set i (B #[Uk,k,up (.nd hd' ds')])))) :
  (Σz j,hd=.lst/\y=.int z/\o=.lst xs/\H a=B o/\jY xs.length z=B j/\O.nx Y (upd H a (.lst (xs.set j v))))\/((Σt C,hd=.dic t C)/\ΣF4,DPut H a y v F4/\∀e,O.nx Y (F4 e)):=by
 let hF:∀b,F b->g b=L:=λb z=>(X.tmp b z).1;let mm:MuOk H (Sx g F):=λb z=>se.mu b ((aj b).mpr z);let p:∀(d:Pr),(∀b,d b->F b)->∀b,Sg (g.give d i) b->Sg (g.plus F) b:=λd s2 b z=>(aj b).mpr ((give_S.mp z).imp id (s2 b))
 let w:∀{U:Ow},bR U x=Uj->Σd:Pr,(∀b,d b->F b)/\Tr K H (Sg (g.give d i)) x.2 U v d/\(∀b,F' b->¬d b):=λ{U} m=>by
  let⟨d,a1,a2⟩:=VR1.fit m mm hF (λb z=>z) vr;rwa[d,a1,a2 _ λb z=>?_,λb z1 z2=>by have:=f.lab b z1;rw[hF b (a1 b z2)] at this;cases this];show(give_S.mp z).elim (λz=>.inr (.inl z)) λz=>.inr (.inr (.inl z))
 let u:∀{A:HO} {d:Pr},(∀b,d b->F b)->SE K (g.give d i) (Z.set i (B ⟨Uk,k,up (.nd hd' ds')⟩)) Y (upd H a A)->O.nx Y (upd H a A):=λ{A d} s2 s=>q Y _ _ (X.give s2 f.own) s PinOk.refl;delta ow at c
 .ext c c
  .ext1 z;ext c c
   .ext1 j E;ext c c
    .ext1 m;ext c;let⟨d,b1,b2,b3⟩:=w m;let ho:o=.lst xs:=f.ok;let l:=f.kids.len;let T:j<ds.length:=(nK E).2.1;let⟨P,R,I⟩:=(f.kids.go (λJ J J e=>e) λb o J n z=>n (p d b1 b z)).setAt T b2 b3;show .inl #[z,j,rfl,W.int,ho,f.at_,by rw[l];show E,u b1 (f.put (.lst (xs.set j v)) .lst _ _ d P rfl rfl (λxs h=>by ext h) b1 R I)]
    .ext c
   .ext c
  .ext c
 .ext1 t C;ext c c
  .ext1 kk hk;ext c c
   .ext1 M;let l:=f.kids.len;let⟨p1,p2⟩:=vn f.at_ f.ok hk W M.1 (by rw[l];show Qn M.2 (aO (Qe _)));ext c c
    .ext1 j E;ext c c
     .ext1 m;ext c;let⟨A,Q,N⟩:=p1 j E m.2.1;let⟨d,b1,b2,b3⟩:=w m.1;let⟨P,R,I⟩:=(f.kids.go (λJ J J e=>e) λb o J n z=>n (p d b1 b z)).setAt m.2.2 b2 b3;show .inr #[#[t,C,rfl],_,Q,λe=>u b1 (f.put (A e) (.dic t C) _ _ d P rfl (N e).2 (N e).1 b1 R I)]
     .ext c
    .ext1 E;ext c c
     .ext1 m;ext c;let⟨A,Q,N⟩:=p2 E;let⟨d,b1,b2,b3⟩:=w m.2;let I:=TrL.snoc2 m.1 (f.kids.go (λJ J J e=>e) λb o J n z=>n (p d b1 b z)) b2 b3;show .inr #[#[t,C,rfl],_,Q,λe=>u b1 (f.put (A e) (.dic t (C++[kk])) _ _ d _ rfl (N e).2 (N e).1 b1 (λb z=>z) I)]
     .ext c
   .ext c
  .ext c
 .ext c
def LB(O:aq X Γ c){f:Ro->MR}(hf:bK X f e)(hp:mq X i fp b)(hk:SndE X fk k)(hc:eP k=Uj)(hn:fJ e=Uj):c4 X pn (λZ=>zH i fp fk (f Z)) (.Assign [.Subscript b k sp] e pos):=by
 intro Z r h g Y H Dn se q;dsimp only[zH] at h;ext h h
 .ext1 kd d E he;generalize ep:fp E=P at h;generalize ek:fk E=Yq at h;generalize ei:E[i]?=S at h
  obtain _|⟨_|⟨es,r0⟩,_|_|_|_|_|⟨U,ds⟩,up⟩:=P<;>try cases h
  obtain _|⟨kx,dx⟩:=Yq<;>try cases h
  obtain _|_|⟨_|_,kk,d0⟩:=S<;>try cases h
  .cbv at h;ext h h
   .ext1 hg hh R;ext h
    let mu:U.mu=Uj:=by
     cases U with
     |tup=>simp[ow] at R
     |_=>rfl
    let M:∀v m C F,Evo g H m C F->SE X.K (m.plus F) E Y C->VR1 X.K C m F kd d v F->∀T x w N Q V,Same C x->E[i]?=B (B #[Uk,Q,V])->Y[i]?=B (B w)->(∀b,N b->(m.plus F) b=B (B i))->FP X.K x (Sg (m.plus F)) Q w N (.own es r0) (.nd U ds) T up->∀y u,Same x u->VR X.K (m.plus F) x u kx dx y->
      Σa o I W,T=.ref a/\og X.K u m F E Y i kk es r0 U ds up a o I W/\((Σz j,U=.lst/\y=.int z/\o=.lst I/\u a=B o/\jY I.length z=B j/\Dn.nx Y (upd u a (.lst (I.set j v))))\/((Σt ks,U=.dic t ks)/\ΣF4,DPut u a y v F4/\∀e,Dn.nx Y (F4 e))):=by
     intro v m C F D l vr T x w N Q V s2 s ew lb A y u s3 ry;rw[ei] at s;ext s;let sY:=s2.trans s3;let ha:=l.same sY;let hb:Evo g H m u F:=#[λb o n e=>sY _ _ (D.keep b o n e),D.out,D.new,D.tmp,λb o e=>let ⟨o',q1⟩:=D.dom b o e;#[o',sY _ _ q1]];let⟨a,o,I,W,rfl,nd⟩:=FP.node ha (λb z=>(D.tmp b z).1) ei ew lb (A.same s3) mu;rwa[a,o,I,W,rfl,nd,zI R nd hb ha ((vr.im l.mu).go sY λL L L z=>z) ry.rd q]
    cases U with
    |lst=>
     show cm (rR aC (F9 aC aC yx (by intro v;cases k<;>first|rfl|cases hc)) xl Dp) ?_
     show hf Z _ _ _ he g Y H _ se λv m C F D l vr=>hp E _ _ _ ep (m.plus F) Y C _ l λT x w N Q V s2 s ew lb A=>hk E _ _ ek (m.plus F) Y x _ (l.same s2) λy u s3 ry=>?_;let⟨a,o,I,W,rfl,nd,p⟩:=M v m C F D l vr T x w N Q V s2 s ew lb A y u s3 ry;rcases p with⟨z,j,_,rfl,rfl,g3,hj,p⟩|⟨⟨t,ks,z⟩,_⟩
     .rwa[a,I,z,j,rfl,rfl,g3,hj,p]
     .ext z
    |dic t ks=>
     show cm (Cg (by have:=O.tab.units;lia) aC aC aC (kF hn)) ?_;show hf Z _ _ _ he g Y H _ se λv m C F D l vr=>hp E _ _ _ ep (m.plus F) Y C _ l λT x w N Q V s2 s ew lb A=>hk E _ _ ek (m.plus F) Y x _ (l.same s2) λy u s3 ry=>?_;let⟨a,o,I,W,rfl,nd,p⟩:=M v m C F D l vr T x w N Q V s2 s ew lb A y u s3 ry;rcases p with⟨z,j,zz,_⟩|⟨_,H4,d1,p⟩
     .ext zz
     .rwa[a,H4,rfl,d1,p]
    |tup=>ext mu
    |obj c ns=>simp[ow] at R
   .ext h
 .ext h
theorem TrL.snocG:∀{ds:-D} {es:-Ow} {r:Ow} {us:-V} {F F2:Pr} {d:D} {v:V},TrL K H S ds es r us F->Tr K H S d (es.getD ds.length r) v F2->(∀b,F b->¬F2 b)->TrL K H S (ds++[d]) es r (us++[v]) (λb=>F b\/F2 b)
 |[],es,r,us,F,F2,d,v,h,t,dj=>by
  unfold TrL at h;let⟨rfl,g⟩:=h;delta TrL
  rwa[v,[],F2,λZ=>False,rfl,λb=>#[λz=>z.elim (λz=>absurd z (g b)) .inl,λz=>z.elim .inr λz=>z.elim],λZ Z z=>z,by cases es<;>simpa using t,?_]
  delta TrL;rwa[rfl,λZ z=>z]
 |d0::ds,es,r,us,F,F2,d,v,h,t,dj=>by
  unfold TrL at h;let⟨y,j,m,Fr,rfl,a,f,l,k⟩:=h
  let i:es.getD (d0::ds).length r=es.tail.getD ds.length r:=by cases es<;>simp
  rw[i] at t;have:=TrL.snocG k t λb e c=>dj b ((a b).mpr (.inr e)) c;delta TrL;rwa[y,j++[v],m,λb=>Fr b\/F2 b,rfl,λb=>#[λz=>z.elim (λz=>((a b).mp z).imp id .inl) λz=>.inr (.inr z),λz=>z.elim (λz=>.inl ((a b).mpr (.inl z))) λz=>z.imp (λz=>(a b).mpr (.inr z)) id],λb e c=>c.elim (f b e) λc=>dj b ((a b).mpr (.inl e)) c,l,this]
theorem vo:∀{ns:-Str} {xs:-V} {j:Nat},a9 f ns=B j->ns.length=xs.length->putF f v (ns.zip xs)=ns.zip (xs.set j v)
 |[],_,_,h,_=>by ext h
 |_::_,[],_,_,l=>by ext l
 |n::ns,x::xs,j,h,l=>by
  unfold a9 at h;rw[RM];delta putF;ext h h
  .ext1 a;ext h;rw[if_pos a.symm];rfl
  .ext1 a;let⟨c,b,rfl⟩:=bI h;rw[if_neg (Ne.symm a),SK,RM,vo b ↥l]
theorem qz{f:Str}{v:V}:∀{ns:-Str} {xs:-V},a9 f ns=L->ns.length=xs.length->putF f v (ns.zip xs)=(ns++[f]).zip (xs++[v])
 |[],[],_,_=>rfl
 |[],_::_,_,l=>by ext l
 |_::_,[],_,l=>by ext l
 |n::ns,x::xs,h,l=>by
  unfold a9 at h;rw[RM];delta putF;ext h h
  .ext h
  .ext1 a
   rw[if_neg (Ne.symm a),Rs,Rs,RM,qz (by cases q:a9 f ns with|none=>rfl|some z=>rw[q] at h;ext h) ↥l]
def LC(es:-Ow)(r:Ow)(ns:-Str)(ds:-D)(f:Str)(x:KD):@&(-Str×-D):=match a9 f ns with
 |some j=>if bR (es.getD j r) x=Uj/\j<ds.length/\ds.length<900 then B (ns,ds.set j x.2) else L
 |none=>if bR (es.getD ds.length r) x=Uj/\ds.length<900 then B (ns++[f],ds++[x.2]) else L
def zJ(i:Nat)(c f:Str)(O:Ro->@&(Ow×D×(D->D)))(a:MR):@&Res:=match a with
 |some (kd,d,Z1)=>(match O Z1,Z1[i]? with
  |some (.own es r,.nd (.obj c' ns) ds,up),B (B ⟨Uk,k,_⟩)=>if c'=c then(match LC es r ns ds f (dW kd d,d) with
   |some (ns',ds')=>B (.nx (Z1.set i (B #[Uk,k,up (.nd (.obj c ns') ds')])))
   |none=>L) else L
  |_,_=>L)
 |none=>L
def HJ{f:Ro->MR}{i:Nat}{fp:Ro->@&(Ow×D×(D->D))}{b e:Uo}{c z:Str}{sp pos:Pos}(hg:∀C,QX X.K UB c=B (B (.ref C))->Cls X.K C/\NoAttr X.K C z)(hf:bK X f e)(hp:mq X i fp b)
  (hs:swapsWith e (B (.Attribute b z sp)) pos.line X.env=pure Uk):c4 X pn (λZ=>zJ i c z fp (f Z)) (.Assign [.Attribute b z sp] e pos):=by
 intro Z r h g Y H Dn se q;dsimp only[zJ] at h;ext h h
 .ext1 kd d Z1 he;generalize ep:fp Z1=P at h;generalize ei:Z1[i]?=S at h
  obtain _|⟨_|⟨es,r0⟩,_|_|_|_|_|⟨_|_|_|⟨c',ns⟩,ds⟩,up⟩:=P<;>try cases h
  obtain _|_|⟨_|_,kk,d0⟩:=S<;>try cases h
  .cbv at h;ext h h
   .ext1 hc;subst hc;ext h h
    .ext1 ha hb l;ext h;show cm (Gr aC aC hs) ?_;show hf Z _ _ _ he g Y H _ se λv p H1 F u t vr=>hp Z1 _ _ _ ep (p.plus F) Y H1 _ t λv1 I w Fi k' d' s2 Q ew lb hd=>?_;rw[ei] at Q;ext Q;let N:=t.same s2;let O:Evo g H p I F:=#[λb o n e=>s2 _ _ (u.keep b o n e),u.out,u.new,u.tmp,λb o e=>let ⟨V,q1⟩:=u.dom b o e;#[V,s2 _ _ q1]];let⟨a,o,U,F',rfl,m⟩:=FP.node N (λb z=>(u.tmp b z).1) ei ew lb hd rfl;obtain⟨C,W,hC,⟨cl,na⟩,ho,T⟩:=m.ok;subst ho;let hF:∀b,F b->p b=L:=λb z=>(O.tmp b z).1;let mm:MuOk I (Sx p F):=λb z=>N.mu b ((aj b).mpr z);let A:∀(k:Pr),(∀b,k b->F b)->∀b,Sg (p.give k i) b->Sg (p.plus F) b:=λk s2 b z=>(aj b).mpr ((give_S.mp z).imp id (s2 b));let hi:=(vr.im t.mu).go s2 λJ J J z=>z
     let R:∀{kc:Ow},bR kc (dW kd d,d)=Uj->Σk:Pr,(∀b,k b->F b)/\Tr X.K I (Sg (p.give k i)) d kc v k/\(∀b,F' b->¬k b):=λ{kc} hf=>by
      let⟨k,a1,a2⟩:=VR1.fit hf mm hF (λb z=>z) hi;rwa[k,a1,a2 _ λb z=>?_,λb z1 z2=>by have:=m.lab b z1;rw[hF b (a1 b z2)] at this;cases this];show(give_S.mp z).elim (λz=>.inr (.inl z)) λz=>.inr (.inr (.inl z))
     let E:∀{V:HO} {k:Pr},(∀b,k b->F b)->SE X.K (p.give k i) (Z1.set i (B ⟨Uk,kk,up (.nd (.obj c' ha) hb)⟩)) Y (upd I a V)->Dn.nx Y (upd I a V):=λ{V k} s2 s=>q Y _ _ (O.give s2 m.own) s PinOk.refl;let M:=m.kids.len;let hz:(ns.zip U).length=ds.length:=by rw[List.length_zip,T,M,Nat.min_self]
     let⟨hm,nz⟩:=hg C hC;delta LC at l
     .ext1 j hj;ext l l
      .ext1 x;ext l;let⟨k,b1,b2,b3⟩:=R x.1;let⟨F3,c1,c2⟩:=(m.kids.go (λJ J J e=>e) λb o J n z=>n (A k b1 b z)).setAt x.2.1 b2 b3;rwa[a,C,W,ns.zip U,rfl,m.at_,cl,nz,by rw[hz];have:=x.2.2;lia,?_];rw[vo hj T];show E b1 (m.put _ (.obj c' ns) _ _ k F3 rfl #[C,W,hC,#[cl,na],rfl,by rw[Ru];show T] (λU h=>by ext h) b1 c1 c2)
      .ext l
     .ext1 hj;ext l l
      .ext1 x;ext l;let⟨k,b1,b2,b3⟩:=R x.1;let c2:=TrL.snocG (m.kids.go (λJ J J e=>e) λb o J n z=>n (A k b1 b z)) b2 b3;rwa[a,C,W,ns.zip U,rfl,m.at_,cl,nz,by rw[hz];have:=x.2;lia,?_];rw[qz hj T];show E b1 (m.put _ (.obj c' (ns++[z])) _ _ k _ rfl #[C,W,hC,#[cl,λy hy=>(Qp.mp hy).elim (na y) λhy=>by rw[Qs.mp hy];show nz],rfl,by rw[Qz,Qz,T];rfl] (λU h=>by ext h) b1 (λb z=>z) c2)
      .ext l
    .ext h
   .ext h
 .ext h
end
mutual
inductive IS where
 |asg (i:Nat) (a:ME)
 |unp (is:-Nat) (a:ME)
 |aug (i:Nat) (op:UD) (a:ME)
 |put (b:BP) (k:IE) (a:ME)
 |putF (c:Str) (b:BP) (f:Str) (a:ME)
 |ret (a:ME)
 |ifs (t:MT) (a b:bq)
 |fo (fg:-Nat) (tg:IT) (it:MI) (b:bq)
 |wh (fg:-Nat) (t:MT) (b:bq)
 |pas
 |exp (a:ME)
 |pre (is:-Nat) (s:IS)
 |stk
inductive bq where
 |nil
 |cons (s:IS) (r:bq)
end
mutual
def mw(Γ:GG)(N:Nat):IS->-Nat->Ro->@&Res
 |.asg i a,pn,Z=>fv pn i (bT Γ a Z)
 |.unp is a,pn,Z=>Dh pn is (bT Γ a Z)
 |.aug i op a,pn,Z=>Dm pn i op Z[i]? (bT Γ a Z)
 |.put b k a,_,Z=>zH b.slot (xh Γ.fn b) (aa Γ.fn k) (bT Γ a Z)
 |.putF c b f a,_,Z=>zJ b.slot c f (xh Γ.fn b) (bT Γ a Z)
 |.ret a,_,Z=>tF (bT Γ a Z)
 |.ifs t a b,pn,Z=>Di (oj Γ t Z) (ao Γ N a pn) (ao Γ N b pn)
 |.fo fg tg it b,pn,Z=>m5 pn fg tg (ao Γ N b) (qm Γ it Z)
 |.wh fg t b,pn,Z=>kj fg (oj Γ t) (ao Γ N b pn) N Z
 |.pas,_,Z=>B (.nx Z)
 |.exp a,_,Z=>xj (bT Γ a Z)
 |.pre is s,pn,Z=>mw Γ N s pn (frzN is Z)
 |.stk,_,_=>L
def ao(Γ:GG)(N:Nat):bq->-Nat->Ro->@&Res
 |.nil,_,Z=>B (.nx Z)
 |.cons s r,pn,Z=>cq (mw Γ N s pn Z) (ao Γ N r pn)
end
section
theorem Dq:mw Γ N (.asg i a) pn Z=fv pn i (bT Γ a Z):=rfl
theorem Dr:mw Γ N (.unp is a) pn Z=Dh pn is (bT Γ a Z):=rfl
theorem Dt:mw Γ N (.aug i op a) pn Z=Dm pn i op Z[i]? (bT Γ a Z):=rfl
theorem Du{Γ:GG}:mw Γ N (.put b k a) z0 Z=zH b.slot (xh Γ.fn b) (aa Γ.fn k) (bT Γ a Z):=rfl
theorem Dv:mw Γ N (.ret a) z0 Z=tF (bT Γ a Z):=rfl
theorem vp:mw Γ N (.ifs t a b) pn Z=Di (oj Γ t Z) (ao Γ N a pn) (ao Γ N b pn):=rfl
theorem HK:mw Γ N (.fo fg tg it b) pn Z=m5 pn fg tg (ao Γ N b) (qm Γ it Z):=rfl
theorem HL:mw Γ N (.wh fg t b) pn Z=kj fg (oj Γ t) (ao Γ N b pn) N Z:=rfl
theorem Dw:mw Γ N (.pre is s) pn Z=mw Γ N s pn (frzN is Z):=rfl
theorem Dx:mw Γ N (.exp a) z0 Z=xj (bT Γ a Z):=rfl
end
theorem Og{f:Ro->@&Res}(h:∀Z,f Z=L):c4 X pn f e:=λZ r a=>by rw[h] at a;ext a
structure An where
 fg:Nat->-Nat:=λZ=>[]
 pz:Nat->-Nat:=λZ=>[]
 sk:Nat->Bool:=λZ=>Uk
meta def tH(f:Uw->@&IS):-Uw->@&bq
 |[]=>B .nil
 |s::r=>match f s,tH f r with|some a,B b=>B (.cons a b)|_,_=>L
meta def ER(l:-Nat)(s:@&IS):@&IS:=match l,s with
 |[],s=>s
 |l,B s=>B (.pre l s)
 |_,L=>L
meta def tI:Uw->Nat
 |.Assign _ _ p=>p.line
 |.AugAssign _ _ _ p=>p.line
 |.Return _ p=>p.line
 |.Expr _ p=>p.line
 |.If _ _ _ p=>p.line
 |.For _ _ _ _ p=>p.line
 |.While _ _ _ p=>p.line
 |.Raise _ _ p=>p.line
 |.Try _ _ _ _ p=>p.line
 |.Delete _ p=>p.line
 |_=>0
meta def vq:Uo->Bool
 |.ListComp _ gs _ _=>(match gs with|[]=>Uk|g::gs=>(match gs with|[]=>g.is_async==0|_::_=>Uk))
 |_=>Uk
meta def ES:Uo->Bool
 |.Constant (.str _) _ _=>Uj
 |_=>Uk
meta def ET(f:Str):-(Str×-Str)->@&Str
 |[]=>L
 |(c,fs)::r=>if f∈fs then B c else ET f r
def EU(fns:Nms)(f:Str):@&Str:=match ET f fns.cls with
 |some c=>(match fns.cls.lookup c with|some fs=>if f∈fs then B c else L|none=>L)
 |none=>L
def JB(fns:Nms)(m:Nat)(c:Cz)(ts:-Uo)(e:Uo):@&IS:=match ts with
 |[]=>L
 |t::ts=>match ts with
  |_::_=>L
  |[]=>match t with
   |.Name x _=>if mf c x&&(fJ e||vq e) then(match a9 x c.N,cM fns (m+1) c e with|some i,B a=>B (.asg i a)|_,_=>L) else L
   |.Tuple es _ _=>if zy e then(match zA c es,cM fns (m+1) c e with|some is,B a=>B (.unp is a)|_,_=>L) else L
   |.Subscript b k _=>if eP k&&fJ e then(match EM c (cE fns (m+1) c) 6 b,cE fns (m+1) c k,cM fns (m+1) c e with|some b,B k,B a=>B (.put b k a)|_,_,_=>L) else L
   |.Attribute b z _=>if fJ e then(match EU fns z,EM c (cE fns (m+1) c) 6 b,cM fns (m+1) c e with|some cl,B b,B a=>B (.putF cl b z a)|_,_,_=>L) else L
   |_=>L
def Oh(fns:Nms)(m:Nat)(c:Cz)(t:Uo)(op:UD)(e:Uo):@&IS:=match t with
 |.Name x _=>if mf c x then(match a9 x c.N,cM fns (m+1) c e with|some i,B a=>B (.aug i op a)|_,_=>L) else L
 |_=>L
def Pf(fns:Nms)(an:An)(m:Nat)(c:Cz)(R:-Uw->@&bq)(tg iter:Uo)(body O:-Uw)(p:Pos):@&IS:=match O with
 |_::_=>L
 |[]=>if dB iter then(match n5 c 4 tg,zu (Hc c (cE fns (m+1) c) tg iter),R body with|some t,B it,B b=>B (.fo (an.fg p.line) t it b)|_,_,_=>L) else L
def JC(fns:Nms)(an:An)(m:Nat)(c:Cz)(O:-Uw->@&bq):Uw->@&IS
 |.Assign ts e _=>JB fns m c ts e
 |.AugAssign t op e _=>Oh fns m c t op e
 |.Return e _=>(match e with|some e=>(cM fns (m+1) c e).map .ret|none=>L)
 |.Expr e _=>if ES e then B .pas else if fJ e then(cM fns (m+1) c e).map .exp else L
 |.If t a b _=>(match N9 fns (m+1) c t,O a,O b with|some t,B a,B b=>B (.ifs t a b)|_,_,_=>L)
 |.For tg iter body els p=>Pf fns an m c O tg iter body els p
 |.While t body els p=>(match els with|_::_=>L|[]=>(match N9 fns (m+1) c t,O body with|some t,B b=>B (.wh (an.fg p.line) t b)|_,_=>L))
 |.Pass _=>B .pas
 |_=>L
def cS(fns:Nms)(an:An)(m:Nat)(c:Cz):Nat->Uw->@&IS
 |0,_=>L
 |n+1,s=>if an.sk (tI s)=Uj then B .stk else ER (an.pz (tI s)) (JC fns an m c (tH (cS fns an m c n)) s)
abbrev cB(fns:Nms)(an:An)(m:Nat)(c:Cz)(n:Nat):-Uw->@&bq:=tH (cS fns an m c n)
section
variable {X:Cx} {c:Cz} (fns:Nms) (Γ:GG)
theorem xm:Σb:Bool,swapsWith (.ListComp elt [#[tg,iter,ifs,0]] scope cp) (B (.Name x p)) n env=pure b:=#[_,rfl]
def HM(O:aq X (ba fns Γ) c){m i:Nat}(hl:mf c x=Uj)(hi:a9 x c.N=B i)(hc:vq e=Uj)(ha:cM fns (m+1) c e=B a):c4 X pn (λZ=>fv pn i (bT Γ a Z)) (.Assign [.Name x p] e pos):=by
 let hs:Σo R j n f P,e=.ListComp o [#[R,j,n,0]] f P:=by
  cases e with
  |ListComp o gs f P=>cases gs with
   |nil=>ext hc
   |cons g gs=>cases gs with
    |cons _ _=>ext hc
    |nil=>
     cases g with
     |mk R j n as=>
      let h0:as=0:=eq_of_beq (hc);subst h0;rwa[_,_,_,_,_,_,rfl]
  |_=>ext hc
 let⟨o,R,j,n,f,P,rfl⟩:=hs;let l:=ji O hl;let hf:=(lI fns Γ (m+1)).1 X c O _ _ ha;intro Z r h g Y H Dn se q
 cases k:bT Γ a Z with
 |none=>cbv at h;rw[k] at h;ext h
 |some w=>
  let⟨kd,d,Z1⟩:=w;cbv at h;rw[k] at h;let⟨b,hb⟩:=xm
  cases b with
  |false=>show cm (rS (by rw[O.N];show O.nd) (by rw[O.N];show aP hi) l.1 aC hb l.2) (hf Z kd d Z1 k g Y H _ se λv g1 H1 F ev W vr=>iK h q ev W vr)
  |true=>
   let hj:∀{hck:bb c f=Uj} {hns:dB j=Uj},ja (wI X R j) (λv Y H Q=>∀C s M y,wG (ai X (ae f) f C s M y) R v Y H Q) (λY H Q=>∀C s M y,G9 (ai X (ae f) f C s M y) n Y H Q) (λY H Q=>∀C s M y,wE (ai X (ae f) f C s M y) o Y H Q) (aA c f) Y H (λv H1=>hV i v Y H1 Dn.nx)->MW X (.Assign [.Name x p] (.ListComp o [#[R,j,n,0]] f P) pos) Dn Y H:=λ{hck hns} ht=>
    cm (yL O.calm (dA O hck) wX
     (λC s M y D s' Y' S v u Q' I r hh=>wY D s' Y' S v u Q' I r (hh C s M y)) (λC s M y D s' Y' S Q' I hh=>hh C s M y D s' I) (λC s M y D s' Y' S Q' I hh=>hh C s M y D s' I) (dh hns)
     (by rw[O.N];show O.nd) (by rw[O.N];show aP hi) l.1 l.2 hb) ht
   let U:∀v g' S F,Evo g H g' S F->SE X.K (g'.plus F) Z1 Y S->VR1 X.K S g' F kd d v F->hV i v Y S Dn.nx:=λv g1 H1 F ev W vr=>iK h q ev W vr
   cases T:cE fns m c (.ListComp o [#[R,j,n,0]] f P) with
   |some ie=>
    let hd:B (ME.p ie)=B a:=by rw[<- ha];change _=(match cE fns m c _ with|some ie=>B (ME.p ie)|none=>_);rw[T]
    ext hd
    cases m with
    |zero=>cases(T)
    |succ m=>
     let A:Lf fns c (cE fns m) (cT fns m) o [#[R,j,n,0]] f P=B ie:=T;unfold Lf at A;cbv at A;rw[if_pos rfl] at A;ext A A
     .ext1 hn;rw[Qd] at hn;ext A A
      .ext1 t it ts el ht hit hg V;ext A;let E:=cC (fm:=qp fns Γ) fns Γ.fn m;let CO:=dc O hn.2
       let hv:aa Γ.fn (.comp ((fns.an P.line P.col).getD Ow.fz) (aA c f) t it ts el) Z=B (kd,d)/\Z1=Z:=by
        rw[zt] at k;delta MQ at k
        .ext1 e';ext k;rwa[e',rfl]
        .ext k
       let⟨hv,rfl⟩:=hv;rw[pY] at hv
       show hj (hck:=hn.2) (hns:=hn.1) (y7 O hn.2 (uV fns Γ.fn O (E.1 X c O) hit) ht (λC s H y=>uX Γ.fn (E.2 _ _ (CO C s H y)) hg) (λC s H y=>E.1 _ _ (CO C s H y) _ _ V) hv se λv S s ⟨F,h1,h2⟩=>
        U v g S F (cW s h1 λb z=>eQ se.mu (h1 b z)) (se.plus s h1 h2.dom) h2)
      .ext A
     .ext A
   |none=>
    let hd:zw fns c (cM fns m) (cE fns m) o [#[R,j,n,0]] f P=B a:=by
     replace ha:(match cE fns m c (.ListComp o [#[R,j,n,0]] f P) with|some ie=>B (ME.p ie)|none=>zw fns c (cM fns m) (cE fns m) o [#[R,j,n,0]] f P)=B a:=ha
     rw[T] at ha;show ha
    let⟨hr,ho,hp,t,it,ts,el,hq,hm,he,ht,hit,hg,V,rfl⟩:=ve fns hd;ext hq;let E:=cC (fm:=qp fns Γ) fns Γ.fn m;let CO:=dc O he;rw[qo] at k
    first|(cases k;done)|show hj (hck:=he) (hns:=hm) (u9 O he (tz fns Γ O (E.1 X c O) hit) ht (λC s H y=>qr Γ hg) (λC s H y=>(lI fns Γ m).1 _ _ (CO C s H y) _ _ V) k se U)
theorem dF{f:Uw->@&IS}(c:∀s a,f s=B a->∀pn,c4 X pn (mw Γ N a pn) s):∀{st:-Uw} {b:bq},tH f st=B b->∀pn,aW X pn (ao Γ N b pn) st
 |[],b,h,pn=>by
  ext h;show Lv
 |s::st,b,h,pn=>by
  delta tH at h
  .ext1 a r d e;ext h;show HF (c s a d pn) (dF c e pn)
  .ext h
def Oi(O:aq X (ba fns Γ) c){m N:Nat}{ts:-Uo}{e:Uo}{pos:Pos}{a:IS}(h:JB fns m c ts e=B a)(pn:-Nat):c4 X pn (mw Γ N a pn) (.Assign ts e pos):=by
 let l:=(lI fns Γ (m+1)).1 X c O;let o:=(cC fns Γ.fn (m+1)).1 X c O
 cases ts with
 |nil=>ext h
 |cons t ts=>cases ts with
  |cons _ _=>ext h
  |nil=>cases t with
   |Name x p=>
    dsimp only[JB] at h;ext h h
    .ext1 n;rw[Qd,Rn] at n;ext h h
     .ext1 i j y f;ext h;rw[show mw Γ N (.asg i j) pn=λZ=>fv pn i (bT Γ j Z) from funext λY=>rfl];obtain q|q:=n.2
      .show vf O n.1 y q (l _ _ f)
      .show HM fns Γ O n.1 y q f
     .ext h
    .ext h
   |Tuple M k p=>
    dsimp only[JB] at h;ext h h
    .ext1 g;ext h h
     .ext1 P j v f;ext h;show Lr O (l _ _ f) v g
     .ext h
    .ext h
   |Subscript b k p=>
    dsimp only[JB] at h;ext h h
    .ext1 g;rw[Qd] at g;ext h h
     .ext1 E Q j u hk f;ext h;show LB O (l _ _ f) (xi Γ O o _ u) (o _ _ hk) g.1 g.2
     .ext h
    .ext h
   |Attribute b z p=>
    dsimp only[JB] at h;ext h h
    .ext1 g;ext h h
     .ext1 w E j d u f;ext h
      let r:∀C,QX X.K UB w=B (B (.ref C))->Cls X.K C/\NoAttr X.K C z:=λC H=>by
       delta EU at d
       .ext d d
        .ext1 F s;ext d d
         .ext1 D;ext d;let⟨I,A⟩:=O.tab.cf w F C s H;rwa[I,A z D]
         .ext d
        .ext d
       .ext d
      show HJ r (l _ _ f) (xi Γ O o _ u) (kF g)
     .ext h
    .ext h
   |_=>ext h
def Oj(O:aq X (ba fns Γ) c)(h:Oh fns m c t op e=B a)(pn:-Nat):c4 X pn (mw Γ N a pn) (.AugAssign t op e pos):=by
 let d:=(lI fns Γ (m+1)).1 X c O
 cases t with
 |Name x p=>
  dsimp only[Oh] at h;ext h h
  .ext1 f;ext h h
   .ext1 i j b g;ext h;show LA O f b (d _ _ g)
   .ext h
  .ext h
 |_=>ext h
theorem gC(O:aq X (ba fns Γ) c)(p:PassesOwn (Ut X.prog X.w) X.A X.env X.xe):∀(n:Nat) {s:Uw} {a:IS},cS fns an m c n s=B a->∀pn,c4 X pn (mw Γ N a pn) s
 |0,s,a,h,pn=>by ext h
 |n+1,s,a,h,pn=>by
  let C:=(lI fns Γ (m+1)).1 X c O;let v:=(lI fns Γ (m+1)).2 X c O;let I:=(cC fns Γ.fn (m+1)).1 X c O;let o:∀{D:-Uw} {b:bq},tH (cS fns an m c n) D=B b->∀pn,aW X pn (ao Γ N b pn) D:=λh=>dF Γ (λs a h=>gC O p n h) h
  let f:∀{a:IS},JC fns an m c (tH (cS fns an m c n)) s=B a->c4 X pn (mw Γ N a pn) s:=λ{a} h=>by
   cases s with
   |Assign P e d=>show Oi fns Γ O h pn
   |AugAssign t M e d=>show Oj fns Γ O h pn
   |Return e d=>cases e with
    |some e=>
     let⟨q,i,rfl⟩:=bI (h);show EO (C _ _ i)
    |none=>ext h
   |Expr e d=>
    dsimp only[JC] at h;ext h h
    .ext1 u;ext h;rw[show mw Γ N .pas pn=λZ=>B (.nx Z) from funext λY=>rfl];delta ES at u
     .show Ls
     .ext u
    .ext h h
     .ext1 r;let⟨q,i,rfl⟩:=bI h;show zB r (C _ _ i)
     .ext h
   |If t x y d=>
    dsimp only[JC] at h;ext h h
    .ext1 F q E j i l;ext h;show Lu (v _ _ j) (o i pn) (o l pn)
    .ext h
   |For K z k g d=>cases g with
    |cons _ _=>ext h
    |nil=>
     dsimp only[JC,Pf] at h;ext h h
     .ext1 r;ext h h
      .ext1 F H E j hit l;ext h;show zE O p j (tz fns Γ O I hit) (o l) r
      .ext h
     .ext h
   |While t k g d=>cases g with
    |cons _ _=>ext h
    |nil=>
     dsimp only[JC] at h;ext h h
     .ext1 F E j l;ext h;show Ly p (v _ _ j) (o l pn) N
     .ext h
   |Pass d=>
    ext h;show HG
   |_=>ext h
  unfold cS at h;by_cases hk:an.sk (tI s)=Uj
  .rw[if_pos hk] at h;ext h;show Og λZ=>rfl
  rw[if_neg hk] at h;delta ER at h
  .show f h
  .rename_i q i _;ext h;show Lz _ (f i)
  .ext h
end
end J
namespace L2
open PyProof.Rows
def mx{R:Result->Uq->Prop}{s:Uq}(I:Nat->Uq->Prop)(b:∀n s,I n s->Us (Ut prog w) A (pyNext it) (λr e=>match r with
   |none=>R (.ok .next) e
   |some v=>Us (Ut prog w) A (letOwnedTupleGo target it v) (λZ d=>Us (Ut prog w) A (assign target env v) (λZ l=>
     Us (Ut prog w) A (forIn ifs Uj λc r=>if r=Uj then do let ok <- isTrue c env (eval c env);pure (ForInStep.yield ok) else pure (ForInStep.yield r)) (λok g=>
      if ok=Uj then Us (Ut prog w) A (eval kx env) (λp k=>Us (Ut prog w) A (eval vx env) (λq t=>
       Us (Ut prog w) A (dictSet D p q) (λZ j=>Σm,m<n/\I m j) (λZ Z=>False) t) (λZ Z=>False) k) (λZ Z=>False) g
      else Σm,m<n/\I m g) (λZ Z=>False) l) (λZ Z=>False) d) (λZ Z=>False) e) (λZ Z=>False) s)(n:Nat)(h:I n s) :
  codeAny (Ut prog w) A (.compLoop (.DictComp kx vx [#[target,iter,ifs,0]] scope pos) 0 it (.ref D) env) R s:=by
 show codeAny_loop rfl I (λn s x=>?_) n h;show wpAny_noted ?_;rw[compTurn_dict];show Ul (wpAny_standAt (Ul (wpAny_mono (b n s x) (λr e i=>?_) λZ Z a=>a.elim)))
 cases r with
 |none=>show Ur i
 |some v=>
  show Ul (wpAny_mono i (λZ d f=>?_) λZ Z a=>a.elim);show Ul (wpAny_mono f (λZ l u=>Ul (wpAny_mono u (λok g o=>?_) λZ Z a=>a.elim)) λZ Z a=>a.elim)
  cases ok with
  |false=>show Ur #[rfl,o]
  |true=>
   show Ul (Ul (wpAny_mono o (λp k z=>Ul (UF (wpAny_mono z (λq t C=>Ul (wpAny_standAt (UF (wpAny_mono C (λZ j y=>Ur #[rfl,y]) λZ Z a=>a.elim)))) λZ Z a=>a.elim))) λZ Z a=>a.elim))
section
variable {X:Cx} {pins:-(Up×Obj)} {Y:St} {H:Hp} {s:Uq}
def xn{A:Uy}{F:Nat->Hp}{Q:Unit->Uq->Prop}(U:A.units+9<cLine)(I:Inv X pins Y H s)(g:DPut H a y v F)(C:RelV y u)(O:RelV v r)(h:∀e s',Inv X pins Y (F e) s'->Q () s') :
  Us (Ut X.prog X.w) A (dictSet a u r) Q E s:=by
 rcases g with⟨d,k,e,o,l,p⟩|⟨m,N,d,k,b,e,o,K,l,p⟩
 .subst o p;let⟨z,x,R,f,n⟩:=Ey I.hok e;let Z:R.length<=sizeLine:=by rw[<- f.length];show z
  let t:(cR d k v).length<=sizeLine:=by have:=dJ d k v;lia
  show wpAny_dictSet_pairs (k8 C) n λD i j=>h 0 _ ?_;let he:Σq,D.get? a=B q:=let ⟨q,_,_,hq,_⟩:=i;#[q,hq];show kq I (by rw[e];show True.intro) j he (yC t x (f.put k O) i)
 .subst o p;cases(C);let⟨z,x,W,f,n⟩:=uw I.hok e;let Z:W.length<=sizeLine:=by rw[<- Paired.length f];show z
  let t:(cR d k v).length<=sizeLine:=by have:=dJ d k v;lia
  show wpAny_dictSet_heap (Nat.lt_of_succ_lt U) (eN I.hok K) n λD i j=>?_;let⟨q,P,N,hq,V,T,h4,z_,S⟩:=i;show h N _ ?_;show kq I (by rw[e];show True.intro) j #[q,hq] #[t,x,_,(f.put k K O).keeps λc ys M=>?_,q,P,hq,V,T,h4,S]
  rw[ac (Er M e (λz=>nomatch z))]
  show M
def ox(wi:TI)(g:TG)(tt:TT)(tk te:TE)(o0:HO)(cap:-(@&Nat)):TE:=λY H Q=>wi Y H λJ H1=>∀D,H1 D=L->ΣW:Nat->Nat->St->Hp->Prop,(Σm,W 0 m (cU Y cap) (upd H1 D o0))/\∀i m Y' H',W i m Y' H'->
 (J.stop i H'/\Q (.ref D) H')\/(J.go i H'/\∀x H2,J.yld i H' x H2->g x Y' H2 λO U=>tt O U λok U=>if ok=Uj then tk O U λy H4=>te O H4 λv H5=>ΣF,DPut H5 D y v F/\∀e,ΣR,R<m/\W (i+1) R O (F e) else ΣR,R<m/\W (i+1) R O U)
def m7(hc:X.calm=Uj)(O:fC X N' scope cap)(hi:PI X tg iter wi)(hg:∀C s H ex,PG (ai X N' scope C s H ex) tg g)(ht:∀C s H ex,Cj (ai X N' scope C s H ex) ifs tt)(hk:∀C s H ex,PE (ai X N' scope C s H ex) kx tk)(he:∀C s H ex,PE (ai X N' scope C s H ex) elt te)(ho:o0=.dK []\/Σm,o0=.dT m 0 [])(hu:X.A.units+9<cLine){Q:VK}(I:Inv X pins Y H s)(h:ox wi g tt tk te o0 cap Y H Q)(hs:∀x,foldedSetIterable iter X.env x=pure x)(hX:X.xe=E)(hQ:∀(C D:Up) (s1:Uq) (H1:Hp) (f:-Up) (Y':St) (H':Hp) (s':Uq),Inv X pins Y H1 s1->(∀b∈f,i5 X pins H1 b)->Inv (ai X N' scope C s1 H1 f) [] Y' H' s'->Q (.ref D) H'->
   compPost (Ut X.prog X.w) X.A E use Q' (.ref D) C (.ok .next) s') :
  ⇑X (comprehension (.DictComp kx elt [#[tg,iter,ifs,0]] scope pos) scope X.env cpos newDict Uk (eval iter X.env) use) Q' E s:=by
 let h9:closureFor scope X.env=pure (gg X.env.cells scope.names []):=gr λy hy e=>I.ok.has _ (O.free y hy e);show wpAny_comprehension_free rfl hs h9 O.kind O.names ?_;subst hX;show a8 (hi pins s Y H _ I h) λv s1 h1=>a8 h1 λga s2 h2=>?_;let⟨it,f,tn,J,K,e,I2,T,U,f2,hW⟩:=h2;subst e;show UA (gu ?_);cbv;generalize N:s2.heap.push { cls:=.type "dict",dict:=L,data:=.dict ([].toArray) }=HH;let hd:HH.objs.size=s2⁻¹+1:=by rw[<- N,RE]
 let hw:s2⁻¹<HH.objs.size:=by rw[hd];show Rr _
 generalize P:pushCells (HH.push { cls:=.type "dict",data:=.dict ([].toArray) }) scope.names=h₁;let kp:∀b o,HH.get? b=B o->h₁.get? b=B o:=λb o e=>P▸pushCells_keeps _ _ b o (Qg _ e);let ha:h₁.Ns HH.objs.size λG=>L:=P▸(Heap.Ns.new HH (.type "dict")).keeps (pushCells_keeps _ _)
 let h0:∀x c,(UE (HH.objs.size+1) scope.names []).lookup x=B c->h₁.IsCell c L:=λx c e=>by
  let ok:=cellsFrom_ok scope.names (HH.push { cls:=.type "dict",data:=.dict ([].toArray) }) 0 [] #[λG G hm=>(nomatch hm),List.Pairwise.nil] (QM _)
  rw[RE] at ok;show P▸(ok.empty x c (ce e)).1
 let old:∀b o,s2.heap.get? b=B o->h₁.get? b=B o:=λb o e=>kp b o (N▸Qg _ e)
 let hx:ObjOk X.prog X.w (upd K s2⁻¹ o0) h₁ s2⁻¹ o0:=by
  let h3:=I2.big;let a:(s2⁻¹==sysModules)=Uk:=beq_eq_false_iff_ne.mpr (Ne.symm (Qu h3));let eo:h₁.get? s2⁻¹=B { cls:=.type "dict",data:=.dict ([].toArray) }:=kp _ _ (N▸Qm _ rfl);obtain rfl|⟨m,rfl⟩:=ho
  .rwa[QM _,a,[],.nil,let ⟨q,es,ep,hq,r⟩:=Heap.DictOf.new s2.heap;#[q,es,ep,by rw[eo,<- hq];show(Qm _ rfl).symm,r]]
  .rwa[QM _,a,[],.nil,_,([].toArray),eo,#[rfl,rfl,rfl],rfl,rfl,Ti]
 let hh:∀b∈f,b<s2⁻¹:=λb a=>let ⟨o,e,_⟩:=T.obj 0 _ U b a;Qj e;let R:=I2.hok.fresh (Qe s2⁻¹);obtain⟨W,⟨m0,w0⟩,V⟩:=hW s2⁻¹ R;let J0:=pI (tk:=s2.toks) I2 O f2 hh (by rw[hd];show RN _) (Qe _) hw h0 ha old hx;let hf:tn 0 h₁:=T.keep 0 _ _ U λb G o e=>old b o e
 let h7:∀b∈f,(upd K s2⁻¹ o0) b=L:=λb a=>by
  rw[ac (Qu (hh b a))];show(f2 b a).1
 let j:∀{H':Hp},(∀b∈f,H' b=L)->∀b∈f,i5 (ai X N' scope HH.objs.size s2 K f) [] H' b:=λhn b a=>
  #[hn b a,(J0.ok.exf b a).1,J0.ok.exfs b a,.inl a,(J0.ok.exf b a).2,λp hp=>absurd hp (by simp[ai])]
 let M:codeAny (Ut X.prog X.w) X.A (.compLoop (.DictComp kx elt [⟨tg,iter,ifs,0⟩] scope pos) 0 (.ref it) (.ref s2⁻¹) (compEnvC scope (GD X.env.cells scope.names HH.objs.size) HH.objs.size X.env))
   (compPost (Ut X.prog X.w) X.A X.xe use Q' (.ref s2⁻¹) HH.objs.size) { s2 with heap:=h₁,toks:=s2.toks }:=by
  show mx (λn s'=>Σi Y' H',Inv (ai X N' scope HH.objs.size s2 K f) [] Y' H' s'/\tn i s'.heap/\(∀b∈f,H' b=L)/\W i n Y' H') ?_ m0 #[0,_,_,J0,hf,h7,w0]
  rintro n s3 ⟨i,Y3,H3,I3,Z,hl,w3⟩
  rcases V i n Y3 H3 w3 with⟨hj,qn⟩|⟨go,S⟩
  .show a8 (T.done (ai X N' scope HH.objs.size s2 K f) rfl rfl rfl hc i [] s3 Y3 H3 _ I3 (j hl) Z hj) λr s4 ⟨hr,I4⟩=>?_;subst hr;show hQ _ _ s2 K f Y3 H3 s4 I2 f2 I4 qn
  .show a8 (T.item (ai X N' scope HH.objs.size s2 K f) rfl rfl rfl hc i [] s3 Y3 H3 _ I3 (j hl) Z go) λr s4 ⟨u,hr,h4⟩=>?_;subst hr;show a8 h4 λG s5 z=>?_;let⟨x,H5,I5,r5,y5,k,hv⟩:=z;let h5:=I5.pinned (j hv) (T.obj _ _ k);show a8 (hg _ _ _ _ _ s5 Y3 H5 x u _ h5 r5 (S x H5 y5)) λG s6 z=>?_;let⟨Y6,H6,I6,q6⟩:=z;show a8 (ht _ _ _ _ _ s6 Y6 H6 _ I6 q6) λok h6 z=>?_;let⟨h8,l,t⟩:=z
   cases ok with
   |false=>
    rw[if_neg Qx] at t⊢;let⟨m',hm,w7⟩:=t;rwa[m',hm,i+1,Y6,_,l.unpinned,T.keep _ _ _ k λb a o e=>(l.pin (b,o) (Ql _ (Ql _ (br a e)))).1,λb a=>?_,w7];let⟨o,e,d⟩:=T.obj _ _ k b a;show(l.pin (b,o) (Ql _ (Ql _ (br a e)))).2.1
   |true=>
   rw[if_pos rfl] at t⊢;show a8 (hk _ _ _ _ _ h6 Y6 h8 _ l t) λkv s7 z=>?_;let⟨y,H7,I7,r7,q7⟩:=z;show a8 (he _ _ _ _ _ s7 Y6 H7 _ I7 q7) λvv s8 z=>?_;let⟨v,H8,I8,r8,F,gF,qF⟩:=z;show xn (X:=ai X N' scope HH.objs.size s2 K f) hu I8 gF r7 r8 λe s9 I9=>?_;let⟨m',hm,w7⟩:=qF e;rwa[m',hm,i+1,Y6,_,I9.unpinned,T.keep _ _ _ k λb a o e=>(I9.pin (b,o) (Ql _ (Ql _ (br a e)))).1,λb a=>?_,w7];let⟨o,e,d⟩:=T.obj _ _ k b a;show(I9.pin (b,o) (Ql _ (Ql _ (br a e)))).2.1
 show codeAny_compStart_dict M (T.self _ 0 _ _ _ hf M)
def zK(k:X.calm=Uj)(O:fC X N' scope cap)(hi:PI X tg iter wi)(o:∀C s H ex,PG (ai X N' scope C s H ex) tg g)(j:∀C s H ex,Cj (ai X N' scope C s H ex) ifs tt)(hk:∀C s H ex,PE (ai X N' scope C s H ex) kx tk)(p:∀C s H ex,PE (ai X N' scope C s H ex) elt te)(f:o0=.dK []\/Σm,o0=.dT m 0 [])(l:X.A.units+9<cLine)(c:∀x,foldedSetIterable iter X.env x=pure x:=by intro _;rfl):PE X (.DictComp kx elt [#[tg,iter,ifs,0]] scope pos) (ox wi g tt tk te o0 cap):=by
 intro b s Y H Q I h;show m7 k O hi o j hk p f l I h c rfl λC D s1 w u r n v e i J q=>?_;let⟨m,d,z_⟩:=J.loc;rwa[m,d,λt a=>#[.ref D,n,ij e i J a,rfl,q]]
def zL{cpos pos' pos:Pos}{i:Nat}(U:X.calm=Uj)(O:fC X N' scope cap)(hi:PI X tg iter wi)(hg:∀C s H ex,PG (ai X N' scope C s H ex) tg g)(T:∀C s H ex,Cj (ai X N' scope C s H ex) ifs tt)(hk:∀C s H ex,PE (ai X N' scope C s H ex) kx tk)(he:∀C s H ex,PE (ai X N' scope C s H ex) elt te)(P:o0=.dK []\/Σm,o0=.dT m 0 [])(V:X.A.units+9<cLine)(M:∀x,foldedSetIterable iter X.env x=pure x)(Z:X.N.Nodup)(t:X.N[i]?=B x)(R:Es X.env.scope x)(W:X.fn x=Uj\/X.env.scope.names.lookup x=B .local)(w:swapsWith (.DictComp kx elt [#[tg,iter,ifs,0]] scope cpos) (B (.Name x pos')) pos.line X.env=pure Uj) :
  PS X (.Assign [.Name x pos'] (.DictComp kx elt [#[tg,iter,ifs,0]] scope cpos) pos) (BV (ox wi g tt tk te o0 cap) (hV i)):=by
 intro d s Y H D I h;rw[exec_Assign_Name_used _ _ _ _ w];show Ul (wpAny_standAt (Ul ?_));show Ul (wpAny_mono (m7 U O hi hg T hk he P V I h M rfl λC D1 s1 H1 fp Y' E r j Q J q=>?_) (λL r hq=>Ur (Ur hq)) λL L e=>e);let I2:Inv X d Y E r:=ij j Q J (Heap.SameBut.refl C r.heap);let K:s1⁻¹<=C:=J.ok.above;let old:∀b o,s1.heap.get? b=B o->b≠C:=λb o e=>Qu (Qn (Qj e) K);obtain⟨m1,⟨oL,_,_,F,_⟩,_⟩:=id j.loc;let z:X.env.locals≠C:=old _ _ F
 let k:∀x c,X.env.cells.lookup x=B c->c≠C:=λx c e=>by
  let⟨v,o,g,z_⟩:=j.cell x c e;show old _ _ g
 let n:∀p∈X.pn++d,p.1≠C:=λp S=>old _ _ (j.pin p S).1
 let h0:X.s₀⁻¹<=C:=by
  show QG ?_ K;show Rt (Rc j.ok.above (Qj F))
 let⟨m,hn,z_⟩:=J.loc;show wpAny_assign_Name (i3 I2 Z t R (v:=.ref D1) rfl (λs3 I3 f=>?_) W);let⟨a,f,y⟩:=f
 let l:C≠a:=by
  obtain rfl|y:=y
  .show Ne.symm z
  .show Ne.symm (k _ _ y)
 rwa[m,hn.sameBut f l,λh' u=>#[_,E,I3.junk u h0 z k n J.free,q]]
end
end L2
namespace J
def gW(tg:IT)(R:Ro->@&Bool)(fk U:Ro->@&KD)(O:Ro)(d:D):@&(@&(D×D)):=match sV tg d with
 |some ps=>if bW ps O=Uj then(match R (setAll ps O) with
  |some Uj=>(match fk (setAll ps O) with
   |some k=>(match U (setAll ps O) with
    |some y=>if pK y.1 y.2=Uj then B (B (k.2,y.2)) else L
    |none=>L)
   |none=>L)
  |some Uk=>B L
  |none=>L) else L
 |none=>L
def zM(t:Nat)(a:-DK×-D)(k y:D):@&(-DK×-D):=match je k with
 |some k=>if ik t k=Uj then(match aX a.1 k with
  |some j=>if a.1.Nodup then B (a.1,a.2.set j y) else L
  |none=>B (a.1++[k],a.2++[y])) else L
 |none=>L
def eC(t:Nat)(f:D->@&(@&(D×D))):-D->-DK×-D->@&(-DK×-D)
 |[],a=>B a
 |d::ds,a=>match f d with
  |some (B p)=>(match zM t a p.1 p.2 with
   |some O=>eC t f ds O
   |none=>L)
  |some L=>eC t f ds a
  |none=>L
def eS(t:Nat)(it:@&(-Nat×-D))(f:D->@&(@&(D×D))):@&KD:=match it with
 |some (_,ds)=>if ds.length<=100000 then(match eC t f ds ([],[]) with
  |some a=>B (.fr (.own [] .fz),.nd (.dic t a.1) a.2)
  |none=>L) else L
 |none=>L
meta def tJ:Nat->HO
 |0=>.dK []
 |m+1=>.dT m 0 []
theorem Dy:∀t,c7 K (tJ t) (.dic t []) []
 |0=>.inl #[rfl,[],rfl,rfl,rfl]
 |m+1=>.inr #[m,rfl,[],0,rfl,rfl,rfl]
theorem vt:∀t xs,tJ t≠.tup xs
 |0,_,h=>by ext h
 |_+1,_,h=>by ext h
section
variable {X:Cx} {Γ:fw} {c:Cz}
abbrev Ol(K:P9)(f:-J.D->-DK×-J.D->@&(-DK×-J.D))(z:Nat)(O:-DK×-J.D)(ds:-J.D)(g':Gh)(Z:Ro)(H1:Hp)(D:Up):Nat->Nat->L2.St->Hp->Prop:=λi m Y' H'=>m=ds.length-i/\i<=ds.length/\Σ(a:-DK×-J.D) (us:-V) (o:HO),f (ds.drop i) a=B O/\us.length<=i/\SE K (g'.plus λb=>b=D) Z Y' H'/\
  (∀b o,H1 b=B o->H' b=B o)/\H' D=B o/\(∀xs,o≠.tup xs)/\c7 K o (.dic z a.1) us/\RpL K H' (Sg (g'.plus λb=>b=D)) a.2 us
def vA(O:aq X Γ c){fi:Ro->@&(-Nat×-D)}(hck:bb c scope=Uj)(hi:SndI X fi tg iter)(ht:n5 #[gh scope c.sc,ae scope,gO scope] n tg=B t)(ha:∀C s H ex,j4 (ai X (ae scope) scope C s H ex) ft ifs)(h5:∀C s H ex,SndE (ai X (ae scope) scope C s H ex) fk kx)(h9:∀C s H ex,SndE (ai X (ae scope) scope C s H ex) fe elt)(h:eS z (fi Z) (gW t ft fk fe (aT Z (aA c scope)))=B (kd,d)){Y:L2.St}{Q:VK}(se:SE X.K g Z Y H)(q:∀v H',Same H H'->VR X.K g H H' kd d v->Q v H') :
  ox (wI X tg iter) (λv Y H Q=>∀C s F ex,wG (ai X (ae scope) scope C s F ex) tg v Y H Q) (λY H Q=>∀C s F ex,G9 (ai X (ae scope) scope C s F ex) ifs Y H Q) (λY H Q=>∀C s F ex,wE (ai X (ae scope) scope C s F ex) kx Y H Q) (λY H Q=>∀C s F ex,wE (ai X (ae scope) scope C s F ex) elt Y H Q) (tJ z) (aA c scope) Y H Q:=by
 let hn:ly (aA c scope)=Uj:=by
  dsimp[bb,Qd] at hck;show hck.1.2
 delta eS at h
 .ext1 bs k hit;ext h h
  .ext1 W;ext h h
   .ext1 af hm;ext h;let CO:=dc O hck;show hi Z bs k hit g Y H _ se λjj h0 H1 s1 jt sp sf D hD=>?_;let E:SE X.K (g.re (jr (aA c scope))) (aT Z (aA c scope)) (cU Y (aA c scope)) H1:=(se.same s1).cap hn;generalize h7:g.re (jr (aA c scope))=g' at E;let gS:∀b,Sg g' b↔Sg g b:=λb=>by rw[<- h7];show ki b
    generalize hZ:aT Z (aA c scope)=Zc at E hm;generalize hY:cU Y (aA c scope)=Yc at E;clear hZ hY
    show#[Ol X.K (eC z (gW t ft fk fe Zc)) z af k g' Zc H1 D,
     #[k.length,∎,QM _,([],[]),[],tJ z,hm,Qe _,?_,λb o e=>ag hD _ _ e,al,vt z,Dy z,.nil],?_]
    .show E.plus (ag hD) (λb w=>w▸hD) λb w=>#[tJ z,w▸al,vt z]
    rintro i m Y' H' ⟨rfl,gl,a,A,o,f,h4,T,kk,gD,hu,S,rl⟩
    let hc:∀b,Sg (g'.plus λb=>b=D) b↔Sx g (λb=>b=D) b:=λb=>(aj b).trans (or_congr (gS b) Iff.rfl);let N:∀b o,H1 b=B o->b≠D:=λb o e w=>by rw[w,hD] at e;ext e
    let h2:h0.P X.K (g'.plus λb=>b=D) H':=Src.mono (λb o e n w=>((hc b).mp w).elim n (N b o e)) (λb o G e=>kk b o e) (λa e=>sf.from_t e) sp;let⟨j1,j2⟩:=jt i _ H' h2 T.mu;by_cases u:i<k.length
    .let hd:k[i]?=B k[i]:=Qi u;let⟨go,yl⟩:=j2 _ hd;rw[QW u] at f;show .inr #[go,λx H2 hy C s0 F ex=>?_];let⟨s2,rx⟩:=yl x H2 hy
     cases M:gW t ft fk fe Zc k[i] with
     |none=>unfold eC at f;rw[M] at f;ext f
     |some o1=>
      let l:=M;delta gW at l
      .ext1 ps h1;ext l l
       .ext1 ga;show uD (pX (CO C s0 F ex) n ht) (iz h1 rx λvs hh C1 U hl hf=>?_);let t1:=SE.setAll hh (T.same s2);let⟨t2,t3⟩:=SE.passAll hh ga (T.same s2);ext l l
        .ext1 hT;show ha C1 U hl hf _ Uj hT _ _ _ _ t1 λH3 s3=>wR λC2 gk hr hx=>?_;ext l l
         .ext1 ke hv;ext l l
          .ext1 ye h3;ext l l
           .ext1 gj;ext l;let⟨gc,dk⟩:=ke;let⟨ky,dy⟩:=ye
            let j:(match zM z a dk dy with|some R=>eC z (gW t ft fk fe Zc) (k.drop (i+1)) R|none=>L)=B af:=by
             unfold eC at f;rw[M] at f;show f
            show h5 C2 gk hr hx _ gc dk hv _ _ H3 _ (t1.same s3) λvk H4 s4 r4 C3 hw gb hs=>?_;show h9 C3 hw gb hs _ ky dy h3 _ _ H4 _ ((t1.same s3).same s4) λvy I s5 r5=>?_;let JD:Same H' I:=((s2.trans s3).trans s4).trans s5;let ry:=r5.sh gj ((t1.same s3).same s4).mu s5;let rk:Rp X.K I (λG=>False) dk vk:=r4.rd.go λb o n e=>#[s5 b o e,λw=>w];let h8:I D=B o:=JD _ _ gD;let ho:RpL X.K I (Sg (g'.plus λb=>b=D)) a.2 A:=rl.go λb o n e=>#[JD b o e,n];let h6:Sg (g'.plus λb=>b=D) D:=(aj D).mpr (.inr rfl)
            let hg:∀(r:HO) (R:-DK×-J.D) (y:-V),eC z (gW t ft fk fe Zc) (k.drop (i+1)) R=B af->y.length<=i+1->(∀xs,r≠.tup xs)->c7 X.K r (.dic z R.1) y->RpL X.K I (Sg (g'.plus λb=>b=D)) R.2 y->
              Σm',m'<k.length-i/\m'=k.length-(i+1)/\i+1<=k.length/\Σ(a:-DK×-J.D) (A:-V) (o:HO),eC z (gW t ft fk fe Zc) (k.drop (i+1)) a=B af/\A.length<=i+1/\SE X.K (g'.plus λb=>b=D) Zc (iy vs Y') (upd I D r)/\
              (∀b o,H1 b=B o->upd I D r b=B o)/\upd I D r D=B o/\(∀xs,o≠.tup xs)/\c7 X.K o (.dic z a.1) A/\RpL X.K (upd I D r) (Sg (g'.plus λb=>b=D)) a.2 A:=λr R y e1 e2 e3 e4 e5=>
             #[_,∅,rfl,u,R,y,r,e1,e2,SE.upd (((t2.same s3).same s4).same s5) (aZ rfl) e3,λb o e=>by rw[ac (N b o e)];show JD _ _ (kk b o e),al,e3,e4,e5.go λb o n e=>#[by rw[ac (λw=>n (by rw[w];show h6))];show e,n]]
            let hz:A.length<sizeLine:=Rc h4 (Qn u (aO W))
            cases p:zM z a dk dy with
            |none=>rw[p] at j;ext j
            |some R=>
             rw[p] at j;delta zM at p
             .ext1 k' gi;ext p p
              .ext1 hb;let⟨p1,p2⟩:=vn h8 S gi rk hb hz;ext p p
               .ext1 jn hj;ext p p
                .ext1 gd;ext p;let⟨r,dp,po⟩:=p1 jn hj gd;rwa[_,dp,λe=>hg (r e) _ (A.set jn vy) j (by rw[Ru];lia) (po e).1 (po e).2 (RpL.set jn ho ry)]
                .ext p
               .ext1 hj;ext p;let⟨r,dp,po⟩:=p2 hj;rwa[_,dp,λe=>hg (r e) _ (A++[vy]) j (by rw[Qz,Rv];lia) (po e).1 (po e).2 (ho.append (.cons ry .nil))]
              .ext p
             .ext p
           .ext l
          .ext l
         .ext l
        .ext1 hT;ext l;let j:eC z (gW t ft fk fe Zc) (k.drop (i+1)) a=B af:=by unfold eC at f;rw[M] at f;show f
         show ha C1 U hl hf _ Uk hT _ _ _ _ t1 λH3 s3=>wQ ?_;let sY:=s2.trans s3;rwa[k.length-(i+1),∅,rfl,u,a,A,o,j,∅,t2.same s3,λb o e=>sY _ _ (kk b o e),sY _ _ gD,hu,S,rl.go λb o n e=>#[sY b o e,n]]
        .ext l
       .ext l
      .ext l
    .let e:i=k.length:=∅
     subst e;rw[Ua] at f;ext f;show .inl #[j1 (Qe _),q _ H' (λb o e=>kk b o (s1 _ _ e)) #[λb=>b=D,λb w=>s1.free (w▸hD),?_]];change Tr _ _ _ _ _ _ _;delta Tr
     rwa[D,o,A,λG=>False,rfl,gD,S,λG w=>w,(λh=>nomatch h),λb=>#[λw=>.inl #[rfl,w],λw=>w.elim (λw=>w.2) λw=>w.elim],.ofFz (rl.weak λb w=>(hc b).mpr w)]
   .ext h
  .ext h
 .ext h
theorem vC:∀z,tJ z=.dK []\/Σm,tJ z=.dT m 0 []
 |0=>.inl rfl
 |m+1=>.inr #[m,rfl]
def Dz(O:aq X Γ c){w:Ro->@&(-Nat×-D)}(hck:bb c scope=Uj)(hns:dB iter=Uj)(hi:SndI X w tg iter)(o:n5 #[gh scope c.sc,ae scope,gO scope] n tg=B t)(p:∀C s H ex,j4 (ai X (ae scope) scope C s H ex) ft ifs)(m:∀C s H ex,SndE (ai X (ae scope) scope C s H ex) fk kx)(l:∀C s H ex,SndE (ai X (ae scope) scope C s H ex) fe elt) :
  SndE X (λZ=>eS z (w Z) (gW t ft fk fe (aT Z (aA c scope)))) (.DictComp kx elt [#[tg,iter,ifs,0]] scope pos):=by
 intro Z y d h g Y H Q x q
 show aB (zK O.calm (dA O hck) wX
  (λC s e ex a b i k v u j I r f=>wY a b i k v u j I r (f C s e ex)) (λC s e ex a b i k j I f=>f C s e ex a b I) (λC s e ex a b i k j I f=>f C s e ex a b I) (λC s e ex a b i k j I f=>f C s e ex a b I) (vC z) (Rc (SC (by decide:9<=100) _) O.tab.units) (dh hns)) (vA O hck hi o p m l h x q)
theorem tK:Σb:Bool,swapsWith (.DictComp kx elt [#[tg,iter,ifs,0]] scope cp) (B (.Name x p)) n env=pure b:=#[_,rfl]
def HN(O:aq X Γ c){T:Ro->@&(-Nat×-D)}(hl:mf c x=Uj)(V:a9 x c.N=B i)(hck:bb c scope=Uj)(hns:dB iter=Uj)(hi:SndI X T tg iter)(y:n5 #[gh scope c.sc,ae scope,gO scope] n tg=B t)(E:∀C s H ex,j4 (ai X (ae scope) scope C s H ex) ft ifs)(o:∀C s H ex,SndE (ai X (ae scope) scope C s H ex) fk kx)(A:∀C s H ex,SndE (ai X (ae scope) scope C s H ex) fe elt) :
  c4 X pn (λZ=>fv pn i ((eS z (T Z) (gW t ft fk fe (aT Z (aA c scope)))).map λM=>(M.1,M.2,Z))) (.Assign [.Name x p] (.DictComp kx elt [#[tg,iter,ifs,0]] scope cp) pos):=by
 let l:=ji O hl;let hf:=(Dz O (pos:=cp) (z:=z) hck hns hi y E o A);intro Z r h g Y H Dn S q
 cases P:eS z (T Z) (gW t ft fk fe (aT Z (aA c scope))) with
 |none=>cbv at h;rw[P] at h;ext h
 |some w=>
  let⟨M,d⟩:=w;cbv at h;rw[P] at h
  let f:∀v e,Same H e->VR X.K g H e M d v->hV i v Y e Dn.nx:=λv e s r=>by
   let⟨F,U,f2⟩:=r;show iK h q (cW s U λb w=>eQ S.mu (U b w)) (S.plus s U λb w=>f2.dom b w) f2
  let⟨b,W⟩:=tK
  cases b with
  |false=>show cm (rS (by rw[O.N];show O.nd) (by rw[O.N];show aP V) l.1 aC W l.2) (hf Z M d P g Y H _ S f)
  |true=>
   show cm (zL O.calm (dA O hck) wX
    (λC s j ex a k Q e v u R I r m=>wY a k Q e v u R I r (m C s j ex)) (λC s j ex a k Q e R I m=>m C s j ex a k I) (λC s j ex a k Q e R I m=>m C s j ex a k I) (λC s j ex a k Q e R I m=>m C s j ex a k I) (vC z) (Rc (SC (by decide:9<=100) _) O.tab.units) (dh hns)
    (by rw[O.N];show O.nd) (by rw[O.N];show aP V) l.1 l.2 W) (vA O hck hi y E o A P S f)
end
end J
namespace L2
open PyProof.Rows
def HP(v a:Up):Uz->Prop:=λh=>h.IsValuesView v a
end L2
namespace J
def Le{α:Type}(a b:Option α):Prop:=∀r,a=B r->b=B r
theorem Le.refl{α:Type}(a:Option α):Le a a:=λZ h=>h
def tL(P:Uu)(w:Ux)(K:P9)(mg:Str->@&Um)(base:Uz)(k:Nat)(x:Str)(U:Fn):Prop:=if rL x=Uj then ΣC f fd ps,QX K UB (mC x)=B (B (.ref C))/\Cls K C/\ph K C (mM x) f/\FnOk P w K mg base i9 k f fd ps (nZ K U)/\Binds K fd ps []/\∀ds r,U ds=B r->Jv (mC x) (mM x) ds=Uj else
  (Σf fd ps,FnOk P w K mg base i9 k f fd ps (nZ K U)/\mg x=B (.ref f)/\Q7 K (.ref f)=Uj/\Binds K fd ps []/\(x==("__debug__":Str))=Uk)\/
  (Σj C f fd ps O,j+1<=k/\Mk K C f/\FnOk P w K mg base i9 j f fd ps O/\mg x=B (.ref C)/\Binds K fd ps []/\(x==("__debug__":Str))=Uk/\sG C (nZ K U) O)
structure TabF(P:Program)(w:World)(K:P9)(mg:Str->@&Value)(base:Heap)(Γ:fw)(k:Nat):Prop where
 fn:∀x U,Γ.fn x=B U->tL P w K mg base k x U
 cf:∀c fs C,Γ.cf c=B fs->QX K UB c=B (B (.ref C))->Cls K C/\∀a∈fs,NoAttr K C a
 fm:∀x sp,Γ.fm x=B sp->Σf fd ps,FnOk P w K mg base i9 k f fd ps (sp K)/\mg x=B (.ref f)/\Q7 K (.ref f)=Uj/\Binds K fd ps []/\(x==("__debug__":Str))=Uk
 bl:∀x∈aV,mg x=L
 cst:∀x d,Γ.cst x=B d->Σu v,mg x=B u/\RelV v u/\(∀H S,Rp K H S d v)/\(x==("__debug__":Str))=Uk
theorem TabF.ok{X:Cx}(T:TabF X.prog X.w X.K X.mg X.base Γ k)(i:Room k X.A):EC X Γ:=
 #[λy U p=>by
  let h:=T.fn y U p;unfold tL at h;delta il;ext h h
  .ext1 n;rw[if_pos n];let⟨C,f,s,ps,e,d,b,c,a,o⟩:=h;rwa[C,k,f,s,ps,e,d,b,c,i,a,o]
  .ext1 n;rw[if_neg n];rcases h with⟨g,l,m,e,d,b,c,a⟩|⟨j,C,g,l,m,q,r,e,d,b,c,a,o⟩
   .show .inl #[k,g,l,m,e,i,d,b,c,a]
   .show .inr #[C,j,g,l,m,q,e,d,i.mono r,b,c,a,o],T.cf,λy U p=>by
  let⟨g,l,m,e,d,b,c,a⟩:=T.fm y U p;rwa[k,g,l,m,e,i,d,b,c,a],T.bl,(by let h:=i.un;show Rc (QG (SC (by decide:100<=200) _) (Nat.add_le_add_right (RY _ _) 200)) h),i.gd,T.cst]
def lL(k:Nat)(ks:-mn):Ro:=ks.map Hr++QR (k-ks.length) L
meta def vD(d:D):mn:=(.fz,d)
def eD(r:@&Res):@&KD:=match r with
 |some (.rt kd d _)=>if bt kd=Uj then L else B (kd,d)
 |some (.nx _)=>B (.sh,.non)
 |_=>L
def bO(Γ:GG)(N m k:Nat)(body:bq)(ds:-D):@&KD:=if ds.length=m then eD (ao Γ N body [] (lL k (ds.map vD))) else L
meta def outs(m:Nat)(pn:-Nat)(Z:Ro):-(@&mn):=(Qo m).map λj=>if j∈pn then(match Z[j]? with|some (B ⟨Uk,k,d⟩)=>B (k,d)|_=>L) else L
def iM(m:Nat)(pn:-Nat)(r:@&Res):@&(Kd×D×-(@&mn)):=match r with
 |some (.rt kd d Z)=>if bt kd=Uj then L else B (kd,d,outs m pn Z)
 |some (.nx Z)=>B (.sh,.non,outs m pn Z)
 |_=>L
def oy(Γ:GG)(N m k:Nat)(pn:-Nat)(body:bq)(ks:-mn):@&(Kd×D×-(@&mn)):=if ks.length=m then iM m pn (ao Γ N body pn (lL k ks)) else L
def qA(fns:Nms)(an:An)(n:Nat)(N:-Str)(st:Uw):@&bq:=cB fns an n #[ab st,N,λZ=>Uj] n (aE st)
def jF{vs:-V}{i:Nat}(h:i<vs.length):(bU N vs)[i]?=(vs.map B)[i]?:=by
 delta L2.bU;rw[Rl ↥h]
def oz{N:-Str}{ks:-mn}{vs:-V}(a:SE K g (ks.map Hr) (vs.map B) H)(k:ks.length<=N.length):SE K g (lL N.length ks) (bU N vs) H:=by
 let c:ks.length=vs.length:=by simpa using a.len
 rwa[λi d e=>?_,a.mu,?_]
 .unfold lL at e;by_cases b:i<ks.length
  .rw[Rl ↥b] at e;let⟨v,F,f,h,j⟩:=a.slot i d e;rwa[v,F,by rw[jF (by rw[<- c];show b)];show f,h,j]
  .rw[Rj ↥b,S7] at e
   split at e<;>ext e
 .unfold lL L2.bU;dsimp[Qz,Qa,Th]
  lia
def EV{ds:-D}{vs:-V}(r:RpL K H (Sg g) ds vs)(m:MuOk H (Sg g)):SE K g ((ds.map vD).map Hr) (vs.map B) H:=by
 rwa[λi a e=>?_,m,by simp[r.len]];rw[Qc,Qc] at e
 cases q:ds[i]? with
 |none=>rw[q] at e;ext e
 |some d=>
  rw[q] at e;ext e;let⟨v,e1,e2⟩:=r.getD q;rwa[v,iX,by rw[Qc,e1];rfl,λZ z=>z.elim,.fz e2]
theorem kJ{g:Gh}:g.re (λZ=>L) b≠B (B i):=λe=>by
 unfold Gh.re at e
 cases q:g b with
 |none=>rw[q] at e;ext e
 |some x=>cases x<;>(rw[q] at e;ext e)
def vF{g:Gh}(h:g b≠L):g.re (λZ=>L) b=B L:=by
 delta Gh.re
 cases q:g b with
 |none=>show absurd q h
 |some x=>cases x<;>rfl
theorem ge{K:P9}{g g':Gh}{H H':Hp}{F:Pr}(a:Evo (g.re λZ=>L) H g' H' F):Same H H'/\(∀b,F b->H b=L)/\∀b,Sg g b->Sg g' b:=
 #[λb o e=>a.keep b o (λi q=>kJ q) e,λb z=>(a.tmp b z).2.elim (λ⟨j,q⟩=>absurd q kJ) id,λb z=>by rw[Sg,(a.out b).mp (vF z)];simp]
section
variable {P:Uu} {w:Ux} {K:P9} {mg:Str->@&Um} {base:Uz} {fns:Nms} {Γ:GG} {x qual:Str} {st:Uw} {f:Up} {fd:UH} {N ps:-Str} {k n M:Nat} {an:An} {body:bq}
def vG(F:Fun K x qual st f fd)(S:a6 N ps (ab st))(T:TabF P w K mg base (ba fns Γ) k)(V:qA fns an n N st=B body) :
  FnOk P w K mg base i9 (k+1) f fd ps (nZ K (bO Γ M ps.length N.length body)):=by
 let W:ps.length<=N.length:=by
  have:=congrArg SG S.pre;rw[QO] at this
  lia
 show F.ok S (λi H Q E h=>?_) (λp A c s H i Q E hr h=>?_)
 .let⟨C,g,X,d,r,I,a,q⟩:=h;delta bO at a
  .ext1 t;rw[r.len,t]
  .ext a
 .let⟨C,g,X,d,r,I,a,q⟩:=h;delta bO at a
  .ext1 t
   let O:aq (ma i9 P w K mg base N qual (ab st) f p A c s H E).nox (ba fns Γ) #[ab st,N,λJ=>Uj]:=
    #[rfl,rfl,λJ J=>rfl,rfl,S.nd,T.ok hr]
   let m0:MuOk H (Sg (g.re λJ=>L)):=λb z=>I b ((ki b).mp z);let U:RpL K H (Sg (g.re λJ=>L)) C i:=r.weak λb z=>(ki b).mp z;let R:=oz (EV U m0) (by simpa[t] using W);let u:aW _ [] (ao Γ M body []) (aE st):=dF Γ (λs is h=>gC fns Γ O PassesOwn.never n h) V [];rwa[_,fI,?_];delta eD at a
   .ext1 k2 d2 Z2 e;ext a a
    .ext a
    .ext1 hb;ext a;show u _ _ e _ (bU N i) H _ R λv Y' Z j F l o pk Y=>?_;let⟨m,D,y⟩:=ge (K:=K) l;show q v j m #[F,D,Y.unlend ↥hb y]
   .ext1 Z' e;ext a;show u _ _ e _ (bU N i) H _ R λY' Z j l o pk=>?_;let⟨m,D,y⟩:=ge (K:=K) l;show q .non j m GI
   .ext a
  .ext a
def m8{m:Nat}{pn:-Nat}{Z:Ro}{j:Nat}(h:((outs m pn Z).map EH)[j]?=B (B sl)):j<m/\j∈pn/\Z[j]?=B (B sl):=by
 unfold outs at h;rw[Qc,Qc] at h;by_cases a:j<m
 .rw[QU a] at h;dsimp[Sy,Option.some.injEq] at h;ext h h
  .ext1 b;ext h h
   .ext1 k d e;ext h;rwa[a,b,e]
   .ext h
  .ext h
 .rw[QT ↥a] at h;ext h
def qB:(outs m pn Z).length=m:=by simp[outs]
def vH(F:Fun K x qual st f fd)(S:a6 N ps (ab st))(T:TabF P w K mg base (ba fns Γ) k)(Z:qA fns an n N st=B body) :
  FnOk P w K mg base i9 (k+1) f fd ps (xg K (oy Γ M ps.length N.length pn body)):=by
 let hN:ps.length<=N.length:=by
  have:=congrArg SG S.pre;rw[QO] at this
  lia
 show F.ok S (λo H Q E h=>?_) (λI A c s H o Q E hr h=>?_)
 .let⟨V,g,k',d,os,C,a,q⟩:=h;delta oy at a
  .ext1 u;have:=C.len;dsimp[Qa] at this;rw[<- this,u]
  .ext a
 .let⟨V,g,k',d,os,C,a,q⟩:=h;delta oy at a
  .ext1 u;let U:V.length=o.length:=by simpa using C.len
   let O:aq (ma i9 P w K mg base N qual (ab st) f I A c s H E).nox (ba fns Γ) #[ab st,N,λL=>Uj]:=
    #[rfl,rfl,λL L=>rfl,rfl,S.nd,T.ok hr]
   let p:=oz C (by rw[u];show hN);let R:aW _ pn (ao Γ M body pn) (aE st):=dF Γ (λs is h=>gC fns Γ O PassesOwn.never n h) Z pn
   let t:∀{i:Gh} {b:Hp} {F:Pr} {r:L2.St} {y:Ro},SE K (i.plus F) y r b->PinOk pn (bU N o) r->SE K (i.plus F) ((outs ps.length pn y).map EH) (o.map B) b:=λ{i b F r y} s1 pk=>by
    rwa[λj sl e=>?_,s1.mu,by simp[qB,<- U,u]];let⟨h1,h2,Y⟩:=m8 e;let⟨v,Fj,q1,W,X⟩:=s1.slot j sl Y;rwa[v,Fj,by rw[<- q1,pk j h2,jF (by rw[<- U,u];show h1)],W,X]
   rwa[_,fI,?_];delta iM at a
   .ext1 k2 d2 Z2 m;ext a a
    .ext a
    .ext1 hb;ext a;show R _ _ m _ (bU N o) H _ p λv r i b F D l pk vr=>q v i b F D (t l pk) vr
   .ext1 y m;ext a;show R _ _ m _ (bU N o) H _ p λr i b D l pk=>q .non i b iX D (t (by rw[a5 λL z=>z];show l) pk) #[λL z=>z,by delta Rp;rfl]
   .ext a
  .ext a
end
meta def tM{α:Type}(Γ:Nat->Option α)(i:Nat)(U:α):Nat->Option α:=λj=>if j=i then B U else Γ j
abbrev GG.addI(Γ:GG)(i:Nat)(U:Fn):GG:=#[tM Γ.fn i U,Γ.fm]
abbrev GG.addM(Γ:GG)(i:Nat)(U:Fm):GG:=#[Γ.fn,tM Γ.fm i U]
def oA{U ψ:Fn}(h:∀ds,Le (ψ ds) (U ds))(s:nZ K ψ vs H Q E):nZ K U vs H Q E:=by
 let⟨ds,S,k,d,c,b,e,a⟩:=s;rwa[ds,S,k,d,c,b,h ds _ e,a]
def HQ{U ψ:Fm}(h:∀ds,Le (ψ ds) (U ds))(s:xg K ψ vs H Q E):xg K U vs H Q E:=by
 let⟨a,g,b,d,e,f,c,i⟩:=s;rwa[a,g,b,d,e,f,h a _ c,i]
section
variable {P:Uu} {w:Ux} {K:P9} {mg:Str->@&Um} {base:Uz} {fns:Nms} {Γ:GG} {x qual:Str} {st:Uw} {f:Up} {fd:UH} {N ps:-Str} {k n M i:Nat} {an:An} {body:bq}
theorem TabF.up(T:TabF P w K mg base (ba fns Γ) k):TabF P w K mg base (ba fns Γ) (k+1):=
  #[λy U n=>by
    let h:=T.fn y U n;unfold tL at h⊢;ext h h
    . ext1 m;rw[if_pos m];let⟨C,f,q,ps,a,l,e,i,d⟩:=h;rwa[C,f,q,ps,a,l,e,i.mono (RN k),d]
    . ext1 m;rw[if_neg m];rcases h with⟨g,b,c,a,l,e,i,d⟩|⟨j,C,g,b,c,o,p,a⟩
      . show .inl #[g,b,c,a.mono (RN k),l,e,i,d]
      . show .inr #[j,C,g,b,c,o,RQ p,a],T.cf,
   λy U n=>by let⟨g,b,c,a,l,e,i,d⟩:=T.fm y U n;rwa[g,b,c,a.mono (RN k),l,e,i,d],T.bl,T.cst]
def TabF.put(T:TabF P w K mg base (ba fns Γ) k)(hi:fns.fns[i]?=B x)(h:tL P w K mg base k x ψ):TabF P w K mg base (ba fns (Γ.addI i ψ)) k:=by
 rwa[λy U b=>?_,T.cf,T.fm,T.bl,T.cst];let b:(a9 y fns.fns).bind (tM Γ.fn i ψ)=B U:=b
 cases c:a9 y fns.fns with
 |none=>rw[c] at b;ext b
 |some j=>
  rw[c] at b;let a:tM Γ.fn i ψ j=B U:=b;delta tM at a
  .ext1 e;subst e;ext a;have:=aP c;rw[hi] at this;ext this;show h
  .show T.fn y U (by change(a9 y fns.fns).bind Γ.fn=_;rw[c];show a)
def TabF.addX{ψ U:Fn}(T:TabF P w K mg base (ba fns Γ) k)(F:Fun K x qual st f fd)(ok:FnOk P w K mg base i9 (k+1) f fd ps (nZ K U))(c:mg x=B (.ref f))(b:Binds K fd ps [])(hd:(x==("__debug__":Str)||rL x)=Uk)
  (hi:fns.fns[i]?=B x) (hψ:∀a,Le (ψ a) (U a)):TabF P w K mg base (ba fns (Γ.addI i ψ)) (k+1):=by
 rw[R0] at hd;show T.up.put hi ?_;delta tL;rw[if_neg (by rw[hd.2];show Qx)];show .inl #[f,fd,ps,ok.imp λd H Q E s=>oA hψ s,c,F.kp,b,hd.1]
theorem TabF.addI{ψ:Fn}(T:TabF P w K mg base (ba fns Γ) k)(F:Fun K x qual st f fd)(S:a6 N ps (ab st))(b:mg x=B (.ref f))(c:Binds K fd ps [])(hd:(x==("__debug__":Str)||rL x)=Uk)
  (hi:fns.fns[i]?=B x) (hc:qA fns an n N st=B body) (hψ:∀a,Le (ψ a) (bO Γ M ps.length N.length body a)):TabF P w K mg base (ba fns (Γ.addI i ψ)) (k+1):=
 T.addX F (vG F S T hc) b c hd hi hψ
def TabF.addM{ψ:Fm}(T:TabF P w K mg base (ba fns Γ) k)(F:Fun K x qual st f fd)(S:a6 N ps (ab st))(g:mg x=B (.ref f))(h:Binds K fd ps [])(hd:(x==("__debug__":Str)||rL x)=Uk)(hi:fns.fns[i]?=B x)(l:qA fns an n N st=B body)(m:∀ds,Le (ψ ds) (oy Γ M ps.length N.length pn body ds)):TabF P w K mg base (ba fns (Γ.addM i ψ)) (k+1):=by
 rwa[T.up.fn,T.cf,λy sp b=>?_,T.bl,T.cst];let b:(a9 y fns.fns).bind (λj=>(tM Γ.fm i ψ j).map λU=>λK=>xg K U)=B sp:=b
 cases c:a9 y fns.fns with
 |none=>rw[c] at b;ext b
 |some j=>
  rw[c] at b;let⟨U,a,rfl⟩:=bI (b);delta tM at a
  .ext1 e;subst e;ext a
   let d:y=x:=by
    have:=aP c;rw[hi] at this;show(Option.some.inj this).symm
   subst d;rwa[f,fd,ps,(vH F S T l).imp λo H Q E s=>HQ m s,g,F.kp,h,(R0.mp hd).1]
  .show T.up.fm y _ (by change qp fns Γ y=_;delta qp;rw[c,QY,a];rfl)
end
def HR{ns:-Int}(c:SqL K H a (ns.map V.int))(h:U [.scr ns]=B (.sh,.bl Uj)):nZ K U [.ref a] H (λv Z=>v=.bl Uj) λZ Z Z=>False:=by
 rwa[[.scr ns],λZ=>L,.sh,.bl Uj,.cons ?_ .nil,λb z=>absurd rfl z,h,λv d Z r=>r.rd.bl];delta Rp;rwa[a,rfl,?_];obtain h|h:=c
 .show .inl #[λz=>z rfl,h]
 .show .inr h
def PR{P:-Um->Prop}(h:P [])(us:-Um)(e:us.length=0):P us:=by
 cases us with
 |nil=>show h
 |cons=>ext e
def MX{P:-Um->Prop}(h:∀a,P [a])(us:-Um)(e:us.length=1):P us:=by
 cases us with
 |nil=>ext e
 |cons a us=>show PR (P:=λus=>P (a::us)) (h a) us (Nat.succ.inj e)
def us2{P:-Um->Prop}(h:∀a b,P [a,b])(us:-Um)(e:us.length=2):P us:=by
 cases us with
 |nil=>ext e
 |cons a us=>show MX (P:=λus=>P (a::us)) (h a) us (Nat.succ.inj e)
def LD{P:-Um->Prop}(h:∀a b c,P [a,b,c])(us:-Um)(e:us.length=3):P us:=by
 cases us with
 |nil=>ext e
 |cons a us=>show us2 (P:=λus=>P (a::us)) (h a) us (Nat.succ.inj e)
def MY{P:-Um->Prop}(h:∀a b c d,P [a,b,c,d])(us:-Um)(e:us.length=4):P us:=by
 cases us with
 |nil=>ext e
 |cons a us=>show LD (P:=λus=>P (a::us)) (h a) us (Nat.succ.inj e)
def Pg{P:-Um->Prop}(h:∀a b c d e,P [a,b,c,d,e])(us:-Um)(e:us.length=5):P us:=by
 cases us with
 |nil=>ext e
 |cons a us=>show MY (P:=λus=>P (a::us)) (h a) us (Nat.succ.inj e)
def e9{X:Cx}{pn:-Nat}{k fb:Ro->@&Res}{a b:-Uw}(i:aW X pn k a)(o:aW X pn fb b):aW X pn (λZ=>cq (k Z) fb) (a++b):=by
 intro Z r h g Y H n c q;cbv at h;show Do ?_
 cases e:k Z with
 |none=>rw[e] at h;ext h
 |some l=>
  rw[e] at h
  cases l with
  |nx f=>show i Z _ e g Y H _ c λm p t s j pk=>o f r h p m t n j (q.from s pk)
  |rt u d f=>ext h;show i Z _ e g Y H _ c q
  |ct f=>ext h;show i Z _ e g Y H _ c q
  |bk f=>ext h;show i Z _ e g Y H _ c q
def jG(f:Ro->@&Res)(m k:Nat)(ds:-D):@&KD:=if ds.length=m then eD (f (lL k (ds.map vD))) else L
section
variable {P:Uu} {w:Ux} {K:P9} {mg:Str->@&Um} {base:Uz} {fns:Nms} {Γ:GG} {x qual:Str} {st:Uw} {f:Up} {fd:UH} {N ps:-Str} {k n M:Nat} {an:An} {body:bq}
def oC{fb:Ro->@&Res}(F:Fun K x qual st f fd)(S:a6 N ps (ab st))(T:TabF P w K mg base (ba fns Γ) k)(R:∀X:Cx,aq X (ba fns Γ) #[ab st,N,λJ=>Uj]->PassesOwn (Ut X.prog X.w) X.A X.env X.xe->aW X [] fb (aE st)) :
  FnOk P w K mg base i9 (k+1) f fd ps (nZ K (jG fb ps.length N.length)):=by
 let U:ps.length<=N.length:=by
  have:=congrArg SG S.pre;rw[QO] at this
  lia
 show F.ok S (λi H Q E h=>?_) (λo A c s H i Q E hr h=>?_)
 .let⟨y,g,V,d,r,D,a,q⟩:=h;delta jG at a
  .ext1 p;rw[r.len,p]
  .ext a
 .let⟨y,g,V,d,r,D,a,q⟩:=h;delta jG at a
  .ext1 p
   let O:aq (ma i9 P w K mg base N qual (ab st) f o A c s H E).nox (ba fns Γ) #[ab st,N,λJ=>Uj]:=
    #[rfl,rfl,λJ J=>rfl,rfl,S.nd,T.ok hr]
   let m0:MuOk H (Sg (g.re λJ=>L)):=λb z=>D b ((ki b).mp z);let M:RpL K H (Sg (g.re λJ=>L)) y i:=r.weak λb z=>(ki b).mp z;let I:=oz (EV M m0) (by simpa[p] using U);let t:aW _ [] fb (aE st):=R _ O PassesOwn.never;rwa[_,fI,?_];delta eD at a
   .ext1 k2 d2 Z2 e;ext a a
    .ext a
    .ext1 hb;ext a;show t _ _ e _ (bU N i) H _ I λv Z Y j F l n pk W=>?_;let⟨m,C,u⟩:=ge (K:=K) l;show q v j m #[F,C,W.unlend ↥hb u]
   .ext1 Z' e;ext a;show t _ _ e _ (bU N i) H _ I λZ Y j l n pk=>?_;let⟨m,C,u⟩:=ge (K:=K) l;show q .non j m GI
   .ext a
  .ext a
theorem TabF.addB{i:Nat}{ψ:Fn}(T:TabF P w K mg base (ba fns Γ) k)(F:Fun K x qual st f fd)(S:a6 N ps (ab st))(a:mg x=B (.ref f))(d:Binds K fd ps [])(hd:(x==("__debug__":Str)||rL x)=Uk)(hi:fns.fns[i]?=B x)(c:∀X:Cx,aq X (ba fns Γ) #[ab st,N,λZ=>Uj]->PassesOwn (Ut X.prog X.w) X.A X.env X.xe->aW X [] fb (aE st))(b:∀ds,Le (ψ ds) (jG fb ps.length N.length ds)):TabF P w K mg base (ba fns (Γ.addI i ψ)) (k+1):=
 T.addX F (oC F S T c) a d hd hi b
end
def zN(k:Ow)(c:Str)(U:Fm):Fn:=λds=>match U ((k,.nd (.obj c []) [])::ds.map vD) with
 |some (.sh,.non,B (k',d')::_)=>B (.fr k',d')
 |_=>L
def DA(hC:QX K UB c=B (B (.ref C)))(Y:Cls K C):sG C (nZ K (zN (.own es r0) c U)) (xg K U):=by
 intro vs H Q s a E u S hc;let⟨V,g,kd,d,r,m,D,q⟩:=s;delta zN at D
 .ext1 T d' os R;ext D
  let y:Same H (upd (upd H E (.own a)) a (.ins C E [])):=λb o e=>by
   rw[ac (λz=>by rw[z,u] at e;ext e),ac (λz=>by rw[z,S] at e;ext e)];show e
  let ga:g a=L:=by
   cases q:g a with
   |none=>rfl
   |some x=>let⟨o,e,z_⟩:=m a (by rw[Sg,q];simp);rw[u] at e;ext e
  show let t:Gh:=λb=>if b=a then B (B 0) else(g.re λJ=>L) b;?_
  let j:∀b,b≠a->t b=(g.re λJ=>L) b:=λb h=>if_neg h;let P:t a=B (B 0):=if_pos rfl;let w:∀b,b≠a->(Sg t b↔Sg g b):=λb h=>by rw[Sg,j b h];show ki b
  rwa[_,t,.sh,.non,_,#[λi sl e=>?_,λb z=>?_,by simp[r.len]],R,λv W I F M se vr=>?_]
  .cases i with
   |zero=>
    ext e;rwa[.ref a,λb=>b=a,rfl,λb z=>by rw[z];show P,?_];delta Tr;rwa[a,.ins C E [],[],λJ=>False,rfl,al,#[C,E,hC,#[Y,λf Z=>by cases Z],rfl,rfl],λJ z=>z,(λh=>by ext h),(λb=>#[λz=>.inl #[rfl,z],λz=>z.elim (λz=>z.2) λz=>z.elim]),?_];delta TrL;rwa[rfl,λJ z=>z]
   |succ i=>
    let e:((V.map vD).map Hr)[i]?=B (B sl):=by simpa using e
    rw[Qc,Qc] at e
    cases O:V[i]? with
    |none=>rw[O] at e;ext e
    |some d0=>
     rw[O] at e;ext e;let⟨v,e1,e2⟩:=r.getD O;rwa[v,iX,by rw[QE,RK,Qc,e1];rfl,λJ z=>z.elim,.fz (e2.go λb o n e=>#[y b o e,λz=>n ((w b λh=>?_).mp z)])];rw[h,u] at e;ext e
  .by_cases k:b=a
   .rw[k];rwa[_,al,λxs h=>by cases h]
   .let⟨o,e,n⟩:=m b ((w b k).mp z);rwa[o,y b o e,n]
  .let⟨hF,A⟩:=(vr);let A:v=.non:=by unfold Rp at A;show A
   let⟨v0,N,e1,e2,e3⟩:=se.slot 0 #[Uk,T,d] rfl;cases(e1);let X:W.plus F=W:=a5 hF;rw[X] at e2 e3
   let l:Same H I:=λb o e=>M.keep b o (λi z=>by
    let k:b≠a:=λh=>by rw[h,u] at e;ext e
    rw[j b k] at z;show kJ z) (y b o e)
   rwa[A,q (.ref a) I l #[N,λb z=>?_,?_]]
   .rcases M.new b 0 (e2 b z) with⟨i,p⟩|p
    .by_cases k:b=a
     .rw[k];show u
     .rw[j b k] at p;show absurd p kJ
    .cases qh:H b with
     |none=>rfl
     |some o=>rw[y b o qh] at p;ext p
   .change Tr K I (Sx g N) d T (.ref a) N;show e3.go (λJ J J e=>e) λb o J n z=>n ?_;obtain z|z:=z
    .let k:b≠a:=λh=>by rw[h] at z;show z ga
     have:t b=B L:=by rw[j b k];show vF z
     rw[Sg,(M.out b).mp this];simp
    .rw[Sg,e2 b z];simp
 .ext D
section
variable {P:Uu} {w:Ux} {K:P9} {mg:Str->@&Um} {base:Uz} {fns:Nms} {Γ:GG} {x y qual:Str} {st:Uw} {f C:Up} {fd:UH} {N ps:-Str} {k n M i:Nat} {an:An} {body:bq}
def xo(y:Str)(U:Fn):Fn:=λds=>if Jv (mC y) (mM y) ds=Uj then U ds else L
end
def Wp{α:Type}(a:Option α)(Q:α->Prop):Prop:=Σr,a=B r/\Q r
theorem Wp.mono{α:Type}{a:Option α}{Q R:α->Prop}(h:Wp a Q)(k:∀r,Q r->R r):Wp a R:=let ⟨r,e,q⟩:=h;#[r,e,k r q]
theorem oE{α:Type}{r:α}{Q:α->Prop}(q:Q r):Wp (B r) Q:=#[r,rfl,q]
section
variable {Γ:Nat->@&Fn} {Z:Ro} {Q:KD->Prop}
theorem a7{i:Nat}(h:Z[i]?=B (B s))(q:Q (pL i s)):Wp (aa Γ (.var i) Z) Q:=#[_,by rw[CT,h];rfl,q]
theorem bA(q:Q (.sh,d)):Wp (aa Γ (.lit d) Z) Q:=#[_,#v[uP],q]
def aU(h:Wp (aa Γ a Z) λx=>Wp (aa Γ b Z) λy=>Wp (d8 op x y) Q):Wp (aa Γ (.bin op a b) Z) Q:=by
 let⟨x,c,y,e,z,d,q⟩:=h;rwa[z,by rw[CU,c,e];show d,q]
def zO(h:Wp (aa Γ a Z) λx=>Wp (w6 x.2) λb=>Q (.sh,.bl (!b))):Wp (aa Γ (.not a) Z) Q:=by
 let⟨x,c,b,d,q⟩:=h;rwa[_,by rw[CW,c];change bV ((w6 x.2).map _)=_;rw[d];rfl,q]
def zP(h:Wp (aR Γ t Z) λr=>(r=Uj->Wp (aa Γ a Z) Q)/\(r=Uk->Wp (aa Γ b Z) Q)):Wp (aa Γ (.ifx t a b) Z) Q:=by
 let⟨r,d,e,f⟩:=h
 cases r with
 |true=>let⟨x,c,q⟩:=e rfl;rwa[x,by rw[uQ,d];show c,q]
 |false=>let⟨x,c,q⟩:=f rfl;rwa[x,by rw[uQ,d];show c,q]
def tN(h:Wp (bf Γ es Z) λkds=>Wp (sI k (B kds)) Q):Wp (aa Γ (.lst k es) Z) Q:=by
 let⟨x,b,z,a,q⟩:=h;rwa[z,by rw[CY,b];show a,q]
def zQ(h:Wp (bf Γ es Z) λkds=>Wp (jm k (B kds)) Q):Wp (aa Γ (.tup k es) Z) Q:=by
 let⟨x,b,z,a,q⟩:=h;rwa[z,by rw[CZ,b];show a,q]
def vI(h:Wp (aa Γ a Z) λx=>Wp (gm Γ lo Z) λl=>Wp (gm Γ hi Z) λu=>Wp (Jw (B x) (B l) (B u)) Q):Wp (aa Γ (.sl a lo hi) Z) Q:=by
 let⟨x,d,l,b,u,c,z,e,q⟩:=h;rwa[z,by rw[Hb,d,b,c];show e,q]
def zR(h:Wp (aa Γ a Z) λx=>Wp (gm Γ lo Z) λl=>Wp (aa Γ st Z) λy=>Wp (yV (B x) (B l) (B y)) Q):Wp (aa Γ (.stp a lo st) Z) Q:=by
 let⟨x,c,l,b,y,e,z,d,q⟩:=h;rwa[z,by rw[C0,c,b,e];show d,q]
def zS(a:Γ i=B U)(h:Wp (bf Γ es Z) λkds=>Wp (CP U kds) Q):Wp (aa Γ (.fn i es) Z) Q:=by
 let⟨x,b,z,c,q⟩:=h;rwa[z,by rw[y9,b,a];show c,q]
def gX(h:Wp (bf Γ es Z) λkds=>Wp (iq x kds) Q):Wp (aa Γ (.blt x es) Z) Q:=by
 let⟨y,b,z,a,q⟩:=h;rwa[z,by rw[uS,b];show a,q]
def tO(h:Wp (aa Γ a Z) λx=>Wp (pT T x.2) λb=>Q (.sh,.bl b)):Wp (aa Γ (.isi T a) Z) Q:=by
 let⟨y,c,z,d,q⟩:=h;rwa[_,by rw[uR,c];change bV (pT T y.2)=_;rw[d];rfl,q]
def qC(h:Wp (aa Γ a Z) Q):Wp (aa Γ (.bool op (.cons a .nil)) Z) Q:=by
 let⟨y,b,q⟩:=h;rwa[y,by rw[iA,mi];show b,q]
def lM(h:Wp (aa Γ a Z) λx=>Σz,x.2=.bl z/\((op==.And)=z->Wp (aa Γ (.bool op (.cons b r)) Z) Q)/\((op==.And)≠z->Q (.sh,.bl z))):Wp (aa Γ (.bool op (.cons a (.cons b r))) Z) Q:=by
 obtain⟨⟨k,d⟩,f,z,e,g,i⟩:=h;let e:d=.bl z:=e;subst e;by_cases c:(op==.And)=z
 .let⟨y,e2,q⟩:=g c;rw[iA] at e2;rwa[y,by rw[iA,mi,f];show(if_pos c).trans e2,q]
 .rwa[_,by rw[iA,mi,f];show if_neg c,i c]
def eT(h:Wp (gp Γ it Z) λp=>p.2.length<=100000/\Wp (aQ r (dS tg (eA Γ ts) (aa Γ elt) (aT Z cap)) p.2) λys=>Q (.fr (.own [] r),.lst ys)):Wp (aa Γ (.comp r cap tg it ts elt) Z) Q:=by
 let⟨p,a,b,ys,d,q⟩:=h;let⟨e,c⟩:=p
 rwa[_,by rw[pY,a];change(if c.length<=100000 then _ else _)=_;rw[if_pos b,d],q]
variable {T:Bool->Prop}
def tP(h:Wp (aa Γ a Z) λx=>Wp (aa Γ b Z) λy=>Wp (cA op x.2 y.2) T):Wp (aR Γ (.cmp op a b) Z) T:=by
 let⟨x,c,y,e,z,d,q⟩:=h;rwa[_,by rw[pZ,c,e];show d,q]
def qD(h:Wp (aR Γ a Z) T):Wp (aR Γ (.bool op (.cons a .nil)) Z) T:=by
 let⟨y,b,q⟩:=h;rwa[y,by rw[f8,gz];show b,q]
def lN(h:Wp (aR Γ a Z) λz=>((op==.And)=z->Wp (aR Γ (.bool op (.cons b r)) Z) T)/\((op==.And)≠z->T z)):Wp (aR Γ (.bool op (.cons a (.cons b r))) Z) T:=by
 let⟨z,d,f,e⟩:=h;by_cases c:(op==.And)=z
 .let⟨y,e2,q⟩:=f c;rw[f8] at e2;rwa[y,by rw[f8,gz,d];show(if_pos c).trans e2,q]
 .rwa[_,by rw[f8,gz,d];show if_neg c,e c]
variable {Lqq:-KD->Prop}
theorem cF(q:Lqq []):Wp (bf Γ .nil Z) Lqq:=#[_,#v[bf],q]
def aS(h:Wp (aa Γ a Z) λx=>Wp (bf Γ r Z) λxs=>Lqq (x::xs)):Wp (bf Γ (.cons a r) Z) Lqq:=by
 let⟨x,c,xs,b,q⟩:=h;rwa[_,by rw[bf,c,b];rfl,q]
theorem lO{P:@&Int->Prop}(q:P L):Wp (gm Γ .non Z) P:=#[_,#v[gm],q]
def oF{P:@&Int->Prop}(h:Wp (aa Γ a Z) λx=>Σi,x.2=.int i/\P (B i)):Wp (gm Γ (.som a) Z) P:=by
 obtain⟨⟨k,d⟩,c,i,b,q⟩:=h;let b:d=.int i:=b;subst b;rwa[_,by rw[gm,c];rfl,q]
variable {P:-Nat×-D->Prop}
def km(h:Wp (aa Γ a Z) λx=>Wp (sO (B x)) P):Wp (gp Γ (.e a) Z) P:=by
 let⟨x,c,z,b,q⟩:=h;rwa[z,by rw[gp,c];show b,q]
def tQ(h:Wp (aa Γ a Z) λx=>Wp (xb (B x)) P):Wp (gp Γ (.enm a) Z) P:=by
 let⟨x,c,z,b,q⟩:=h;rwa[z,by rw[gp,c];show b,q]
def zT(h:Wp (aa Γ a Z) λx=>Wp (aa Γ b Z) λy=>Wp (sP (B x) (B y)) P):Wp (gp Γ (.zp a b) Z) P:=by
 let⟨x,e,y,c,h⟩:=h;change Wp (sP (aa Γ a Z) (aa Γ b Z)) P;rw[e,c];show h
def oG(h:Wp (aa Γ a Z) λx=>Wp (aa Γ b Z) λy=>Wp (sQ (B x) (B y)) P):Wp (gp Γ (.rng a b) Z) P:=by
 let⟨x,c,y,e,z,d,q⟩:=h;rwa[z,by rw[gp,c,e];show d,q]
end
section
variable {Q:KD->Prop} {k k':Kd} {i j:Int}
theorem zU(q:Q (.sh,.int (i+j))):Wp (d8 .Add (k,.int i) (k',.int j)) Q:=oE q
theorem tR(q:Q (.sh,.int (i-j))):Wp (d8 .Sub (k,.int i) (k',.int j)) Q:=oE q
theorem zV(h:i.natAbs<lim/\j.natAbs<lim)(q:Q (.sh,.int (i*j))):Wp (d8 .Mult (k,.int i) (k',.int j)) Q:=#[_,fZ (if_pos h),q]
theorem DB(h:0<j/\j.natAbs<lim)(q:Q (.sh,.int (i / j))):Wp (d8 .FloorDiv (k,.int i) (k',.int j)) Q:=#[_,fZ (if_pos h),q]
theorem HS(h:0<j)(q:Q (.sh,.int (i%j))):Wp (d8 .Mod (k,.int i) (k',.int j)) Q:=#[_,fZ (if_pos h),q]
theorem zW(h:0<=j/\j<=1000000/\i.natAbs<2^64)(q:Q (.sh,.int (i^j.toNat))):Wp (d8 .Pow (k,.int i) (k',.int j)) Q:=#[_,fZ (if_pos h),q]
theorem oH(h:0<=j/\j<=1000000/\i.natAbs<lim)(q:Q (.sh,.int (i*2^j.toNat))):Wp (d8 .LShift (k,.int i) (k',.int j)) Q:=#[_,fZ (if_pos h),q]
theorem HU(h:0<=j)(q:Q (.sh,.int (i / 2^j.toNat))):Wp (d8 .RShift (k,.int i) (k',.int j)) Q:=#[_,fZ (if_pos h),q]
theorem HV{xs ys:-D}(h:dZ k xs=Uj/\dZ k' ys=Uj/\xs.length+ys.length<=100000)(q:Q (.fr bQ,.lst (xs++ys))):Wp (d8 .Add (k,.lst xs) (k',.lst ys)) Q:=#[_,if_pos h,q]
variable {T:Bool->Prop}
theorem EW(q:T (decide (j<=i))):Wp (cA .GtE (.int i) (.int j)) T:=oE q
theorem HW(h:eZ 90 x=Uj/\eZ 90 y=Uj)(q:T (Bz x y)):Wp (cA .Eq x y) T:=#[_,if_pos h,q]
theorem HX(h:eZ 90 x=Uj/\eZ 90 y=Uj)(q:T (!Bz x y)):Wp (cA .NotEq x y) T:=#[_,if_pos h,q]
def vJ:Bz (.int i) (.int j)=decide (i=j):=by
 unfold Bz py;simp[PyData.eqv]
 try rfl
theorem EX(q:T (decide (i=j))):Wp (cA .Eq (.int i) (.int j)) T:=HW #[rfl,rfl] (by rw[vJ];show q)
theorem EY(q:T (!decide (i=j))):Wp (cA .NotEq (.int i) (.int j)) T:=HX #[rfl,rfl] (by rw[vJ];show q)
variable {xs:-D} {d:D} {n:Nat}
theorem HY(a:jY xs.length z=B n)(hd:xs[n]?=B d)(q:Q (nW k n,d)):Wp (Cy (B (k,.nd .lst xs)) (B (k',.int z))) Q:=#[_,by change(match jY xs.length z with|some j=>(xs[j]?).map (λd=>(nW k j,d))|none=>L)=_;rw[a];change(xs[n]?).map _=_;rw[hd];rfl,q]
theorem HZ(a:jY xs.length z=B n)(hd:xs[n]?=B d)(q:Q (nW k n,d)):Wp (Cy (B (k,.nd .tup xs)) (B (k',.int z))) Q:=#[_,by change(match jY xs.length z with|some j=>(xs[j]?).map (λd=>(nW k j,d))|none=>L)=_;rw[a];change(xs[n]?).map _=_;rw[hd];rfl,q]
def oI{m:Nat}{z:Int}(a:0<=z)(h1:z<m):jY m z=B z.toNat:=by delta jY;rw[if_pos a,if_pos h1]
end
def H9{Q:KD->Prop}(h:CI d=B n)(q:Q (.sh,.int n)):Wp (iq "len" [(k,d)]) Q:=by
 rwa[(.sh,.int n),?_,q];let e:iq "len" = yW:=by delta iq;rw[if_pos rfl]
 rw[e];delta yW;cbv;rw[h];rfl
theorem vK{Q:KD->Prop}(h:dZ k ds=Uj)(q:Q (.fr bQ,.lst ds)):Wp (iq "list" [(k,.nd .lst ds)]) Q:=#[_,if_pos h,q]
def Ia{Q:KD->Prop}{bs:-Bool}(q:Q (.sh,.bl (bs.all id))):Wp (iq "all" [(k,.nd .lst (bs.map D.bl))]) Q:=by
 rwa[(.sh,.bl (bs.all id)),?_,q];let e:iq "all" [(k,.nd .lst (bs.map D.bl))]=(c8 (bs.map D.bl)).map λbs=>(Kd.sh,D.bl (bs.all id)):=rfl;rw[e,j3];rfl
def vL{U:Fn}{kds:-KD}{Q:KD->Prop}(h:Wp (U (kds.map (·.2))) λr=>bt r.1=Uk/\((kds.all λp=>pK p.1 p.2)=Uj\/lu r.1 r.2=Uj)/\Q r):Wp (CP U kds) Q:=by
 obtain⟨⟨f,d⟩,e,b,c,q⟩:=h;rwa[(f,d),?_,q];delta CP;rw[e];cbv;by_cases a:(kds.all λp=>pK p.1 p.2)=Uj
 .rw[if_pos a,if_neg ↥b]
 .rw[if_neg a,if_pos (c.resolve_left a)]
section
variable {Γ:GG} {Z:Ro} {Q:Kd×D×Ro->Prop}
def eE(h:Wp (aa Γ.fn e Z) λx=>Q (x.1,x.2,Z)):Wp (bT Γ (.p e) Z) Q:=by
 let⟨x,a,q⟩:=h;rwa[_,by rw[zt,a];rfl,q]
theorem gE{i:Nat}(h:Z[i]?=B (B #[Uk,.own es r,d]))(q:Q (.fr (.own es r),d,Z.set i L)):Wp (bT Γ (.mv i) Z) Q:=#[_,by rw[HA];delta zm;rw[h];rfl,q]
def LF{U:Fm}(b:Γ.fm f=B U)(h:Wp (fH Γ as Z) λp=>(dC p.1).Nodup/\Σks,eR p.2 p.1=B ks/\Wp (U ks) λo=>bt o.1=Uk/\o.2.2.length=p.1.length/\Q (o.1,o.2.1,dD p.1 (o.2.2.map EH) p.2)):Wp (bT Γ (.io f as) Z) Q:=by
 obtain⟨⟨j,k⟩,e,a,ks,hk,⟨m,d,l⟩,g,c,i,q⟩:=h;rwa[_,?_,q];rw[tw,b,e];delta C9;cbv;rw[if_pos a,hk];cbv;rw[g];cbv;show if_neg (by rw[c];simpa using i)
def EZ{f:-KD->@&KD}(h:Wp a λp=>Wp (f p.1) λr=>Q (r.1,r.2,p.2)):Wp (oS f a) Q:=by
 obtain⟨⟨b,e⟩,g,r,c,q⟩:=h
 rwa[_,by rw[g];change(match f b with|some (kd,d)=>B (kd,d,e)|none=>L)=_;rw[c],q]
def lP(h:Wp (fu Γ as Z) λp=>Wp (jm k (B p.1)) λr=>Q (r.1,r.2,p.2)):Wp (bT Γ (.tup k as) Z) Q:=by rw[Df];show EZ h
def zX(h:Wp (fu Γ as Z) λp=>Σx y,p.1=[x,y]/\Wp (d8 op x y) λr=>Q (r.1,r.2,p.2)):Wp (bT Γ (.bin op as) Z) Q:=by
 rw[Dg];show EZ (h.mono λp ⟨x,y,e,w⟩=>by rw[e];show w)
def DC{cap:-(@&Nat)}(h:Wp (qm Γ it Z) λp=>p.1=[]/\p.2.1.length<=100000/\Wp (aG r (iH cap tg (De Γ ts) (bT Γ elt)) p.2.1 (aT p.2.2 cap)) λz=>z.2.length=cap.length/\Q (.fr (.own [] r),.lst z.1,dD (jz cap) z.2 p.2.2)):Wp (bT Γ (.comp r cap tg it ts elt) Z) Q:=by
 obtain⟨⟨j,g,i⟩,e,b,a,⟨f,k⟩,d,c,q⟩:=h;rwa[_,?_,q];rw[qo,e];delta jA;cbv at b a d c⊢;rw[if_pos #[b,a],d];cbv;rw[if_pos c]
variable {A:-RA×Ro->Prop}
theorem zY(q:A ([],Z)):Wp (fH Γ .nil Z) A:=#[_,#v[fH],q]
def zZ{i:Nat}(a:Z[i]?=B (B s))(h:Wp (fH Γ r Z) λp=>A (.ref i::p.1,p.2)):Wp (fH Γ (.ref i r) Z) A:=by
 obtain⟨⟨b,d⟩,c,q⟩:=h;rwa[_,by rw[fH,a,c];rfl,q]
def z4(h:Wp (bT Γ a Z) λx=>bt (dW x.1 x.2.1)=Uk/\Wp (fH Γ r x.2.2) λp=>A (.val (dW x.1 x.2.1) x.2.1::p.1,p.2)):Wp (fH Γ (.val a r) Z) A:=by
 obtain⟨⟨g,d,j⟩,e,c,⟨f,i⟩,b,q⟩:=h;rwa[_,?_,q];rw[fH,e]
 change(if bt (dW g d)=Uj then L else _)=_
 cbv at c b;rw[if_neg (by rw[c];decide),b]
variable {S:-KD×Ro->Prop}
def jH(h:Wp (bT Γ a Z) λx=>Wp (bf Γ.fn r x.2.2) λxs=>S ((x.1,x.2.1)::xs,x.2.2)):Wp (fu Γ (.fin a r) Z) S:=by
 obtain⟨⟨f,d,b⟩,e,xs,c,q⟩:=h;rwa[_,?_,q];rw[fu,e]
 change(match bf Γ.fn r b with|some kds=>B ((f,d)::kds,b)|none=>L)=_
 cbv at c;rw[c]
def cL(h:Wp (bT Γ a Z) λx=>bt (dW x.1 x.2.1)=Uk/\Wp (fu Γ r x.2.2) λp=>S ((dW x.1 x.2.1,x.2.1)::p.1,p.2)):Wp (fu Γ (.cons a r) Z) S:=by
 obtain⟨⟨g,d,j⟩,f,c,⟨e,i⟩,b,q⟩:=h;rwa[_,?_,q];rw[fu,f]
 change(if bt (dW g d)=Uj then L else _)=_
 cbv at c b;rw[if_neg (by rw[c];decide),b]
variable {T:Bool×Ro->Prop}
def lQ(h:Wp (aR Γ.fn e Z) λb=>T (b,Z)):Wp (oj Γ (.p e) Z) T:=by
 let⟨x,a,q⟩:=h;rwa[_,show MS _ _=_ by rw[a];rfl,q]
variable {I:-Nat×-D×Ro->Prop}
def ff(h:Wp (gp Γ.fn it Z) λp=>I (p.1,p.2,Z)):Wp (qm Γ (.p it) Z) I:=by
 let⟨x,a,q⟩:=h;rwa[_,show JA _ _=_ by rw[a];rfl,q]
end
theorem tT{P:-Nat×-D->Prop}(h:f6 i j=Uj)(q:P ([],gP i j)):Wp (sQ (B (k,.int i)) (B (k',.int j))) P:=#[_,if_pos h,q]
def gY{i j:Int}(h1:-100000<=i)(h2:i<=100000)(c:-100000<=j)(a:j<=100000)(b:j-i<=100000):f6 i j=Uj:=by
 dsimp[f6,Qd,decide_eq_true_eq]
 lia
def z5{i j:Int}{n:Nat}(h:(gP i j)[n]?=B d):d=.int (i+n)/\i+n<j:=by
 unfold gP at h;rw[Qc] at h;let⟨m,a,rfl⟩:=bI h;let b:=(Qb.mp a).1;rw[QC] at b;rw[QU b] at a;ext a;rwa[rfl,∅]
theorem fL{P:-Nat×-D->Prop}(h:dZ k ds=Uj)(q:P (pS k,ds)):Wp (sO (B (k,.nd .lst ds))) P:=#[_,if_pos h,q]
theorem tU{P:-Nat×-D->Prop}(h:dZ k ds=Uj)(q:P ([],ds)):Wp (sO (B (k,.nd .tup ds))) P:=#[_,if_pos h,q]
theorem z6{ns:-Int}{P:-Nat×-D->Prop}(q:P ([],ns.map D.int)):Wp (sO (B (k,.scr ns))) P:=#[_,rfl,q]
def Kt(Γ:GG)(N:Nat)(rest:bq)(pn:-Nat)(Q:Res->Prop):Res->Prop
 |.nx Z=>Wp (ao Γ N rest pn Z) Q
 |r=>Q r
section
variable {Γ:GG} {N:Nat} {pn:-Nat} {Z:Ro} {Q:Res->Prop} {rest:bq}
theorem cH(h:Wp (ao Γ N rest pn Z) Q):Kt Γ N rest pn Q (.nx Z):=h
theorem vM(h:Q (.rt k d Z)):Kt Γ N rest pn Q (.rt k d Z):=h
theorem aL(q:Q (.nx Z)):Wp (ao Γ N .nil pn Z) Q:=#[_,#v[ao],q]
def dU(h:Wp (mw Γ N s pn Z) (Kt Γ N rest pn Q)):Wp (ao Γ N (.cons s rest) pn Z) Q:=by
 let⟨r,a,q⟩:=h
 cases r with
 |nx b=>let⟨z,c,q⟩:=q;rwa[z,by rw[ao,a];show c,q]
 |rt k d b=>rwa[_,by rw[ao,a];rfl,q]
 |ct b=>rwa[_,by rw[ao,a];rfl,q]
 |bk b=>rwa[_,by rw[ao,a];rfl,q]
def iN(h:Wp (bT Γ a Z) λx=>(bt (dW x.1 x.2.1)=Uk/\i∉pn)/\Wp (ao Γ N rest pn (x.2.2.set i (B #[Uk,HD (dW x.1 x.2.1),x.2.1]))) Q):Wp (ao Γ N (.cons (.asg i a) rest) pn Z) Q:=by
 obtain⟨⟨f,d,e⟩,c,b,w⟩:=h;show dU #[.nx _,?_,cH w];rw[Dq,c];show if_neg (by cbv at b;rw[b.1];simpa using b.2)
def Ib{is:-Nat}(h:Wp (bT Γ a Z) λx=>Σds es r,x.2.1=.nd .tup ds/\jC x.1 ds=B (es,r)/\(is.length=ds.length/\(is.all λi=>!pn.contains i)=Uj)/\Wp (ao Γ N rest pn (qu is ds es r x.2.2)) Q):Wp (ao Γ N (.cons (.unp is a) rest) pn Z) Q:=by
 obtain⟨⟨g,d,e⟩,c,ds,es,r,b,hk,f,w⟩:=h;cbv at b hk;subst b;show dU #[.nx _,?_,cH w];rw[Dr,c]
 change(match jC g ds with|some (es,r)=>if is.length=ds.length/\(is.all λi=>!pn.contains i)=Uj then B (Res.nx (qu is ds es r e)) else L|none=>L)=_
 rw[hk];show if_pos f
def E1{i:Nat}{s:Sl}(e:Z[i]?=B (B s))(h:Wp (bT Γ a Z) λx=>i∉pn/\Wp (Dl op s.d x.2.1) λz=>Wp (ao Γ N rest pn (x.2.2.set i (B (Jx z)))) Q):Wp (ao Γ N (.cons (.aug i op a) rest) pn Z) Q:=by
 obtain⟨⟨j,d,g⟩,c,f,z,b,w⟩:=h;show dU #[.nx _,?_,cH w];rw[Dt,c,e]
 change(if i∈pn then L else _)=_
 cbv at b;rw[if_neg f,b]
def m9{b:BP}(h:Wp (bT Γ a Z) λx=>Wp (xh Γ.fn b x.2.2) λp=>Wp (aa Γ.fn k x.2.2) λy=>Σes r hd ds kk c,p.1=.own es r/\p.2.1=.nd hd ds/\x.2.2[b.slot]?=B (B #[Uk,kk,c])/\Wp (ow es r hd ds y.2 (dW x.1 x.2.1,x.2.1)) λz=>Wp (ao Γ N rest pn (x.2.2.set b.slot (B #[Uk,kk,p.2.2 (.nd z.1 z.2)]))) Q):Wp (ao Γ N (.cons (.put b k a) rest) pn Z) Q:=by
 obtain⟨⟨s,d,q⟩,j,⟨pk,o,up⟩,g,⟨n,m⟩,f,es,r,hd,ds,kk,c,e1,e2,e3,⟨l,i⟩,e,w⟩:=h;cbv at e1 e2 e3 g f e;subst e1 e2;show dU #[.nx _,?_,cH w];rw[Du,j];delta zH;cbv;rw[g,f,e3];cbv;rw[e]
def fN(h:Wp (bT Γ a Z) λx=>bt (dW x.1 x.2.1)=Uk/\Q (.rt (dW x.1 x.2.1) x.2.1 x.2.2)):Wp (ao Γ N (.cons (.ret a) rest) pn Z) Q:=by
 obtain⟨⟨f,d,e⟩,c,b,q⟩:=h;show dU #[.rt _ _ _,?_,vM q];rw[Dv,c];show if_neg (by cbv at b;rw[b];decide)
def vN(h:Wp (bT Γ a Z) λx=>Wp (ao Γ N rest pn x.2.2) Q):Wp (ao Γ N (.cons (.exp a) rest) pn Z) Q:=by
 obtain⟨⟨e,d,c⟩,b,w⟩:=h;show dU #[.nx _,?_,cH w];rw[Dx,b];rfl
def LG(h:Wp (oj Γ t Z) λp=>(p.1=Uj->Wp (ao Γ N a pn p.2) (Kt Γ N rest pn Q))/\(p.1=Uk->Wp (ao Γ N b pn p.2) (Kt Γ N rest pn Q))):Wp (ao Γ N (.cons (.ifs t a b) rest) pn Z) Q:=by
 obtain⟨⟨r,g⟩,d,e,f⟩:=h
 cases r with
 |true=>let⟨x,c,q⟩:=e rfl;show dU #[x,by rw[vp,d];show c,q]
 |false=>let⟨x,c,q⟩:=f rfl;show dU #[x,by rw[vp,d];show c,q]
theorem lR{fb:Ro->@&Res}(I:Nat->Ro->Prop):∀(ds:-D) (j:Nat) (Z:Ro),I j Z->(∀(i:Nat) d Z,ds[i]?=B d->I (j+i) Z->Σps,sV tg d=B ps/\(ps.all λp=>!pn.contains p.1)=Uj/\Wp (fb (setAll ps (clrN fg Z))) λr=>ΣZ',(r=.nx Z'\/r=.ct Z')/\I (j+i+1) Z')->
  ΣZ',fK pn fg tg fb ds Z=B (.nx (clrN fg Z'))/\I (j+ds.length) Z'
 |[],j,Z,h0,_=>#[Z,rfl,h0]
 |d::ds,j,Z,h0,hs=>by
  let⟨ps,e1,e2,r,a,g,l,k⟩:=hs 0 d Z rfl h0
  let⟨f,e3,h⟩:=lR I ds (j+1) g k λi c Z' e b=>by
   have:=hs (i+1) c Z' ↥e (by rw[show j+(i+1)=j+1+i by lia];show b);rw[show j+(i+1)+1=j+1+i+1 by lia] at this;show this
  rwa[f,?_,by rw[QI,show j+(ds.length+1)=j+1+ds.length by lia];show h];delta fK;rw[e1];cbv;rw[if_pos e2,a];obtain rfl|rfl:=l
  .show e3
  .show e3
def gG(h:Wp (qm Γ it Z) λp=>ΣI:Nat->Ro->Prop,I 0 (clrN p.1 p.2.2)/\(∀(i:Nat) d Z,p.2.1[i]?=B d->I i Z->Σps,sV tg d=B ps/\(ps.all λq=>!(pn++p.1).contains q.1)=Uj/\Wp (ao Γ N b (pn++p.1) (setAll ps (clrN fg Z))) λr=>ΣZ',(r=.nx Z'\/r=.ct Z')/\I (i+1) Z')/\
  ∀Z',I p.2.1.length Z'->Wp (ao Γ N rest pn (BB p.1 p.2.2 (clrN fg Z'))) Q):Wp (ao Γ N (.cons (.fo fg tg it b) rest) pn Z) Q:=by
 obtain⟨⟨a,f,c⟩,k,I,l,g,hq⟩:=h
 let⟨Z',e1,m⟩:=lR (pn:=pn++a) I f 0 (clrN a c) l λi d Z e j=>by
  have:=g i d Z e ↥j;simpa using this
 show dU #[.nx _,?_,cH (hq Z' ↥m)];rw[HK,k];change vj a c (fK (pn++a) fg tg (ao Γ N b (pn++a)) f (clrN a c))=_;rw[e1];rfl
end
def LH{f:D->Ro->@&(@&KD×Ro)}{Q:-D×Ro->Prop}{ds:-D}{Z:Ro}(I:Nat->-D->Ro->Prop)(v:I 0 [] Z)(l:∀(i:Nat) d ys Z,ds[i]?=B d->I i ys Z->Wp (f d Z) λo=>Σa,o.1=B a/\bR r a=Uj/\I (i+1) (ys++[a.2]) o.2)(hq:∀ys Z,I ds.length ys Z->Q (ys,Z)):Wp (aG r f ds Z) Q:=by
 let c:∀n,n<=ds.length->Σys b,aG r f (ds.take n) Z=B (ys,b)/\I n ys b:=by
  intro n
  induction n with
  |zero=>intro _;rwa[[],Z,by simp[aG],v]
  |succ n m=>
   intro x;let⟨ys,s,e1,w⟩:=m ∅;let k:ds[n]?=B ds[n]:=Qi ∅;obtain⟨⟨o,q⟩,t,a,g,u,j⟩:=l n _ ys s k w;cbv at g j;subst g;let p:ds.take (n+1)=ds.take n++[ds[n]]:=by rw[RU,k];rfl
   rwa[ys++[a.2],q,?_,j];rw[p];show cX e1 (by simp[aG,t,u])
 let⟨ys,b,e,h⟩:=c ds.length (Qe _);rw[QQ] at e;rwa[_,e,hq ys b h]
def Om{f:D->@&(@&KD)}{Q:-D->Prop}{ds:-D}(P:Nat->D->Prop)(c:∀(i:Nat) d,ds[i]?=B d->Wp (f d) λo=>Σa,o=B a/\bR r a=Uj/\P i a.2)(hq:∀ys,ys.length=ds.length->(∀(i:Nat) y,ys[i]?=B y->P i y)->Q ys):Wp (aQ r f ds) Q:=by
 let b:∀(ds:-D) (j:Nat),(∀(i:Nat) d,ds[i]?=B d->Wp (f d) λo=>Σa,o=B a/\bR r a=Uj/\P (j+i) a.2)->Σys,aQ r f ds=B ys/\ys.length=ds.length/\∀(i:Nat) y,ys[i]?=B y->P (j+i) y:=by
  intro ds
  induction ds with
  |nil=>intro j _;rwa[[],rfl,rfl,λi y e=>by simp at e]
  |cons d ds g=>
   intro j h;let⟨o,m,a,rfl,n,k⟩:=h 0 d rfl
   let⟨ys,e1,e2,e3⟩:=g (j+1) λi l e=>by
    have:=h (i+1) l ↥e;rw[show j+(i+1)=j+1+i by lia] at this;show this
   rwa[a.2::ys,by simp[aQ,m,e1,n],by simp[e2],λi y e=>?_]
   cases i with
   |zero=>simp at e;subst e;show k
   |succ i=>
    rw[show j+(i+1)=j+1+i by lia];show e3 i y ↥e
 let⟨ys,e1,e2,e3⟩:=b ds 0 λi d e=>by simpa using c i d e
 rwa[ys,e1,hq ys e2 λi y e=>↥(e3 i y e)]
def z7{b:Ro->@&Bool}{a:Ro->@&KD}{Q:@&KD->Prop}(h1:sV tg d=B ps)(h2:bW ps Z0=Uj)(e:b (setAll ps Z0)=B Uj)(h:Wp (a (setAll ps Z0)) λx=>Q (B x)):Wp (dS tg b a Z0 d) Q:=by
 let⟨x,c,q⟩:=h;rwa[_,?_,q];delta dS;rw[h1];cbv;rw[if_pos h2,e];cbv;rw[c];rfl
def Ic{f:Ro->@&(Bool×Ro)}{e:Ro->MR}{Q:@&KD×Ro->Prop}(h1:sV tg d=B ps)(h2:bW ps Z0=Uj/\zl cap ps=Uj)(h:Wp (f (setAll ps Z0)) λb=>(b.1=Uj->Wp (e b.2) λx=>Q (B (dW x.1 x.2.1,x.2.1),clr ps x.2.2))/\(b.1=Uk->Q (L,clr ps b.2))):Wp (iH cap tg f e d Z0) Q:=by
 obtain⟨⟨b,l⟩,a,g,i⟩:=h
 cases b with
 |true=>
  obtain⟨⟨m,j,k⟩,c,q⟩:=g rfl;rwa[_,?_,q];delta iH;rw[h1];cbv;rw[if_pos h2,a];cbv at c⊢;rw[c]
 |false=>
  rwa[_,?_,i rfl];delta iH;rw[h1];cbv;rw[if_pos h2,a]
theorem Ie{b:Ro->@&(Bool×Ro)}{a:Ro->MR}{Q:@&KD×Ro->Prop}(h1:sV tg d=B ps)(h2:bW ps Z0=Uj/\zl cap ps=Uj)(c:b (setAll ps Z0)=B (Uj,setAll ps Z0))(h:Wp (a (setAll ps Z0)) λx=>Q (B (dW x.1 x.2.1,x.2.1),clr ps x.2.2)):Wp (iH cap tg b a d Z0) Q:=
 Ic h1 h2 #[_,c,λZ=>h,λe=>by cases e]
def qG{ds:-D}(b:ds.length=m)(h:Wp (ao Γ N body [] (lL k (ds.map vD))) λr=>Wp (eD (B r)) Q):Wp (bO Γ N m k body ds) Q:=by
 let⟨r,a,z,c,q⟩:=h;rwa[z,by delta bO;rw[if_pos b,a];show c,q]
def LI{ks:-mn}(b:ks.length=m)(h:Wp (ao Γ N body pn (lL k ks)) λr=>Wp (iM m pn (B r)) Q):Wp (oy Γ N m k pn body ks) Q:=by
 let⟨r,a,z,c,q⟩:=h;rwa[z,by delta oy;rw[if_pos b,a];show c,q]
theorem eG{Q:KD->Prop}(a:bt kd=Uk)(q:Q (kd,d)):Wp (eD (B (.rt kd d Z))) Q:=#[_,if_neg (by rw[a];decide),q]
theorem z8{Q:Kd×D×-(@&mn)->Prop}(a:bt kd=Uk)(q:Q (kd,d,outs m pn Z)):Wp (iM m pn (B (.rt kd d Z))) Q:=#[_,if_neg (by rw[a];decide),q]
theorem E2{Q:Kd×D×-(@&mn)->Prop}(q:Q (.sh,.non,outs m pn Z)):Wp (iM m pn (B (.nx Z))) Q:=#[_,rfl,q]
theorem jI{b:Ow}{p2:D}{o:@&(@&Sl)}{es:-Ow}{r:Ow}{hd:Hd}{ds:-D}{kk:Ow}{a:D}{P:-Ow->Ow->Hd->-D->Ow->D->Prop}(e1:b=.own es r)(e2:p2=.nd hd ds)(e3:o=B (B #[Uk,kk,a]))(h:P es r hd ds kk a):Σes r hd ds kk a,b=.own es r/\p2=.nd hd ds/\o=B (B #[Uk,kk,a])/\P es r hd ds kk a:=#[es,r,hd,ds,kk,a,e1,e2,e3,h]
theorem xp{Q:Ow×D×(D->D)->Prop}(h:xh Γ b Z=B r)(q:Q r):Wp (xh Γ b Z) Q:=#[r,h,q]
theorem jJ{Q:Hd×-D->Prop}(h:ow es k hd ds d x=B r)(q:Q r):Wp (ow es k hd ds d x) Q:=#[r,h,q]
theorem tV{Q:KD->Prop}(h:sI k a=B r)(q:Q r):Wp (sI k a) Q:=#[r,h,q]
theorem jK{Q:KD->Prop}(h:jm k a=B r)(q:Q r):Wp (jm k a) Q:=#[r,h,q]
mutual
theorem vO:∀{d:D} {n:Nat},eZ n d=Uj->(py d).canLay0=Uj
 |.non,_,_=>by simp[py,PyData.canLay0]
 |.bl _,_,_=>by simp[py,PyData.canLay0]
 |.int _,_,_=>by simp[py,PyData.canLay0]
 |.str x,_,h=>by let a:PyData.strOk x=Uj:=h;simpa[py,PyData.canLay0] using a
 |.scr ns,_,_=>by simpa[py,PyData.canLay0] using(ku ns).1
 |.nd .lst ds,n,h=>by
  replace h:=QP.mp h;simpa[py,PyData.canLay0] using lS h.2
 |.nd .tup ds,n,h=>by
  replace h:=QP.mp h;simpa[py,PyData.canLay0] using lS h.2
 |.nd (.dic _ _) _,n,h=>by ext h
 |.nd (.obj _ _) _,n,h=>by ext h
theorem lS:∀{ds:-D} {n:Nat},ll n ds=Uj->PyData.canLayAll0 (uE ds)=Uj
 |[],_,_=>by simp[uE,PyData.canLayAll0]
 |d::ds,n,h=>by
  replace h:=QP.mp h;simp[uE,PyData.canLayAll0,vO h.1,lS h.2]
end
def qH(h:eZ n d=Uj):Bz d d=Uj:=by delta Bz;show PySem.SeqAt.eqv_refl _ (vO h)
theorem kK:∀{ds:-D},(∀d∈ds,eZ n d=Uj)->ll n ds=Uj
 |[],_=>rfl
 |d::ds,h=>QP.mpr #[h d Qr,kK λd a=>h d (Qh _ a)]
meta def MZ:DK->@&(Int×Int)
 |.inr [.inl (.inl a),.inl (.inl b)]=>B (a,b)
 |_=>L
def z9:-DK->@&(-(Int×Int))
 |[]=>B []
 |k::ks=>(MZ k).bind λp=>(z9 ks).map λps=>p::ps
meta def hs2(p:Int×Int):Int:=reduceHash (Builtin.Tuple.tupleHashOf [hashInt p.1,hashInt p.2])
def qI(ks:-DK):Bool:=match z9 ks with
 |some ps=>decide (ps.map hs2).Nodup
 |none=>Uk
def qJ(a:@&KD):@&KD:=match a with
 |some (k,.nd (.dic (m+1) ks) ds)=>if dZ k ds=Uj/\qI ks=Uj/\ds.length<=100000 then B (.fr (.own [] .fz),.nd (.dic (m+1) ks) ds) else L
 |_=>L
meta def M0(p q:Int×Int):Bool:=decide (p.1<q.1)||(decide (p.1=q.1)&&decide (p.2<q.2))
def pD(p:Int×Int):D:=.tup [.int p.1,.int p.2]
meta def oJ(p:Int×Int):Int:=p.1*2^40+p.2
meta def gZ(p:Int×Int):Bool:=decide (0<=p.2)&&decide (p.2<2^40)
def fP(p q:Int×Int):Bool:=decide (oJ p<=oJ q)
def qK(ps:-(Int×Int)):@&(-(Int×Int)):=if ps.length<64/\ps.Nodup/\ps.all gZ=Uj then B (ps.mergeSort fP) else L
def xq(a:@&KD):@&KD:=match a with
 |some (_,.nd (.dic (m+1) ks) _)=>(z9 ks).bind λps=>(qK ps).map λr=>(.fr (.own [] .fz),.lst (r.map pD))
 |_=>L
meta def xr(a:@&KD)(Z:Ro):MR:=a.map λp=>(p.1,p.2,Z)
def lU(f:Ro->@&Res)(m k:Nat)(pn:-Nat)(ks:-mn):@&(Kd×D×-(@&mn)):=if ks.length=m then iM m pn (f (lL k ks)) else L
meta def aY:bq->Nat->bq
 |.cons s r,n+1=>.cons s (aY r n)
 |_,_=>.nil
meta def aH:bq->Nat->bq
 |b,0=>b
 |.cons _ r,n+1=>aH r n
 |.nil,_+1=>.nil
end J
namespace L2
open PyProof.Rows
section
variable {prog:Uu} {w:Ux} {A:Uy} {E:Um->Uq->Prop} {s:Uq}
theorem qL{y:Int}:∀{l:-DictEntry},(l.map (·.hash)).Nodup->(l.filter λx=>x.hash==y).length<=1
 |[],_=>∎
 |a::l,hn=>by
  rw[QE,QK] at hn;rw[List.filter_cons];split
  .ext1 c;let c:=eq_of_beq c
   have:l.filter (λx=>x.hash==y)=[]:=by
    rw[List.filter_eq_nil_iff];intro b d z;show hn.1 (Qv.mpr #[b,d,(eq_of_beq z).trans c.symm])
   rw[this];simp
  .show qL hn.2
def qM{id:String}{o:Obj}{es:Array DictEntry}{Q:Array DictEntry->Uq->Prop}(j:s.heap.get? d=B o)(hd:o.data=.dict es ep)(hk:∀e∈es.toList,Σb,e.key=.ref b/\s.TypeIs (.ref b) "tuple")(i:(es.toList.map (·.hash)).Nodup)(h:Q es s) :
  Us (Ut prog w) A (Builtin.Dict.entriesForEmpty id d) Q E s:=by
 delta Builtin.Dict.entriesForEmpty;show Ul (wpAny_dictEntries j hd ?_);show Ul (?_);rw[<- SH];show wpAny_forIn_list _ (λrest Z z=>z=s/\∀e∈rest,e∈es.toList) _ (λe rest Z z c=>?_) (λZ z c=>?_) _ _ #[rfl,λe a=>a]
 .let⟨rfl,f⟩:=c;let a:=f e Qr;let⟨b,k,m⟩:=hk e a
  let n:¬(es.filter λx=>x.hash==e.hash).size > 1:=by
   let e1:(es.filter λx=>x.hash==e.hash).size=(es.toList.filter λx=>x.hash==e.hash).length:=by
    rw[<- RJ,Array.toList_filter]
   rw[e1];have:=qL (y:=e.hash) i
   lia
  show Ul ?_;rw[k];show wpAny_mono (Q:=λq g=>q=Uk/\g=z) ?_ (λq g hq=>?_) (λZ Z x=>x)
  .show Ul (wpAny_specialOf m F.slot_tuple_eq.lookup (Ur #[by decide,rfl]))
  .let⟨rfl,rfl⟩:=hq;dsimp[Bool.not_false,if_true];rw[if_neg n];show Ur #[rfl,λu l=>f u (Qh _ l)]
 .let⟨rfl,z_⟩:=c;show Ur h
def xt{nm:String}{j l:Obj}{es:Array DictEntry}{Q:Unit->Uq->Prop}(h:d≠o)(g:(o==sysModules)=Uk)(hd:s.heap.get? d=B j)(c:j.data=.dict ([].toArray) epd)(f:s.heap.get? o=B l)(a:l.data=.dict es ep)(hk:∀e∈es.toList,Σb,e.key=.ref b/\s.TypeIs (.ref b) "tuple")(m:(es.toList.map (·.hash)).Nodup)(hz:es.size<=sizeLine)(p:es=([].toArray)->Q () s)(h1:Q () { s with heap:=s.heap.update d (Obj.mapDictKeys λZ=>es) }) :
  Us (Ut prog w) A (Builtin.Dict.mergeDict nm d o) Q E s:=by
 delta Builtin.Dict.mergeDict;rw[if_neg ↥h];delta Builtin.Dict.showsAll;rw[if_neg (by rw[g];show Qx)];show Ul (Ur ?_);show Ul (wpAny_dictEntries f a ?_);by_cases i:es=([].toArray)
 .subst i;let e1:(!(decide ((([].toArray):Array DictEntry).size<=8)&&(([].toArray):Array DictEntry).all λe=>(keyPart e.key).isSome))=Uk:=∎
  cbv;rw[e1,if_neg Qx];show Ul (wpAny_dictEpoch f a ?_);show Ul (wpAny_dictEntries f a ?_);show Ul ?_;rw[Std.Legacy.Range.forIn_eq_forIn_range'];show Ur (Ur (p rfl))
 .let e1:(!(decide (es.size<=8)&&es.all λe=>(keyPart e.key).isSome))=Uj:=by
   rw[QZ,Bool.and_eq_false_iff];right
   let k:0<es.toList.length:=by
    obtain q|q:=Nat.eq_zero_or_pos es.toList.length
    .show absurd (Ub.mp (S8.mp q)) i
    .show q
   let⟨b,n,z_⟩:=hk es.toList[0] (S0 k);rw[<- Array.all_toList,List.all_eq_false];rwa[es.toList[0],S0 k,by rw[n];show Qx]
  cbv;rw[if_pos e1];show Ul (wpAny_dictEntries hd c ?_);rw[if_pos (by rfl)];show Ul (qM f a hk m ?_);rw[if_pos ↥i];show Ul (wpAny_updateDictKeysTo hd c (Ur h1) (RQ hz))
def Aa{i:Obj}{es:Array DictEntry}{Q:Um->Uq->Prop}(j:(o==sysModules)=Uk)(p:s.heap.get? o=B i)(k:i.ExactDict)(l:i.data=.dict es ep)(hk:∀e∈es.toList,Σb,e.key=.ref b/\s.TypeIs (.ref b) "tuple")(u:(es.toList.map (·.hash)).Nodup)(hz:es.size<=sizeLine)(h:∀h' n,(∀b q,s.heap.get? b=B q->h'.get? b=B q)->h'.get? s⁻¹=B { cls:=.type "dict",data:=.dict es n }->Q (.ref s⁻¹) { s with heap:=h' }) :
  Us (Ut prog w) A (call (.type "dict") [.ref o]) Q E s:=by
 show callType_codes (Q₁:=λg r=>g=.ref s⁻¹/\r={ s with heap:=s.heap.push { cls:=.type "dict",data:=.dict ([].toArray) } }) F.kt_called_dict (F.kt_typeCall_dict_1 _) F.entry_dict_init (kt_code_dict_new _ #[rfl,rfl]) ?_
 rintro g r ⟨rfl,rfl⟩
 let v:o<s⁻¹:=Qj p;let a:(s.heap.push { cls:=.type "dict",data:=.dict ([].toArray) }).get? s⁻¹=B { cls:=.type "dict",data:=.dict ([].toArray) }:=Qm _ rfl;let d:(Shared.mk (s.heap.push { cls:=.type "dict",data:=.dict ([].toArray) }) s.gens s.drawn s.toks s.os).TypeIs (.ref s⁻¹) "dict":=#[_,a,rfl];let f:(s.heap.push { cls:=.type "dict",data:=.dict ([].toArray) }).get? o=B i:=Qg _ p;let c:(Shared.mk (s.heap.push { cls:=.type "dict",data:=.dict ([].toArray) }) s.gens s.drawn s.toks s.os).TypeIs (.ref o) "dict":=#[_,f,k.1];rwa[d,F.args_dict_init_2 _ _,?_];unfold Builtin.«dict.__init__»;show Ul ?_;delta Builtin.Dict.selfAndRest;show Ul (wpAny_notOrdered_dict d ?_);show Ur ?_;change Us _ _ (Builtin.Dict.updateFrom "dict.__init__" s⁻¹ (.ref o) [] .none) _ _ _;delta Builtin.Dict.updateFrom;show Ul (wpAny_typeOf c ?_);rw[if_neg ⋯];show Ul ?_;delta Builtin.Dict.merge;show Ul ?_;delta Builtin.Dict.readDirectly;show Ul (wpAny_isInstance c isSubtype_dict_dict ?_);dsimp[Ry,Q2,if_false];show Ul (wpAny_specialOf c F.slot_dict_iter.lookup (Ur ?_));dsimp[beq_self_eq_true,if_true];show Ul (Ur ?_);let old:∀b q,b≠s⁻¹->s.heap.get? b=B q->((s.heap.push { cls:=.type "dict",data:=.dict ([].toArray) }).update s⁻¹ (Obj.mapDictKeys λZ=>es)).get? b=B q:=λb q x e=>(RO _ _ (Ne.symm x)).trans (Qg _ e);show xt (Rh v) j a rfl f l (λe m=>?_) u hz (λm=>?_) ?_
 .let⟨b,y,t,e1,e2⟩:=hk e m;rwa[b,y,t,Qg _ e1,e2]
 .subst m;show Ul (Ur (Ur #[rfl,h _ 0 (λb q e=>Qg _ e) a]))
 .have:=RW (Obj.mapDictKeys λZ=>es) a rfl;show Ul (Ur (Ur #[rfl,h _ 1 (λb q e=>old b q (Qu (Qj e)) e) this]))
end
section
variable {X:Cx}
def On(X:Cx)(ta:TA):TE:=λY H Q=>ta Y H λvs H1=>Σa m ep O,vs=[.ref a]/\H1 a=B (.dT m ep O)/\(O.map λp=>(bH m (aN X.prog X.w)).hash p.1).Nodup/\∀p n,H1 p=L->Q (.ref p) (upd H1 p (.dT m n O))
def Ig{a:Uo}(hg:Gl X "dict")(hm:X.mg "dict" = L)(ha:PA X [a] ta)(P:Uv [a] X.env=[(Uk,eval a X.env)]):PE X (.Call (.Name "dict" p) [a] [] pos) (On X ta):=by
 intro j s Y H Q I h;show Call_ (dR I hg hm boot_dict (PyProof.Rows.callWith_type1 (a8 (ha pos j s Y H _ I h) λus s1 ⟨vs,H1,d,R,T,m,ep,g,e,hq,D,q⟩=>?_) P rfl));subst e;let⟨u,rfl,ru⟩:=R.one;cases(ru);let A:=uw d.hok hq;let⟨hd,Z,o,k,f,M,W,C,l⟩:=fA d.hok hq;let N:k.size=g.length:=by rw[size_of_entries l,Paired.length f]
 let hk:∀e∈k.toList,Σb,e.key=.ref b/\s1.TypeIs (.ref b) "tuple":=λe K=>by
  rw[l] at K;let⟨x,S,rfl⟩:=Qv.mp K;let⟨i,hi,rfl⟩:=Tp.mp S;let⟨p,z_,e1,e2,y_⟩:=Paired.get f (Qi hi);rwa[_,rfl,IsDeep.ty (eN d.hok e2)]
 let hh:(k.toList.map (·.hash)).Nodup:=by
  rw[l,QA]
  have:(Z.map ((λx=>x.hash)∘entryOfKey (bH m (aN X.prog X.w))))=g.map λp=>(bH m (aN X.prog X.w)).hash p.1:=by
   clear D l N hk A hq q
   induction f with
   |nil=>rfl
   |cons h t ih=>rw[QE,QE,ih,h.1];rfl
  rw[this];show D
 show Aa hd M W C hk hh (by rw[N];show A.1) λh' n k1 V=>?_;rwa[.ref s1⁻¹,_,d.laid k1 (Qe _) ?_,rfl,q _ n (d.hok.fresh (Qe _))];let⟨z_,y,r,U,o',O,F,g2,E,g4,g5⟩:=(d.hok T _ hq);rw[M] at F;ext F;rw[C] at E;ext E
 show#[A.1,beq_eq_false_iff_ne.mpr (Ne.symm (Qu d.big)),r,KT.keeps U λc ys v=>(by
  rw[ac (λz=>by rw[z,d.hok.fresh (Qe _)] at v;ext v)];show v),_,k,V,#[rfl,rfl,rfl],rfl,g4,g5]
end
end L2
namespace Sr
open PySem PySem.Spec PySem.W PyProof.Rows
meta def Ih{α:Type}(O:Nat->Nat->Bool):KasT α->α
 |.ret a=>a
 |.ask i j k=>Ih O (k (O i j))
meta def Ab{α:Type}(P O:Nat->Nat->Bool):KasT α->Bool
 |.ret _=>Uj
 |.ask i j k=>P i j&&Ab P O (k (O i j))
theorem vP{α:Type}{b:Nat->Nat->(Bool->Uq->Prop)->Uq->Prop}{P a:Nat->Nat->Bool}{Q:α->Uq->Prop}{s:Uq}(c:∀i j C,P i j=Uj->C (a i j) s->b i j C s):∀t:KasT α,Ab P a t=Uj->Q (Ih a t) s->t.kasWp b Q s
 |.ret _,_,q=>q
 |.ask i j k,h,q=>by
  let h:(P i j&&Ab P a (k (a i j)))=Uj:=h;rw[Qd] at h;show c i j _ h.1 (vP c (k (a i j)) h.2 q)
section
variable (K:Nat->Int) (n:Nat)
noncomputable abbrev Ii(i j:Nat):Bool:=decide (i<n)&&decide (j<n)
noncomputable abbrev M3(i j:Nat):Bool:=decide (K i<K j)
def Kv{α:Type}(t:KasT α)(Q:α->Prop):Prop:=Ab (Ii n) (M3 K) t=Uj/\Q (Ih (M3 K) t)
variable {K n}
theorem Kv.ret{α:Type}{a:α}{Q:α->Prop}(q:Q a):Kv K n (.ret a) Q:=#[rfl,q]
theorem Kv.ask{α:Type}{i j:Nat}{k:Bool->KasT α}{Q:α->Prop}(hi:i<n)(a:j<n)(h:Kv K n (k (decide (K i<K j))) Q):Kv K n (.ask i j k) Q:=
 #[by change(Ii n i j&&_)=Uj;rw[show Ii n i j=Uj by simp[hi,a]];show h.1,h.2]
def Kv.bind{α β:Type}{t:KasT α}{f:α->KasT β}{Q:β->Prop}(h:Kv K n t λa=>Kv K n (f a) Q):Kv K n (t.bind f) Q:=by
 induction t with
 |ret a=>show h.2
 |ask i j k d=>
  let⟨b,e⟩:=h;let b:(Ii n i j&&Ab (Ii n) (M3 K) (k (M3 K i j)))=Uj:=b;rw[Qd] at b;let⟨g,c⟩:=d _ #[b.2,e];rwa[by change(Ii n i j&&_)=Uj;rw[b.1];show g,c]
theorem Kv.mono{α:Type}{t:KasT α}{Q R:α->Prop}(h:Kv K n t Q)(k:∀a,Q a->R a):Kv K n t R:=#[h.1,k _ h.2]
noncomputable abbrev gA(p:Array Nat)(i:Nat):Nat:=p.getD i 0
structure KG(n:Nat)(p:Array Nat):Prop where
 perm:p.Perm (List.toArray (Qo n))
def KG.size{p:Array Nat}(h:KG n p):p.size=n:=by rw[h.perm.size_eq];simp
def Ac{p:Array Nat}{i:Nat}(h:i<p.size):p[i]?=B (gA p i):=by delta gA;simp[Array.getD,h]
def KG.lt(h:KG n p){i:Nat}(hi:i<n):gA p i<n:=by
 have:gA p i∈p.toList:=by rw[Tn];show Array.mem_of_getElem? (Ac (by rw[h.size];show hi))
 have:=(R4.mp h.perm).mem_iff.mp this;simpa using this
def KG.inj(h:KG n p){i j:Nat}(hi:i<n)(b:j<n)(e:gA p i=gA p j):i=j:=by
 let a:p.toList.Nodup:=(R4.mp h.perm).nodup_iff.mpr R1;let e1:=Ac (by rw[h.size];show hi);let e2:=Ac (by rw[h.size];show b);rw[<- Q4] at e1 e2;rw[e] at e1;show(TR (Qb.mp e1).1 a).mp (e1.trans e2.symm)
theorem KG.mir(h:KG n p)(i j:Nat):KG n (kas_rev p i j):=#[(mirror_perm _ _ _ _).trans h.perm]
theorem KG.bub(h:KG n p)(i j:Nat):KG n (bubble p i j):=#[(bubble_perm _ _ _).trans h.perm]
def fR{p q:Array Nat}{i j:Nat}(h:p[i]?=q[j]?):gA p i=gA q j:=by delta gA;rw[SM,SM,h]
def Ij{p:Array Nat}{j:Nat}(a:j<=p.size)(k:Nat):gA (kas_rev p 0 j) k=if k<j then gA p (j-1-k) else gA p k:=by
 let e:=getElem?_mirror_all (i:=0) a k;by_cases h:k<j
 .rw[if_pos #[QM _,h],Sz] at e;rw[if_pos h];show fR e
 .rw[if_neg (λz=>h z.2)] at e;rw[if_neg h];show fR e
variable (hK:∀i j,i<n->j<n->K i=K j->i=j)
abbrev E3(K:Nat->Int)(p:Array Nat)(m:Nat):Prop:=∀i j,i<j->j<m->K (gA p i)<K (gA p j)
abbrev Ph(K:Nat->Int)(p:Array Nat)(m:Nat):Prop:=∀i j,i<j->j<m->K (gA p j)<K (gA p i)
include hK
theorem KG.ne(h:KG n p){i j:Nat}(hi:i<n)(a:j<n)(b:i≠j):K (gA p i)≠K (gA p j):=λe=>b (h.inj hi a (hK _ _ (h.lt hi) (h.lt a) e))
theorem Ad(g:KG n p):∀(f m:Nat),1<=m->m+f=n->E3 K p m->Kv K n (kas_asc p f m) λr=>m<=r/\r<=n/\E3 K p r/\(r<n->K (gA p r)<K (gA p (r-1)))
 |0,m,h1,h2,h=>.ret #[Qe _,∅,h,λz=>∅]
 |f+1,m,h1,h2,h=>by
  show .ask (g.lt ∅) (g.lt ∅) ?_;by_cases c:K (p.getD m 0)<K (p.getD (m-1) 0)
  .rw[decide_eq_true c];show .ret #[Qe _,∅,h,λZ=>c]
  .rw[decide_eq_false c];let b:=g.ne hK (i:=m) (j:=m-1) ∅ ∅ ∅;show(Ad g f (m+1) ∅ ∅ λi j a k=>?_).mono λr d=>#[by lia,d.2];by_cases e:j=m
   .subst e;have:K (gA p (j-1))<K (gA p j):=by change K (p.getD (j-1) 0)<K (p.getD j 0);have:K (p.getD j 0)≠K (p.getD (j-1) 0):=b;lia
    by_cases e2:i=j-1
    .rw[e2];show this
    .show S2 (h i (j-1) ∅ ∅) this
   .show h i j a ∅
theorem Ae(g:KG n p):∀(f m:Nat),1<=m->m+f=n->Ph K p m->Kv K n (kas_desc f p m 0) λr=>r.1=p/\r.2.2=0/\m<=r.2.1/\r.2.1<=n/\Ph K p r.2.1
 |0,m,h1,h2,h=>.ret #[rfl,rfl,Qe _,by change m<=n;lia,h]
 |f+1,m,h1,h2,h=>by
  show .ask (g.lt ∅) (g.lt ∅) ?_;let d:K (p.getD m 0)≠K (p.getD (m-1) 0):=g.ne hK ∅ ∅ ∅;by_cases c:K (p.getD m 0)<K (p.getD (m-1) 0)
  .rw[decide_eq_true c];show(Ae g f (m+1) ∅ ∅ λi j b k=>?_).mono λr a=>#[a.1,a.2.1,∅,a.2.2.2];by_cases e:j=m
   .subst e;by_cases e2:i=j-1
    .rw[e2];show c
    .show S2 c (h i (j-1) ∅ ∅)
   .show h i j b ∅
  .rw[decide_eq_false c];show .ask (g.lt ∅) (g.lt ∅) ?_;rw[decide_eq_true ∅];show .ret #[rfl,rfl,Qe _,by change m<=n;lia,h]
def DD(h1:2<=n)(g:KG n p):Kv K n (kas_count n p) λr=>1<=r.1/\r.1<=n/\KG n r.2/\E3 K r.2 r.1:=by
 show .bind ((Ad hK g (n-1) 1 (Qe _) ∅ λi j f b=>∅).mono λm a=>?_);by_cases e:m=n
 .rw[if_pos (by rw[e];show beq_self_eq_true n)];show .ret #[a.1,a.2.1,g,a.2.2.1]
 .rw[if_neg ↥e];by_cases c:m > 1
  .rw[if_pos c];show .ask (g.lt ∅) (g.lt ∅) ?_;rw[decide_eq_true (a.2.2.1 0 (m-1) ∅ ∅)];show .ret #[a.1,a.2.1,g,a.2.2.1]
  .rw[if_neg c];obtain rfl:m=1:=∅
   show .bind ?_;let c:K (p.getD 1 0)<K (p.getD 0 0):=a.2.2.2 ∅;show(Ae hK g (n-2) 2 ∅ ∅ λi j f b=>?_).mono λr o=>?_
   .obtain rfl:i=0:=∅
    obtain rfl:j=1:=∅
    show c
   .let⟨rfl,q,s,l,h⟩:=o;rw[if_neg ∅];show .bind ?_
    let d:∀k,gA (kas_rev r.1 0 r.2.1) k=if k<r.2.1 then gA r.1 (r.2.1-1-k) else gA r.1 k:=Ij (by rw[g.size];show l)
    show(Ad hK (g.mir 0 r.2.1) (n-r.2.1) r.2.1 ∅ ∅ λi j f b=>?_).mono λm a=>.ret #[by change 1<=m;lia,a.2.1,g.mir 0 r.2.1,a.2.2.1];rw[d,d,if_pos ∅,if_pos b];show h _ _ ∅ ∅
theorem oK(g:KG n p){k:Nat}(hk:k<n):∀(f l r:Nat),l<=r->r<=k->r-l<=f->(∀i,i<l->K (gA p i)<K (gA p k))->(∀i,r<=i->i<k->K (gA p k)<K (gA p i))->E3 K p k->Kv K n (kas_place p k f l r) λm=>m<=k/\(∀i,i<m->K (gA p i)<K (gA p k))/\∀i,m<=i->i<k->K (gA p k)<K (gA p i)
 |0,l,r,h1,h2,h3,h4,h5,h6=>by
  obtain rfl:l=r:=∅
  show .ret #[h2,h4,h5]
 |f+1,l,r,h1,h2,h3,h4,h5,h6=>by
  delta kas_place;by_cases e:l ≥ r
  .rw[if_pos e];obtain rfl:l=r:=∅
   show .ret #[h2,h4,h5]
  .rw[if_neg e];show .ask (g.lt hk) (g.lt ∅) ?_;by_cases c:K (p.getD k 0)<K (p.getD ((l+r) / 2) 0)
   .rw[decide_eq_true c];show oK g hk f l ((l+r) / 2) ∅ ∅ ∅ h4 (λi d a=>?_) h6;by_cases e2:i=(l+r) / 2
    .rw[e2];show c
    .show S2 c (h6 _ i ∅ a)
   .rw[decide_eq_false c];let h:K (p.getD k 0)≠K (p.getD ((l+r) / 2) 0):=g.ne hK hk ∅ ∅;let b:K (gA p ((l+r) / 2))<K (gA p k):=by change K (p.getD ((l+r) / 2) 0)<K (p.getD k 0);lia
    show oK g hk f ((l+r) / 2+1) r ∅ h2 ∅ (λi d=>?_) h5 h6;by_cases e2:i=(l+r) / 2
    .rw[e2];show b
    .show S2 (h6 i _ ∅ ∅) b
theorem E4:∀(f:Nat) {p:Array Nat} (k:Nat),KG n p->k+f=n->E3 K p k->Kv K n (kas_bin f p k) λq=>KG n q/\E3 K q n
 |0,p,k,g,h1,h=>by
  obtain rfl:k=n:=∅
  show .ret #[g,h]
 |f+1,p,k,g,h1,h=>by
  show .bind ((oK hK g ∅ k 0 k (QM _) (Qe _) ∅ (λi c=>∅) (λi c r=>∅) h).mono λl u=>?_);let⟨w,t,s⟩:=u
  let m:∀i,gA (bubble p k (k-l)) i=if i=l then gA p k else if l<i/\i<=k then gA p (i-1) else gA p i:=λi=>by
   let e:=getElem?_bubble (src:=k) (by rw[g.size];lia) (k-l) ∅ i;rw[show k-(k-l)=l by lia] at e;by_cases b:i=l
   .rw[if_pos b] at e⊢;show fR e
   .rw[if_neg b] at e⊢;by_cases a:l<i/\i<=k
    .rw[if_pos a] at e⊢;show fR e
    .rw[if_neg a] at e⊢;show fR e
  show E4 f (k+1) (g.bub _ _) ∅ λi j c v=>?_;rw[m,m];by_cases d:i=l
  .rw[if_pos d,if_neg ∅,if_pos ∅];show s _ ∅ ∅
  .rw[if_neg d];by_cases o:j=l
   .rw[if_pos o,if_neg ∅];show t _ ∅
   .rw[if_neg o];by_cases b:l<i/\i<=k
    .rw[if_pos b,if_pos ∅];show h _ _ ∅ ∅
    .rw[if_neg b];by_cases a:l<j/\j<=k
     .rw[if_pos a];show h _ _ ∅ ∅
     .rw[if_neg a];show h _ _ c ∅
def Ik(h2:2<=n):Kv K n (kas_sort n) λq=>KG n q/\E3 K q n:=by
 show .bind ((DD hK h2 #[Array.Perm.refl _]).mono λr d=>?_);let⟨c,f,b,a⟩:=d;by_cases e:r.1<n
 .rw[if_pos e,Nat.max_eq_left c];show E4 hK _ _ b ∅ a
 .rw[if_neg e];have:n=r.1:=∅
  show .ret #[b,by rw[this];show a]
end
end Sr
namespace L2
open PySem PySem.Spec PySem.W PyProof.Rows
open J (oJ gZ fP qK)
def dG(h:Uz)(v:Um)(p:Int×Int):Prop:=Σb o t u n,v=.ref b/\h.get? b=B o/\o.cls=.type "tuple"/\o.data=.seq [.int p.1 t,.int p.2 u].toArray n
def kM{p:Int×Int}(h:gZ p=Uj):0<=p.2/\p.2<1099511627776:=by
 dsimp[gZ,Qd,decide_eq_true_eq] at h;rwa[h.1,by have:=h.2;lia]
def Il{p q:Int×Int}(a:gZ p=Uj)(hq:gZ q=Uj):J.M0 p q=decide (oJ p<oJ q):=by
 let c:=kM a;let b:=kM hq;unfold J.M0 oJ;rw[R9];dsimp[Rn,Qd,decide_eq_true_eq]
 lia
def vQ(a:gZ p=Uj)(hq:gZ q=Uj)(e:oJ p=oJ q):p=q:=by
 let c:=kM a;let b:=kM hq;unfold oJ at e;show Prod.ext ∅ ∅
theorem Af(ps:-(Int×Int)):(ps.mergeSort fP).Pairwise λa b=>fP a b=Uj:=
 List.pairwise_mergeSort (λa b c d e=>by unfold fP at d e⊢;dsimp[decide_eq_true_eq] at d e⊢;lia) (λa b=>by delta fP;dsimp[Rn,decide_eq_true_eq];lia) ps
def Ag(ps:-(Int×Int))(is:-Nat):Prop:=is.Perm (Qo ps.length)/\ps.mergeSort fP=is.map λi=>ps.getD i (0,0)
def iO{α:Type}(l:List α)(d:α):(Qo l.length).map (λi=>l.getD i d)=l:=by
 show RV λi=>?_;rw[Qc];by_cases h:i<l.length
 .rw[QU h];simp[h]
 .rw[QT ↥h,QT ∅];rfl
def LJ{ps:-(Int×Int)}{p:Array Nat}(n:ps.all gZ=Uj)(g:Sr.KG ps.length p)(h:Sr.E3 (λi=>oJ (ps.getD i (0,0))) p ps.length):Ag ps p.toList:=by
 let d:p.toList.Perm (Qo ps.length):=R4.mp g.perm;rwa[d,List.Perm.eq_of_pairwise (λa b m f q o=>?_) (Af ps) ?_ ((R7 _ _).trans ?_)]
 .let m:=QB.mp n a ((R7 _ _).mem_iff.mp m)
  let c:b∈ps:=by
   have:=(d.map λi=>ps.getD i (0,0)).mem_iff.mp f;rw[iO] at this;show this
  let c:=QB.mp n b c;unfold fP at q o;dsimp[decide_eq_true_eq] at q o;show vQ m c ∅
 .rw[List.pairwise_iff_getElem];intro i j s r l;rw[Qa,RJ,g.size] at s r;rw[Uc,Uc];have:=h i j l r
  let e:∀k (hk:k<p.toList.length),p.toList[k]=p.getD k 0:=λk hk=>by
   let hk:k<p.size:=by simpa using hk
   simp[Array.getD,hk]
  rw[e,e];delta fP;show decide_eq_true (Int.le_of_lt this)
 .have:=(d.map λi=>ps.getD i (0,0)).symm;rw[iO] at this;show this
section
variable {prog:Uu} {w:Ux} {A:Uy} {E:Um->Uq->Prop} {s:Uq}
def Im{C:Bool->Uq->Prop}(c:dG s.heap x p)(d:dG s.heap y q)(h:C (J.M0 p q) s):Us (Ut prog w) A (keyLt' (tuples' Uj) x y) C E s:=by
 let⟨b,o,t,u,n,rfl,i,m,g⟩:=c;let⟨b2,l,z,v,r,rfl,f,k,j⟩:=d;show kat_lt i g f j ?_;show kat_cons (wpAny_eqBool_int ?_);unfold J.M0 at h;by_cases e:p.1=q.1
 .rw[show(p.1==q.1)=Uj from beq_iff_eq.mpr e];show kat_yes (kat_cons (wpAny_eqBool_int ?_));let a:decide (p.1<q.1)=Uk:=decide_eq_false ∅;rw[a,decide_eq_true e,Ts,R5] at h;by_cases e2:p.2=q.2
  .rw[show(p.2==q.2)=Uj from beq_iff_eq.mpr e2];show kat_yes (kat_nil ?_);rw[decide_eq_false ∅] at h;show h
  .rw[show(p.2==q.2)=Uk from beq_eq_false_iff_ne.mpr e2];show kat_no (kat_one _ _ (lt_int h))
 .rw[show(p.1==q.1)=Uk from beq_eq_false_iff_ne.mpr e];rw[decide_eq_false e,Rk,SR] at h;show kat_no (oneLt_int h)
theorem qN:∀{vs:-Um} {ps:-(Int×Int)},Paired (dG h) vs ps->Σfs,KatTups h vs fs/\fs.length=vs.length/\∀v∈fs,Σi t,v=.int i t
 |_,_,.nil=>#[[],.nil,rfl,λZ h=>nomatch h]
 |_,_,.cons hx a=>by
  let⟨b,o,t,u,n,rfl,g,c,d⟩:=hx;let⟨fs,k,l,f⟩:=qN a;rwa[_::fs,.cons g c d rfl k,#v[QI,QI,l],λv a=>(Qf.mp a).elim (λe=>#[_,_,e]) (f v)]
def tW{vs:-Um}{ps:-(Int×Int)}{P:Fin->Uq->Prop}(y:s.heap.get? a=B (seqObj "list" vs.toArray n))(M:Paired (dG s.heap) vs ps)(hc:ps.length<64)(nd:ps.Nodup)(N:ps.all gZ=Uj)(h:∀is,Ag ps is->P (.done (.ret .none)) { s with heap:=sortedHeap s.heap a vs (is.map λi=>vs.getD i Value.none).toArray }) :
  Us (Ut prog w) A (Builtin.«list.sort» #[[.ref a],[]]) P E s:=by
 let c:vs.length=ps.length:=Paired.length M;rw[list_sort_plain];let X:a<s⁻¹:=Qj y;show Ul (listItems_at y rfl ?_);show Ul (listUpdate_at y rfl ?_);obtain⟨e1,H⟩:Σe1,(s.heap.update a (Obj.mapSeq λJ=>([].toArray))).get? a=B (seqObj "list" ([].toArray) e1):=#[_,get?_update_seq y (λJ=>([].toArray))];show Ul (seqEpoch_at H rfl ?_);show Ul (wpAny_newTuple ?_ (by change vs.length<=_;rw[sizeLine_eq];lia));show Ul (wpAny_newList ?_);show UF ?_
 let l:(((s.heap.update a (Obj.mapSeq λJ=>([].toArray))).push (seqObj "tuple" vs.toArray 0)).push (seqObj "list" ([].toArray) 0)).get? a=B (seqObj "list" ([].toArray) e1):=by
  rw[TU _ _ _ (by rw[size_push',Ud];show Qu (RR X)),TU _ _ _ (by rw[Ud];show Qu X)];show H
 let old:∀{b o},b≠a->s.heap.get? b=B o->(((s.heap.update a (Obj.mapSeq λJ=>(([].toArray):Array Um))).push (seqObj "tuple" vs.toArray 0)).push (seqObj "list" ([].toArray) 0)).get? b=B o:=λN e=>Qg _ (Qg _ ((RO _ _ (Ne.symm N)).trans e));cbv;let m:∀{x p},dG s.heap x p->dG (((s.heap.update a (Obj.mapSeq λJ=>(([].toArray):Array Um))).push (seqObj "tuple" vs.toArray 0)).push (seqObj "list" ([].toArray) 0)) x p:=λ{x p} ⟨b,o,t,u,n,e1,e2,e3,e4⟩=>#[b,o,t,u,n,e1,old (λz=>by subst z;rw[y] at e2;ext e2;show absurd (show Value.type "list" = Value.type "tuple" from e3) ⋯) e2,e3,e4];let F:=Paired.mapP M λJ J=>m;by_cases g:vs.toArray.size<2
 .rw[if_pos g,if_pos g];let g:vs.length<2:=by simpa using g
  show Ul (Ur ?_);rw[StateT.run_pure];show Ul (Ur ?_);cbv;show Ul (seqEpoch_at l rfl ?_);show Ul (listUpdate_at l rfl ?_ (hsz2:=by rw[Array.size_map];change(pairsOf vs).size<=_;rw[pairsOf_size,sizeLine_eq];lia));dsimp[bne_self_eq_false,Q2,if_false]
  let e2:(arrOf (SortSt.mk' general' (vs.toArray.zip vs.toArray) ([].toArray) 7 L)).map (·.2)=vs.toArray:=by
   apply Ub.mp;rw[Array.toList_map,Array.toList_zip];show List.map_snd_zip (Qe _)
  have:=h (Qo ps.length) #[List.Perm.refl _,by
   rw[iO]
   match ps,c▸g with
   |[],_=>show List.mergeSort_nil
   |[p],_=>show List.mergeSort_singleton p]
  rw[<- c,iO] at this;show Ur (by rw[<- e2] at this;show this)
 .rw[if_neg g,if_neg g];let g:¬vs.length<2:=by simpa using g
  let⟨fs,kt,kl,kf⟩:=qN F;show Ul (kat_kind (T:=.type "int") kt ∅ (λv M=>?_) ⋯ ?_)
  .let⟨i,t,rfl⟩:=kf v M;show .now
  rw[show(Value.type "int" != Value.type "tuple")=Uj by decide];let f:∀i,i<ps.length->gZ (ps.getD i (0,0))=Uj:=λi K=>QB.mp N _ (by simp[K])
  let hK:∀i j,i<ps.length->j<ps.length->oJ (ps.getD i (0,0))=oJ (ps.getD j (0,0))->i=j:=λi j K Y e=>by
   have:=vQ (f i K) (f j Y) e;let e1:ps[i]?=B (ps.getD i (0,0)):=by simp[K]
   let e2:ps[j]?=B (ps.getD j (0,0)):=by simp[Y]
   rw[this] at e1;show(TR K nd).mp (e1.trans e2.symm)
  let⟨V,O⟩:=Sr.Ik hK ∅;rw[<- c] at V O
  show Ul (wpAny_mono (kat_run (κ:=tuples' Uj)
   (Q:=λd I=>I={ s with heap:=((s.heap.update a (Obj.mapSeq λJ=>(([].toArray):Array Um))).push (seqObj "tuple" vs.toArray 0)).push (seqObj "list" ([].toArray) 0) }/\failedOf d=L/\Σis,Ag ps is/\(arrOf d).map (·.2)=(is.map λi=>vs.getD i Value.none).toArray)
   (G:=λr I=>I={ s with heap:=((s.heap.update a (Obj.mapSeq λJ=>(([].toArray):Array Um))).push (seqObj "tuple" vs.toArray 0)).push (seqObj "list" ([].toArray) 0) }/\Ag ps r.toList)
   rfl ∅ ∅ (λr d I a1 a2 a3 Z=>#[Z.1,a3,r.toList,Z.2,kat_snds rfl a2]) (Sr.vP (λi j C q hC=>?_) _ V #[rfl,by rw[c] at O⊢;show LJ N O.1 O.2])) ?_ λJ J e=>e)
  .delta kas_ask;dsimp[Sr.Ii,Qd,decide_eq_true_eq] at q
   let D:∀k,k<vs.length->dG (((s.heap.update a (Obj.mapSeq λJ=>(([].toArray):Array Um))).push (seqObj "tuple" vs.toArray 0)).push (seqObj "list" ([].toArray) 0)) (vs.getD k Value.none) (ps.getD k (0,0)):=λk hk=>by
    let R:k<ps.length:=∅
    let⟨x,e,hx⟩:=Paired.get F (show ps[k]?=B (ps.getD k (0,0)) by simp[R]);rw[show vs.getD k Value.none=x by rw[Qt,e];rfl];show hx
   show Im (D i q.1) (D j q.2) ?_;rw[Il (f i ∅) (f j ∅)];show hC
  .rintro ⟨⟨⟩,d⟩ I ⟨rfl,W,is,U,S⟩
   cbv at W S⊢;show Ul (seqEpoch_at l rfl ?_);let hz:((arrOf d).map (·.2)).size=vs.length:=by rw[S,Qk,Qa,U.1.length_eq,QC,c]
   show Ul (listUpdate_at l rfl ?_);rw[W,S];dsimp[bne_self_eq_false,Q2,if_false];show Ur (h is U)
end
open PySem PySem.Spec PySem.W PyProof.Rows
open J (oJ gZ fP qK)
section
variable {prog:Uu} {w:Ux} {A:Uy} {E:Um->Uq->Prop} {s:Uq}
theorem DE{es:Array DictEntry}(lo:(d==sysModules)=Uk):KdlSrc prog w "dict" d d es.size (λi v=>Σe,es[i]?=B e/\v=e.key) (λh=>Σo,h.get? d=B o/\o.cls=.type "dict"/\o.data=.dict es ep) where
 type:=λ_ ⟨o,e,c,_⟩=>#[o,e,c]
 there:=λ_ ⟨o,e,_⟩=>#[Qj e,Qj e]
 keep:=λ_ _ ⟨o,e,c⟩ hk=>#[o,hk d (.inl rfl) o e,c]
 notList:=⋯
 notTuple:=⋯
 hint:=λ_ _ _ _ ⟨o,e,c,_⟩ hq=>kdl_hint_dict #[o,e,c] hq
 iter:=λA s r ⟨o,e,c,n⟩=>#[_,λi h=>h.IsKeyIter s⁻¹ d i es.size ep/\h.get? d=B o,(λZ Z hq=>Ks lo e c n hq),{
   sub:=λb f=>by simp at f;simp[f]
   frame:=λZ Z Z a hk=>#[a.1.at λo e=>hk _ ∎ o e,hk _ ∎ _ a.2]
   item:=λi l Q E u a g=>by
    show Ez r a.1 a.2 n (λp j k m q=>g p.key j l.toks #[p,k,rfl] #[m,(q.2 d (Qu (Qj e))).trans a.2] λb o f e=>(q.2 b (λz=>f (by simp[z]))).trans e) λj k Z=>?_;rw[Q5] at k
    lia
   done:=λl Q E a g=>by
    show Ez r a.1 a.2 n (λp j k Z Z=>?_) λj Z t=>g j l.toks λb o f e=>t b o (λz=>f (by simp[z])) e;show absurd (R6.mp k).1 (Re _)
   self:=λZ Z Z Z a g=>wpAny_pyIter_keyiter a.1 g },#[_,Qm _ rfl,rfl,rfl],Qg _ e]
def qO{o:Obj}{es:Array DictEntry}{Q:-Um->Uq->Prop}(x:A.handled=L)(lo:(d==sysModules)=Uk)(e:s.heap.get? d=B o)(c:o.cls=.type "dict")(u:o.data=.dict es ep)(hz:es.size<=sizeLine)(t:∀h' tk vs,vs=es.toList.map (·.key)->(∀b q,s.heap.get? b=B q->h'.get? b=B q)->s⁻¹<=h'.objs.size->Q vs { s with heap:=h',toks:=tk }):Us (Ut prog w) A (collect (.ref d)) Q E s:=by
 let l:d<s⁻¹:=Qj e;delta collect;show Ul (wpAny_runValue (codeAny_builtin PySem.F.entry_proto_collect ?_));rw[Around.under_plainId PySem.F.plain_proto_collect _];show Ul (UA ?_);show Ur #[plainId_quiet PySem.F.plain_list_iadd _,codeAny_builtin PySem.F.entry_list_iadd ?_];rw[Around.under_plainId PySem.F.plain_list_iadd _];let p:(s.heap.push { cls:=.type "list",data:=.seq ([]:-Um).toArray }).get? s⁻¹=B { cls:=.type "list",data:=.seq ([].toArray) 0 }:=Qm _ rfl
 show kdl_extend (R:=λr k=>match r with|.ok (.ret v)=>Us (Ut prog w) A (match v with|.ref a=>do { let o <- load a;match o.data with|.seq xs _=>pure xs.toList|_=>unsupported "internal:collect" }|_=>unsupported "internal:collect") Q E k|.ok _=>False|.error e=>E e k) (DE lo) x #[o,Qg _ e,c,u] s⁻¹ (Rh l) (Rh l) _ 0 p (λh' tk h D hk j f=>?_) hz
 show Ul (wpAny_load j ?_);show Ur (t h' tk _ ?_ (λb q m=>hk b q (Qu (Qj m)) (Qg _ m)) (Rt (Qj j)));show RV λi=>?_;rw[Qc,Q4,Q4];obtain g|g:=Nat.lt_or_ge i es.size
 .let n:i<h.size:=by rw[f.1];show g
  let⟨C,z,y⟩:=f.2 i h[i] (RD n);rw[z,RD n,y];rfl
 .rw[Q5.mpr (by rw[f.1];show g),Q5.mpr g];rfl
def Ah{o:Obj}{es:Array DictEntry}{ps:-(Int×Int)}{Q:Um->Uq->Prop}(M:A.handled=L)(lo:(d==sysModules)=Uk)(e:s.heap.get? d=B o)(c:o.cls=.type "dict")(K:o.data=.dict es ep)(m:Paired (dG s.heap) (es.toList.map (·.key)) ps)(h:ps.length<64)(D:ps.Nodup)(H:ps.all gZ=Uj)(C:∀h' tk is l n,Ag ps is->(∀b q,s.heap.get? b=B q->h'.get? b=B q)->s⁻¹<=l->h'.get? l=B (seqObj "list" (is.map λi=>(es.toList.map (·.key)).getD i Value.none).toArray n)->Q (.ref l) { s with heap:=h',toks:=tk }) :
  Us (Ut prog w) A (call (.builtin "sorted") [.ref d]) Q E s:=by
 let p:(es.toList.map (·.key)).length=es.size:=∎
 let I:=Paired.length m;show Calls.call_function_entry kind_sorted plain_sorted entry_sorted (args_sorted1 _) ?_;unfold Builtin.«sorted»;show Ul (Ur ?_);show Ul (qO ↥M lo e c K (by rw[sizeLine_eq];lia) λg tk N j y f=>?_);subst j;show Ul (wpAny_newList ?_ (by rw[sizeLine_eq];lia));let a:(g.push (seqObj "list" (es.toList.map (·.key)).toArray 0)).get? g.objs.size=B (seqObj "list" (es.toList.map (·.key)).toArray 0):=Qm _ rfl;let k:Paired (dG (g.push (seqObj "list" (es.toList.map (·.key)).toArray 0))) (es.toList.map (·.key)) ps:=Paired.mapP m λ_ _ ⟨b,o,t,u,n,e1,e2,r⟩=>#[b,o,t,u,n,e1,Qg _ (y _ _ e2),r];show Ul (UF (UG slot_list_sort #[_,a,rfl] entry_list_sort (tW a k h D H λis z=>#[_,rfl,?_]) (args_list_sort _)));let⟨n,F⟩:=sortedHeap_at a;show Ur #[_,rfl,C _ tk is g.objs.size n z (λb q x=>?_) f F];let v:=Qn (Qj x) f;rw[sortedHeap_old (Qu v) (by rw[size_push'];show RR v)];show Qg _ (y _ _ x)
end
section
variable {X:Cx} {pins:-(Up×Obj)} {Y:St} {H:Hp} {s:Uq}
noncomputable abbrev kP(p:Int×Int):-(aD ⊕ -aD):=[.inl (.inl p.1),.inl (.inl p.2)]
noncomputable abbrev pV(p:Int×Int):HO:=.tup [.int p.1,.int p.2]
def PU(h:TkAt H m (kP p) b):H b=B (pV p):=by
 let⟨e,g,r⟩:=h;let⟨c,rfl,z_,t⟩:=r;let⟨d,rfl,z_,a⟩:=t;cases(a);show g
def DF(ok:HOk X.prog X.w H s.heap)(h:H b=B (pV p)):dG s.heap (.ref b) p:=by
 let⟨z_,a,q,o,d,c,n,e⟩:=(ok b _ h)
 cases q with|cons a1 q=>cases q with|cons a2 q=>
 ext q;let⟨t,rfl⟩:=a1;let⟨u,rfl⟩:=a2;rwa[b,o,t,u,n,rfl,d,c,e]
def Oo(ta:TA):TE:=λY H Q=>ta Y H λvs H1=>Σa m ep O ps r,vs=[.ref a]/\H1 a=B (.dT m ep O)/\O.map (·.1)=ps.map kP/\J.qK ps=B r/\∀p bs,H1 p=L->Paired (λb q=>H1 b=B (pV q)) bs r->Q (.ref p) (upd H1 p (.lst (bs.map V.ref)))
def Io{a:Uo}(hc:X.calm=Uj)(hg:Gl X "sorted")(N:X.mg "sorted" = L)(ha:PA X [a] ta)(V:Uv [a] X.env=[(Uk,eval a X.env)]):PE X (.Call (.Name "sorted" p) [a] [] pos) (Oo ta):=by
 intro M s Y H Q I h;show Call_ (dR I hg N PyProof.Rows.boot_sorted (PyProof.Rows.callWith_builtin1 (a8 (ha pos M s Y H _ I h) λus s1 ⟨vs,R,D,r1,a',m,ep,hb,ps,r,e,hq,g,K,q⟩=>?_) V rfl));subst e;let⟨u,rfl,ru⟩:=r1.one;cases(ru);let⟨hd,z,o,P,F,h1,S,h3,U⟩:=fA D.hok hq;unfold J.qK at K;by_cases A:ps.length<64/\ps.Nodup/\ps.all J.gZ=Uj
 case neg=>rw[if_neg A] at K;ext K
 rw[if_pos A] at K;ext K
 let hk:Paired (λx q=>R x.2.1=B (pV q)) z ps:=by
  clear U q A hq
  induction F generalizing ps with
  |nil=>cases ps with|nil=>show .nil|cons p ps=>simp at g
  |@cons k x ks z h t w=>
   cases ps with
   |nil=>simp at g
   |cons p ps=>
    rw[QE,QE] at g;injection g with e1 e2;show .cons (PU (by rw[<- e1];show h.2.1)) (w _ e2)
 let c:P.toList.map (·.key)=z.map λx=>Value.ref x.2.1:=by rw[U,QA];rfl
 let W:Paired (dG s1.heap) (P.toList.map (·.key)) ps:=by
  rw[c];clear c U F g q A
  induction hk with
  |nil=>show .nil
  |cons h t w=>show .cons (DF D.hok h) w
 show Ah (D.ok.hd hc) hd h1 S.1 h3 W A.1 A.2.1 A.2.2 λh' tk C l n d k1 E O=>?_;let he:=Paired.length hk;obtain⟨v,f⟩:Σv:-Up,v=C.map λi=>(z.map (·.2.1)).getD i 0:=#[_,rfl]
 let e1:(C.map λi=>(P.toList.map (·.key)).getD i Value.none)=v.map Value.ref:=by
  rw[f,QA];show Ra λi y=>?_;let y:=(d.1.mem_iff.mp y);rw[Qq] at y;rw[c];simp[Qt,show i<z.length by lia]
 let e3:Paired (λb q=>R b=B (pV q)) v (ps.mergeSort J.fP):=by
  rw[d.2,f];let N:∀i∈C,i<ps.length:=λi y=>Qq.mp (d.1.mem_iff.mp y);clear O e1 d f
  induction C with
  |nil=>show .nil
  |cons i C w=>
   show .cons ?_ (w λj hj=>N j (Qh _ hj));let y:=N i Qr;let⟨x,Z,hx⟩:=Paired.get hk (show ps[i]?=B (ps.getD i (0,0)) by simp[y]);let T:(z.map (·.2.1)).getD i 0=x.2.1:=by simp[Qt,Z]
   change R ((z.map (·.2.1)).getD i 0)=_;rw[T];show hx
 rw[e1] at O;rwa[.ref l,_,D.laid k1 E ?_,rfl,q l v (D.hok.fresh E) e3];rwa[?_,v.map Value.ref,n,?_,↥O]
 .have:=d.1.length_eq;rw[QC] at this;rw[Qa,f,Qa,sizeLine_eq]
  lia
 .clear e1 e3 O q f
  induction v with
  |nil=>show .nil
  |cons b v w=>show .cons rfl w
end
open PySem PySem.Spec PySem.W PyProof.Rows
def DG(v a:Up):Uz->Prop:=λh=>h.IsItemsView v a
end L2
namespace J
def Ip(h:MZ k=B p):k=.inr (kP p):=by
 obtain _|_|⟨(_|_)|_,_|⟨(_|_)|_,_|_⟩⟩:=k<;>first|(cases h;done)|(cases h;rfl)
theorem Ai:∀{ks:-DK} {ps:-(Int×Int)},z9 ks=B ps->ks=ps.map λp=>.inr (kP p)
 |[],ps,h=>by ext h;rfl
 |k::ks,ps,h=>by
  unfold z9 at h
  cases hk:MZ k with
  |none=>rw[hk] at h;ext h
  |some p=>
   rw[hk] at h
   cases a:z9 ks with
   |none=>rw[a] at h;ext h
   |some b=>
    rw[a] at h;ext h;rw[Ip hk,Ai a];rfl
def nc{m:Nat}{ps:-(Int×Int)}(h:c7 K o (.dic (m+1) ks) xs)(e:z9 ks=B ps):Σ(a:-(-(aD ⊕ -aD)×V)) (ep:Nat),o=.dT m ep a/\a.map (·.1)=ps.map kP/\ks=a.map (λp=>Sum.inr p.1)/\xs=a.map (·.2):=by
 rcases h with⟨z,_⟩|⟨c,z,a,ep,rfl,e1,e2⟩
 .ext z
 .ext z;rwa[a,ep,rfl,?_,e1,e2];have:=Ai e;rw[e1] at this
  let b:=congrArg (Sb λk:DK=>match k with|.inr l=>l|.inl _=>[]) this
  rw[QA,QA] at b;show b
section
variable {X:Cx} {Γ:fw} {c:Cz}
theorem vR{a:Uo}(b:ah a=Uj):Uv [a] env=[(Uk,eval a env)]:=(am b).trans rfl
def E5(O:aq X Γ c){f:Ro->@&KD}{a:Uo}(E:jh c.sc "dict" = Uj)(u:ah a=Uj)(z:SndE X f a):SndE X (λZ=>qJ (f Z)) (.Call (.Name "dict" p) [a] [] pos):=by
 intro Z R d h g Y H Q t q;cbv at h;delta qJ at h
 .ext1 k m s C e;obtain⟨⟨y,hk,P⟩,e2⟩:=wZ h;ext e2;delta qI at hk
  .ext1 ps j;let D:=of_decide_eq_true hk;show aB (Ig (d9 O E) (O.tab.bl _ (by simp[aV])) dI (vR u)) (dM u z ip Z [(k,.nd (.dic (m+1) s) C)] (by change ca (f Z) _=_;rw[e];rfl) g Y H _ t λM S s1 x=>?_);let⟨v,rfl,r⟩:=VRs.one x;let⟨a,o,N,rfl,F,A,w⟩:=r.items y t.mu s1;let⟨b,I,rfl,e3,e4,K⟩:=nc A j;rwa[a,m,I,b,rfl,F,?_,λl n i=>q _ _ (s1.trans (ag i)) ((KY (hd:=.dic (m+1) s) rfl (.inr #[m,rfl,b,n,rfl,e4,K]) i w).older s1)]
   have:(b.map λp=>(bH m (aN X.prog X.w)).hash p.1)=ps.map hs2:=by
    have:=congrArg (Sb λk=>(bH m (aN X.prog X.w)).hash k) e3;rw[QA,QA] at this;show this
   rw[this];show D
  .ext hk
 .ext h
def DH{H:Hp}(m:MuOk H S)(h:H b=B (pV q)):Rp K H S (pD q) (.ref b):=by
 unfold pD Rp;rwa[b,_,_,rfl,λz=>?_,h,rfl,.cons (by delta Rp;rfl) (.cons (by delta Rp;rfl) .nil)];let⟨o,e,n⟩:=m b z;rw[h] at e;ext e;show n _ rfl
def LK(O:aq X Γ c){f:Ro->@&KD}{a:Uo}(F:jh c.sc "sorted" = Uj)(x:ah a=Uj)(A:SndE X f a):SndE X (λZ=>xq (f Z)) (.Call (.Name "sorted" p) [a] [] pos):=by
 intro Z U d h g Y H Q u q;cbv at h;delta xq at h
 .ext1 k m s D e
  cases b:z9 s with
  |none=>rw[b] at h;ext h
  |some ps=>
   rw[b] at h
   cases j:qK ps with
   |none=>rw[QY,j] at h;ext h
   |some r=>
    rw[QY,j] at h;ext h;show aB (Io O.calm (d9 O F) (O.tab.bl _ (by simp[aV])) dI (vR x)) (dM x A ip Z [(k,.nd (.dic (m+1) s) D)] (by change ca (f Z) _=_;rw[e];rfl) g Y H _ u λP V s1 y=>?_);let⟨v,rfl,M⟩:=VRs.one y;let⟨a,o,S,rfl,z_,K,C,w⟩:=M.rd.nd;let⟨n,I,rfl,e3,e4,T⟩:=nc C b;rwa[a,m,I,n,ps,r,rfl,K,e3,j,λl R i z=>?_];show q _ _ (s1.trans (ag i)) ((nR i ?_).older s1);let N:=u.mu.same s1;clear j q
    induction z with
    |nil=>show .nil
    |cons h t E=>show .cons (DH N h) E
 .ext h
end
def Aj(O m:Str)(i:Nat)(U:Fm)(fr:Ro->@&(-RA×Ro))(Z:Ro):MR:=match Z[i]? with
 |some (B ⟨Uk,_,.nd (.obj c ns) _⟩)=>if c=O/\ns.contains m=Uk then C9 (B U) (qc i Z[i]? (fr Z)) else L
 |_=>L
def E6{X:Cx}(O:aq X Γ c){p D pos:Pos}{es:-Uo}(P:jk c x=B i)(hn:QX X.K UB cn=B (B (.ref C)))(R:Cls X.K C)(mt:ph X.K C m f)(F:FnOk X.prog X.w X.K X.mg X.base i9 k f fd ps (xg X.K U))(hr:Room k X.A)(hb:Binds X.K fd ps [])(j:ee (.Name x p)=Uj)(hl:(D.endLine==pos.line)=Uj)(I:ah e=Uj)(y:es.all ah=Uj)(u:(e::es).length<30)(ha:gB X fr (e::es)):bK X (Aj cn m i U fr) (.Call (.Attribute (.Name x p) m D) (e::es) [] pos):=by
 intro Z kd d Z' h g Y H Q E q;delta Aj at h
 .ext1 k0 c0 ns W v;by_cases b:c0=cn/\ns.contains m=Uk
  rotate_left
  .rw[if_neg b] at h;ext h
  rw[if_pos b] at h;let⟨rfl,t⟩:=b;let⟨v0,F0,e1,e2,e3⟩:=E.slot i _ v;let⟨a,o,xs,rfl,z_,S,hd,w⟩:=e3.rd.nd;let⟨C',dx,M,z_,rfl,z⟩:=hd;rw[hn] at M;ext M;show aB (um aC R mt F hr hb .nil pB dI (am I) (bZ y) (uN (dP j) (by rw[Q3,I,y];rfl) hl u)) (kC O P p e1 #[a,dx,_,rfl,S,sU t,?_])
  cases l:fr Z with
  |none=>rw[l,v] at h;ext h
  |some T=>
   let⟨n,Z1⟩:=T;rw[l,v] at h;show ha Z n Z1 l g Y H _ E λN g' H' F' V s r=>?_;rw[Q1];show u7 h V s #[.ref a,N,rfl,e1,r] q
 .ext h
structure E7(P:Program)(w:World)(K:P9)(mg:Str->@&Value)(base:Heap)(k:Nat)(X:Cx):Prop where
 prog:X.prog=P
 w:X.w=w
 K:X.K=K
 mg:X.mg=mg
 base:X.base=base
 room:Room k X.A
section
variable {P:Uu} {w:Ux} {K:P9} {mg:Str->@&Um} {base:Uz} {fns:Nms} {Γ:GG} {x y z qual:Str} {st:Uw} {f C:Up} {fd:UH} {N ps:-Str} {k n M i:Nat} {an:An} {body:bq}
def Ak(F:Fun K x qual st f fd)(S:a6 N ps (ab st))(T:TabF P w K mg base (ba fns Γ) k)(Y:∀X:Cx,aq X (ba fns Γ) #[ab st,N,λL=>Uj]->PassesOwn (Ut X.prog X.w) X.A X.env X.xe->E7 P w K mg base k X->aW X pn fb (aE st)) :
  FnOk P w K mg base i9 (k+1) f fd ps (xg K (lU fb ps.length N.length pn)):=by
 let hN:ps.length<=N.length:=by
  have:=congrArg SG S.pre;rw[QO] at this
  lia
 show F.ok S (λn H Q E h=>?_) (λD A c s H n Q E U h=>?_)
 .let⟨R,g,k',d,os,y,a,q⟩:=h;delta lU at a
  .ext1 t;have:=y.len;dsimp[Qa] at this;rw[<- this,t]
  .ext a
 .let⟨R,g,k',d,os,y,a,q⟩:=h;delta lU at a
  .ext1 t;let M:R.length=n.length:=by simpa using y.len
   let O:aq (ma i9 P w K mg base N qual (ab st) f D A c s H E).nox (ba fns Γ) #[ab st,N,λL=>Uj]:=
    #[rfl,rfl,λL L=>rfl,rfl,S.nd,T.ok U]
   let o:=oz y (by rw[t];show hN);let I:aW _ pn fb (aE st):=Y _ O PassesOwn.never #[rfl,rfl,rfl,rfl,rfl,U]
   let r:∀{i:Gh} {b:Hp} {F:Pr} {p:L2.St} {u:Ro},SE K (i.plus F) u p b->PinOk pn (bU N n) p->SE K (i.plus F) ((outs ps.length pn u).map EH) (n.map B) b:=λ{i b F p u} s1 pk=>by
    rwa[λj sl e=>?_,s1.mu,by simp[qB,<- M,t]];let⟨h1,h2,Z⟩:=m8 e;let⟨v,Fj,q1,V,W⟩:=s1.slot j sl Z;rwa[v,Fj,by rw[<- q1,pk j h2,jF (by rw[<- M,t];show h1)],V,W]
   rwa[_,fI,?_];delta iM at a
   .ext1 k2 d2 Z2 m;ext a a
    .ext a
    .ext1 hb;ext a;show I _ _ m _ (bU N n) H _ o λv p i b F C l pk vr=>q v i b F C (r l pk) vr
   .ext1 u m;ext a;show I _ _ m _ (bU N n) H _ o λp i b C l pk=>q .non i b iX C (r (by rw[a5 λL z=>z];show l) pk) #[λL z=>z,by delta Rp;rfl]
   .ext a
  .ext a
def TabF.addCX{ψ:Fn}(T:TabF P w K mg base (ba fns Γ) k)(ok:FnOk P w K mg base i9 (k+1) f fd ps (xg K U))(b:Mk K C f)(c:Cls K C)(g:QX K UB x=B (B (.ref C)))(a:mg x=B (.ref C))(h:Binds K fd ps [])(hd:(x==("__debug__":Str)||rL x)=Uk)(hi:fns.fns[i]?=B x)(e:∀ds,Le (ψ ds) (zN (.own es r0) x U ds)):TabF P w K mg base (ba fns (Γ.addI i ψ)) (k+2):=by
 rw[R0] at hd;show T.up.up.put hi ?_;delta tL;rw[if_neg (by rw[hd.2];show Qx)];show .inr #[k+1,C,f,fd,ps,_,Qe _,b,ok,a,h,hd.1,λd H Q s=>DA g c d H Q (oA e s)]
def TabF.addHX{ψ U:Fn}(T:TabF P w K mg base (ba fns Γ) k)(ok:FnOk P w K mg base i9 (k+1) f fd ps (nZ K U))(l:QX K UB (mC z)=B (B (.ref C)))(j:Cls K C)(c:ph K C (mM z) f)(g:Binds K fd ps [])(d:rL z=Uj)
  (hi:fns.fns[i]?=B z) (hψ:∀a,Le (ψ a) (xo z U a)):TabF P w K mg base (ba fns (Γ.addI i ψ)) (k+1):=by
 show T.up.put hi ?_;delta tL;rw[if_pos d]
 let b:∀a r,ψ a=B r->Jv (mC z) (mM z) a=Uj/\U a=B r:=λa r e=>by
  have:=hψ a r e;delta xo at this
  .ext1 h;rwa[h,this]
  .ext this
 rwa[C,f,fd,ps,l,j,c,ok.imp λm H Q E s=>oA (λa r e=>(b a r e).2) s,g,λa r e=>(b a r e).1]
end
end J
namespace L2
open PySem PySem.Spec PySem.W PyProof.Rows
section
variable {prog:Uu} {w:Ux} {A:Uy} {E:Um->Uq->Prop} {s:Uq} {d it v:Up} {o:Obj} {es:Array DictEntry} {ep i:Nat} {ok ov:Um}
theorem oM(d:Up)(hd:(d==sysModules)=Uk):MeetsIn prog w (Builtin.«dict.items» #[[.ref d],[]]) (λZ R s=>s.TypeIs (.ref d) "dict"/\R (.ok (.ret (.ref s⁻¹))) { s with heap:=s.heap.push { cls:=.type "dict_items",data:=.fields [.ref d].toArray } }):=
 .of_wp λA R s ⟨a,h⟩=>by
  unfold Builtin.«dict.items» Builtin.Dict.noArgs;show Ul (Ul (wpAny_notOrdered_dict a (Ur ?_)));delta Builtin.Dict.showsAll;rw[if_neg (by simp[hd])];show Ul (Ur (Ul (UA (Ur #[_,rfl,h]))))
def LL{Q:Um->Uq->Prop}(b:s.heap.IsItemsView v d)(c:s.heap.get? d=B o)(a:o.data=.dict es ep)
  (hQ:Q (.ref s⁻¹) { s with heap:=s.heap.push { cls:=.type "dict_itemiterator",data:=.fields [.none,.bool Uk,.ref d,.int 0 0,.int es.size 0,.int ep 0,.none,.none].toArray } }):Us (Ut prog w) A (pyIter (.ref v)) Q E s:=by
 let⟨z_,e,y_,f⟩:=id b;show wpAny_pyIter_slot b.typeIs F.slot_dict_items_iter (UG F.slot_dict_items_iter b.typeIs F.entry_dict_items_iter ?_ (F.args_dict_items_iter_1 _));unfold Builtin.«dict_items.__iter__» Builtin.Dict_items.dictOf Builtin.Dict_items.newIterator;show Ul (Ur (Ul (Ul (wpAny_field e f rfl (Ur (Ul (Ul (wpAny_dictEntries c a (Ul (wpAny_dictEpoch c a ?_))))))))));dsimp[show Builtin.Dict_items.ownsTuple "dict_itemiterator" = Uj by decide,if_true];show UA (Ur #[_,rfl,"dict_itemiterator",_,#[_,Qm _ rfl,rfl],F.slot_dict_itemiterator_next.lookup,by simpa[UN,Builtin.Dict_items.ownedTupleFields] using hQ]) ?_;dsimp[sizeOk,Builtin.Dict_items.ownedTupleFields,Qk,Qz,QI,Sv,sizeLine_eq]
 lia
def E8{Q:@&Um->Uq->Prop}(Y:A.handled=L)(hit:IsItemIter s.heap it d i es.size ep ok ov)(p:s.heap.get? d=B o)(l:o.data=.dict es ep)
  (yes:∀e f,es[i]?=B e->IsItemIterOut f it d (i+1) es.size ep e.key e.val s⁻¹->f.get? s⁻¹=B { cls:=.type "tuple",data:=.seq [e.key,e.val].toArray }->
   (∀b o,b≠it->s.heap.get? b=B o->f.get? b=B o)->Q (B (.ref s⁻¹)) { s with heap:=f })
  (no:∀f,es[i]?=L->Heap.ExtBut it s.heap f->Q L { s with heap:=f }):Us (Ut prog w) A (pyNext (.ref it)) Q E s:=by
 let⟨k,g,u,v,y⟩:=s;let a:∀{h:Uz} {i:Nat} {ok ov:Um},IsItemIter h it d i es.size ep ok ov->Shared.TypeIs #[h,g,u,v,y] (.ref it) "dict_itemiterator":=λe=>#[_,e,rfl];let H:=F.slot_dict_itemiterator_next;delta pyNext;show Ul (wpAny_attempt (wpAny_callSpecial?_slot (a hit) H (UG H (a hit) F.entry_dict_itemiterator_next ?_ (F.args_dict_itemiterator_next_1 _))));show Ul (Ur (Ul (Ul ?_)))
 first|show Ul (wpAny_typeNameOfWhole_itemiter (a hit) (Ur ?_))|show Ul (wpAny_typeNameOf_itemiter (a hit) (Ur ?_))
 show Ul (wpAny_fieldsOf hit rfl ?_)
 change Us _ _ (if(Value.ref d==Value.none)=Uj then _ else _) _ _ _
 rw[if_neg (by show Qx)];show Ul (Ur (Ul (wpAny_dictEntries p l ?_)));rw[if_neg ∎];show Ul (Ur (Ul (wpAny_dictEpoch p l ?_)));rw[if_neg ∎];show Ur ?_;let D:¬((i:Int)<0):=∅
 cases e:es[i]? with
 |some c=>
  cbv;rw[if_neg D,QV,e];show Ul ?_
  first|show Ul (wpAny_typeNameOfWhole_itemiter (a hit) (Ur ?_))|show Ul (wpAny_typeNameOf_itemiter (a hit) (Ur ?_))
  show Ul (wpAny_isOneOf_itemiter (a hit) ?_);change Us _ _ (setField (.ref it) 3 (UN ((i:Int)+1)) >>= _) _ _ #[k,g,u,v,y];show Ul (wpAny_setField_rec hit ∎ λj m (M:Heap.SameBut it k j)=>?_)
  let m:IsItemIter j it d (i+1) es.size ep ok ov:=by
   let e:((i+1:Nat):Int)=(i:Int)+1:=∅
   delta IsItemIter;rw[e];simpa[UN] using m
  show Ul (UF (Ul (wpAny_isOneOf_itemiter (a m) (Ul (wpAny_isOneOf_itemiter (a m) ?_)))));delta Builtin.Dict_items.pairFromOwner;show Ul (wpAny_newTuple ?_);let r:IsItemIter (j.push { cls:=.type "tuple",data:=.seq [c.key,c.val].toArray }) it d (i+1) es.size ep ok ov:=Qg _ m;let z:(j.push { cls:=.type "tuple",data:=.seq [c.key,c.val].toArray }).get? j.objs.size=B { cls:=.type "tuple",data:=.seq [c.key,c.val].toArray }:=Qm _ rfl;let V:∀b o,b≠it->k.get? b=B o->(j.push { cls:=.type "tuple",data:=.seq [c.key,c.val].toArray }).get? b=B o:=λb o n q=>Qg _ (M.extBut b o n q);rw[M.1] at z⊢;let t:k.objs.size≠it:=Rh (Qj hit);generalize j.push { cls:=.type "tuple",data:=.seq [c.key,c.val].toArray }=p2 at *;delta Builtin.Dict_items.ownedTupleIsFree;show Ul (Ul (wpAny_field r rfl rfl (Ur ?_)));dsimp[if_true];show Ul (wpAny_field r rfl rfl (Ul (wpAny_field r rfl rfl (Ul (wpAny_setField_rec r ∎ λC U (T:Heap.SameBut it p2 C)=>Ul (wpAny_setField_rec U ∎ λK R (W:Heap.SameBut it C K)=>Ul (wpAny_setField_rec R ∎ λN P (X:Heap.SameBut it K N)=>Ul (wpAny_setField_rec P ∎ λx O (S:Heap.SameBut it N x)=>?_))))))));let I:∀b o,b≠it->p2.get? b=B o->x.get? b=B o:=λb o n q=>S.extBut b o n (X.extBut b o n (W.extBut b o n (T.extBut b o n q)));show Ul (wpAny_letGo (Ur (Ur #[_,rfl,Ur (yes c x e O (I _ _ t z) λb o n q=>I b o n (V b o n q))])))
 |none=>
  cbv;rw[if_neg D,QV,e];show Ul ?_
  first|show Ul (wpAny_typeNameOfWhole_itemiter (a hit) (Ur ?_))|show Ul (wpAny_typeNameOf_itemiter (a hit) (Ur ?_))
  change Us _ _ (setField (.ref it) 2 .none >>= _) _ _ #[k,g,u,v,y];show Ul (wpAny_setField hit rfl ∎ (Ul ?_));unfold newExc newTuple
  show Ul (UA (Ul (wpAny_of_eq (by first|rfl|(dsimp[firstArgMember];rfl)) (UA ?_ (by size_fits)))) (by size_fits))
  delta raiseNew;show Ul (wpAny_handled ?_);rw[show A.in1.handled=L from Y];show Ul (Ur (wpAny_throw ?_));show Ul (wpAny_isInstance #[_,Qm _ rfl,rfl] isSubtype_stop ?_);show Ur (no _ e (((Heap.SameBut.update ..).extBut.push _).push _))
end
open PySem PySem.Spec PySem.W PyProof.Rows
section
variable {X:Cx}
def Al:V->-V->Hp->VK->Prop:=λx xs H Q=>Σa m ep O,x=.ref a/\xs=[]/\H a=B (.dT m ep O)/\∀v,H v=L->Q (.ref v) (upd H v (.ext (DG v a)))
def xu:Jt X "dict.items" Al:=by
 intro b s Y H x j v t Q I r g h;let⟨a,m,y,i,rfl,rfl,e,q⟩:=h;ext g;cases(r);let⟨n,j,o,p,l,f,c,u,w⟩:=fA I.hok e;let d:s.TypeIs (.ref a) "dict":=#[o,f,c.1];show call_meetsIn F.slot_dict_items d F.entry_dict_items (F.args_dict_items_1 _) (oM a n) #[d,?_];rwa[.ref s⁻¹,_,I.laid (λZ Z q=>Qg _ q) (Qe _) ?_,rfl,q _ (I.hok.fresh (Qe _))];rwa[#[_,Qm _ rfl,rfl,rfl],#[_,Qm _ rfl],λf c ⟨o,e1,e2⟩ k=>#[o,k o e1,e2]]
def LM(a:Up)(m ep:Nat)(O:-(-(aD ⊕ -aD)×V)):It:=
 #[λi H=>H a=B (.dT m ep O)/\i<O.length,λi H x H'=>Σp q b,H p=L/\H'=upd H p (.tup [.ref b,q.2])/\x=.ref p/\O[i]?=B q/\TkAt H m q.1 b,λi H=>H a=B (.dT m ep O)/\O.length<=i]
theorem xv{P:Uu}{w:Ux}{K:P9}{es:-Uo}{kk:Nat}{tp:Pos}{m ep:Nat}{r:-(-(aD ⊕ -aD)×V)}(a it:Up):rT P w K (.Tuple es kk tp) (LM a m ep r) [it] it (λi h=>Σok ov,IsItemIter h it a i r.length ep ok ov) where
 mem:=∎
 obj:=λi h f b j=>by
  let e:b=it:=by simpa using j
  subst e;let⟨ok,ov,e⟩:=f;rwa[_,e,λv z=>by cases z]
 keep:=λi h h' f k=>by
  let⟨ok,ov,e⟩:=f;rwa[ok,ov,k it ∎ _ e]
 item:=by
  intro X hP hw hK Z i u s Y H E I hf f hg;subst hP hw hK;let⟨hq,hx⟩:=hg;let⟨hd,xs,o,es,t,h1,h2,h3,W⟩:=fA I.hok hq;let S:es.size=r.length:=by rw[size_of_entries W,Paired.length t]
  let⟨U,T,f2,f3,f4,f5⟩:=hf it ∎;let⟨ok,ov,f⟩:=f;rw[<- S] at f;let N:=Qj f;show E8 (I.ok.hd Z) f h1 h3 (λe p1 l ho ht k1=>?_) λL l L=>absurd (Q5.mp l) ∅;rwa[_,rfl,wpAny_letOwnedTupleGo_items ho λQ F hh=>?_];rw[<- Q4,W,Qc] at l
  cases hy:xs[i]? with
  |none=>rw[hy] at l;ext l
  |some y=>
   rw[hy] at l;ext l;let⟨p,hp,e1,e2,e3⟩:=Paired.get t hy;let x:Heap.SameBut it p1 Q:=hh;let d:∀b o,b≠it->s.heap.get? b=B o->Q.get? b=B o:=λb o n q=>(x.2 b n).trans (k1 b o n q);let D:=I.hok.fresh (Qe s⁻¹);let R:Q.get? s⁻¹=B { cls:=.type "tuple",data:=.seq [.ref y.2.1,y.2.2].toArray }:=(x.2 _ (Rh N)).trans ht;let O:∀b o,H b=B o->b≠it:=λb o q z=>by rw[z,U] at q;ext q
   let M:HOk X.prog X.w (upd H s⁻¹ (.tup [.ref y.2.1,p.2])) Q:=λb o q=>by
    by_cases j:b=s⁻¹
    .subst j;rw[al] at q;ext q;rwa[(by change 2<=sizeLine;decide),[.ref y.2.1,y.2.2],.cons rfl (.cons e3 .nil),_,R,rfl,_,rfl]
    .rw[ac j] at q;show(I.hok b o q).stay (λc v C A=>d c v ?_ A) (λc A=>by rw[ac (aw A D)];show A) λc ys A=>by rw[ac (aw A D)];show A
     obtain rfl|C:=C
     .show O _ _ q
     .show O _ _ C
   let I1:Inv X u Y (upd H s⁻¹ (.tup [.ref y.2.1,p.2])) { s with heap:=Q }:=by
    show I.step (ch:=[it]) (λb j=>?_) (λb o L L g q L=>d b o (λz=>g (by simp[z])) q)
     (λb o L L g q L=>#[o.slots,d b o (λz=>g (by simp[z])) q]) (λb o g q n=>by rw[ac (Qu (Qj q))];show n)
     (λb o g q=>#[o,d b o (λz=>g (by simp[z])) q]) (λb ys q=>by rw[ac (aw q D)];show q) (λb o z q=>by rw[ac (aw q D)];show q)
     (λb ps q=>#[([].toArray),by rw[ac (aw q D),q];simp]) (λm hm=>?_) M I.bare
    .have:b=it:=by simpa using j
     subst this;rwa[f3,T,f4,f5]
    .let⟨o,ha,ep,hi,r'⟩:=hm;rwa[o,ha,ep,d _ o (Ne.symm T) hi,r']
   rwa[.ref s⁻¹,_,I1,rfl,#[s⁻¹,p,y.2.1,D,rfl,rfl,hp,e2],#[_,_,by rw[S] at F;show F],λb j=>?_];have:b=it:=by simpa using j
   subst this;rw[ac (Qu N)];show U
 done:=by
  intro X hP hw hK Z i u s Y H E I hf f hg;subst hP hw hK;let⟨hq,hx⟩:=hg;let⟨hd,xs,o,es,t,h1,h2,h3,W⟩:=fA I.hok hq;let S:es.size=r.length:=by rw[size_of_entries W,Paired.length t]
  let⟨U,T,f2,f3,f4,f5⟩:=hf it ∎;let⟨ok,ov,f⟩:=f;rw[<- S] at f;show E8 (I.ok.hd Z) f h1 h3 (λe h' l L L L=>absurd (R6.mp l).1 ∅) λh' l eb=>#[rfl,I.turned (λb o j e=>eb b o j e) U T f3 f4 f5]
 self:=λL L L L L f h=>by
  let⟨ok,ov,f⟩:=f;show kcp_self f h
abbrev Am(R:It->Hp->Prop):VK:=λy H2=>Σv a m ep O,y=.ref v/\H2 v=B (.ext (DG v a))/\H2 a=B (.dT m ep O)/\R (LM a m ep O) H2
def LN(K:P9)(tl:TE):TI:=λY H R=>Kj K "dict" Al tl Y H (Am R)
theorem DI{K:P9}{a:Up}{m ep:Nat}{b:-(-(aD ⊕ -aD)×V)}{H:Hp}{R:It->Hp->Prop}(e:H a=B (.dT m ep b))(q:∀v,H v=L->R (LM a m ep b) (upd H v (.ext (DG v a)))):ML K "dict" (.ref a) H/\Al (.ref a) [] H (Am R):=
 #[.inr #[rfl,m,ep,b,e],a,m,ep,b,rfl,rfl,e,λv c=>#[v,a,m,ep,b,rfl,al,by rw[ac (λz=>by rw[z,c] at e;ext e)];show e,q v c]]
def DJ{es:-Uo}{kk:Nat}{z:Pos}{l:Uo}{tl:TE}{n cp:Pos}(j:PE X l tl)(c:attributeBase l "items" X.env (eval l X.env)=eval l X.env)(d:(n.endLine==cp.line)=Uj):PI X (.Tuple es kk z) (.Call (.Attribute l "items" n) [] [] cp) (LN X.K tl):=by
 intro g s Y H R I h;show a8 (su F.plainAttrs_dict F.slot_dict_items F.type_dict_items xu j c d g s Y H (Am R) I h) λy s1 ⟨x,D,f,u,v,a,m,P,i,r,p,M,q⟩=>?_;subst r;cases(u);let⟨t,z_,y_⟩:=(f.hok v _ p);let⟨Q,O,o,es,k,E,N,w,C⟩:=fA f.hok M;let j:es.size=i.length:=by rw[size_of_entries C,Paired.length k]
 show LL t E w ?_;rwa[s1⁻¹,[s1⁻¹],_,_,D,rfl,f.kept λb o e=>Qg _ e,xv a _,#[.none,.none,?_],λb A=>?_,q]
 .rw[<- j];show Qm _ rfl
 .let e:b=s1⁻¹:=by simpa using A
  subst e;show f.fpOk (Qe _) (f.hok.fresh (Qe _))
end
end L2
namespace J
def qP(ks:-DK)(ds:-D):-D:=TF (λk d=>D.tup [PN k,d]) ks ds
def Ao(a:@&KD):@&(-Nat×-D):=match a with
 |some (k,.nd (.dic (_+1) ks) ds)=>if dZ k ds=Uj then B (pS k,qP ks ds) else L
 |_=>L
section
variable {K:P9}
def Ap(k:aD):Rp K H S (xa k) (kV k):=by cases k<;>(unfold xa Rp;rfl)
theorem vS:∀ks:-aD,RpL K H S (ks.map xa) (ks.map kV)
 |[]=>.nil
 |k::ks=>.cons (Ap k) (vS ks)
theorem tX(a:MuOk H S):∀{m:Nat} {ks:-(aD ⊕ -aD)} {vs:-V},TkIts H m ks vs->RpL K H S (ks.map Pe) vs
 |_,[],vs,h=>by cases(h);show .nil
 |m,.inl k::ks,vs,h=>by let⟨r,rfl,z_,t⟩:=h;show .cons (Ap k) (tX a t)
 |m,.inr js::ks,vs,h=>by
  let⟨b,r,rfl,z_,g,t⟩:=h;show .cons ?_ (tX a t);delta Rp;rwa[b,_,_,rfl,λz=>(let ⟨o,e,n⟩:=a b z;by rw[g] at e;ext e;show n _ rfl),g,rfl,vS js]
end
def DL{c:-(-(aD ⊕ -aD)×V)}:jp K (LM a m ep c) (.ob a (.dT m ep c) (c.map (·.2)) ds) (qP (c.map λp=>.inr p.1) ds):=by
 rintro i g H ⟨u,r⟩ l
 let k:ds.length=c.length:=by have:=r.len;simpa using this.symm
 let t:(qP (c.map λp=>(.inr p.1:DK)) ds).length=c.length:=by delta qP;rw[Tw,Qa,k,Nat.min_self]
 rwa[λf=>#[u,by rw[t] at f;show f],λd j=>?_];let f:i<c.length:=t▸(Qb.mp j).1;unfold qP at j;rw[Sm,Qc,Qi f,Qi (k.symm▸f:i<ds.length)] at j;ext j;let⟨x,e1,e2⟩:=r.getD (Qi (k.symm▸f:i<ds.length));rw[Qc,Qi f] at e1;ext e1;rwa[#[u,f],λy C w=>?_];let⟨p,q,b,s,rfl,rfl,e3,v,e4,A⟩:=w;rw[Qi f] at e3;ext e3;let h:Same H (upd H p (.tup [.ref b,c[i].2])):=ag s;rwa[h,?_];delta Rp;rwa[p,_,_,rfl,λz=>?_,al,rfl,.cons ?_ (.cons (e2.same h) .nil)]
 .let⟨o,q,z_⟩:=l p z;rw[s] at q;ext q
 .delta Rp;rwa[b,_,v,rfl,λz=>(let ⟨o,e,n⟩:=l b z;by rw[e4] at e;ext e;show n _ rfl),h _ _ e4,rfl,RpL.same h (tX l A)]
section
variable {X:Cx} {Γ:fw} {c:Cz}
def LO{n:Ro->@&KD}{i cp:Pos}(u:lr tg=Uj)(x:ee a=Uj)(A:(i.endLine==cp.line)=Uj)(C:SndE X n a):SndI X (λZ=>Ao (n Z)) tg (.Call (.Attribute a "items" i) [] [] cp):=by
 intro Z K M h g Y H R c q;cbv at h;delta Ao at h
 .ext1 k m F s e;let⟨t,D⟩:=wZ h;ext D
  cases tg with
  |Tuple E N I=>
   show lj (DJ aC (dP x) A) (C Z _ _ e g Y H _ c λv p s1 d=>?_);let⟨a,o,O,rfl,j,w,y⟩:=d.items t c.mu s1;rcases w with⟨z,_⟩|⟨f,_,b,l,rfl,e1,e2⟩
   .ext z
   .show DI j λv r=>?_;let s2:Same p (upd p v (.ext (DG v a))):=ag r;subst e1 e2;show q (LM a f l b) (.ob a (.dT f l b) _ s) _ (s1.trans s2) DL #[s2 _ _ j,y.same s2] (K5 rfl c.mu s1 d)
  |_=>ext u
 .ext h
end
end J
namespace L2
open PySem PySem.Spec PySem.W PyProof.Rows
section
variable {prog:Uu} {w:Ux} {A:Uy} {E:Um->Uq->Prop} {s:Uq} {d it v:Up} {o:Obj} {es:Array DictEntry} {ep i:Nat}
theorem qQ(d:Up)(hd:(d==sysModules)=Uk):MeetsIn prog w (Builtin.«dict.values» #[[.ref d],[]]) (λZ R s=>s.TypeIs (.ref d) "dict"/\R (.ok (.ret (.ref s⁻¹))) { s with heap:=s.heap.push { cls:=.type "dict_values",data:=.fields [.ref d].toArray } }):=
 .of_wp λA R s ⟨a,h⟩=>by
  show Ul ?_;delta Builtin.Dict.noArgs;show Ul (wpAny_notOrdered_dict a (Ur ?_));delta Builtin.Dict.showsAll;rw[if_neg (by simp[hd])];show Ul (Ur (Ul (UA (Ur #[_,rfl,h]))))
def LP{Q:Um->Uq->Prop}(b:s.heap.IsValuesView v d)(c:s.heap.get? d=B o)(a:o.data=.dict es ep)
  (hQ:Q (.ref s⁻¹) { s with heap:=s.heap.push { cls:=.type "dict_valueiterator",data:=.fields [.ref d,.int 0 0,.int es.size 0,.int ep 0].toArray } }):Us (Ut prog w) A (pyIter (.ref v)) Q E s:=by
 let⟨z_,e,y_,f⟩:=id b;show wpAny_pyIter_slot b.typeIs F.slot_dict_values_iter (UG F.slot_dict_values_iter b.typeIs F.entry_dict_values_iter ?_ (F.args_dict_values_iter_1 _));unfold Builtin.«dict_values.__iter__» Builtin.Dict_items.dictOf Builtin.Dict_items.newIterator;show Ul (Ur (Ul (Ul (wpAny_field e f rfl (Ur (Ul (Ul (wpAny_dictEntries c a (Ul (wpAny_dictEpoch c a ?_))))))))));dsimp[show Builtin.Dict_items.ownsTuple "dict_valueiterator" = Uk by decide,Q2,if_false];show UA (Ur #[_,rfl,"dict_valueiterator",_,#[_,Qm _ rfl,rfl],F.slot_dict_valueiterator_next.lookup,by simpa[UN] using hQ])
def E9{Q:@&Um->Uq->Prop}(p:A.handled=L)(hit:s.heap.IsValIter it d i es.size ep)(c:s.heap.get? d=B o)(f:o.data=.dict es ep)
  (yes:∀e b,es[i]?=B e->b.IsValIter it d (i+1) es.size ep->Heap.SameBut it s.heap b->Q (B e.val) { s with heap:=b })
  (no:∀b,es[i]?=L->Heap.ExtBut it s.heap b->Q L { s with heap:=b }):Us (Ut prog w) A (pyNext (.ref it)) Q E s:=by
 let a:=hit.typeIs;rcases hit with⟨r,h,n,g⟩;let j:=F.slot_dict_valueiterator_next;delta pyNext;show Ul (wpAny_attempt (wpAny_callSpecial?_slot a j (UG j a F.entry_dict_valueiterator_next ?_ (F.args_dict_valueiterator_next_1 _))));show Ul (Ur (Ul (Ul ?_)))
 first|show Ul (wpAny_typeNameOfWhole_valiter a (Ur ?_))|show Ul (wpAny_typeNameOf_valiter a (Ur ?_))
 show Ul (wpAny_fieldsOf h g ?_)
 change Us _ _ (if(Value.ref d==Value.none)=Uj then _ else _) _ _ s
 rw[if_neg (by show Qx)];show Ul (Ur (Ul (wpAny_dictEntries c f ?_)));rw[if_neg ∎];show Ul (Ur (Ul (wpAny_dictEpoch c f ?_)));rw[if_neg ∎];show Ur ?_;let l:¬((i:Int)<0):=∅
 cases e:es[i]? with
 |some q=>
  cbv;rw[if_neg l,QV,e];show Ul ?_
  first|show Ul (wpAny_typeNameOfWhole_valiter a (Ur ?_))|show Ul (wpAny_typeNameOf_valiter a (Ur ?_))
  show Ul (wpAny_isOneOf_valiter a ?_);change Us _ _ (setField (.ref it) 1 (UN ((i:Int)+1)) >>= _) _ _ s;show Ul (wpAny_setField h g ∎ ?_)
  let k:(s.heap.update it (Obj.mapFields (·.setIfInBounds 1 (UN ((i:Int)+1))))).IsValIter it d (i+1) es.size ep:=
   #[_,RW _ h (Obj.isFreed_of_fields (Obj.data_mapFields g _)),(Obj.cls_mapFields ..).trans n,by rw[Obj.data_mapFields g];simp[UN]]
  let m:=Heap.IsValIter.typeIs (s:={ s with heap:=s.heap.update it (Obj.mapFields (·.setIfInBounds 1 (UN ((i:Int)+1)))) }) k;show Ul (UF (Ul (wpAny_isOneOf_valiter m (Ul (wpAny_isOneOf_valiter m ?_)))));show Ur (Ur #[_,rfl,Ur (yes q _ e k (Heap.SameBut.update ..))])
 |none=>
  cbv;rw[if_neg l,QV,e];show Ul ?_
  first|show Ul (wpAny_typeNameOfWhole_valiter a (Ur ?_))|show Ul (wpAny_typeNameOf_valiter a (Ur ?_))
  change Us _ _ (setField (.ref it) 0 .none >>= _) _ _ s;show Ul (wpAny_setField h g ∎ (Ul ?_));unfold newExc newTuple
  show Ul (UA (Ul (wpAny_of_eq (by first|rfl|(dsimp[firstArgMember];rfl)) (UA ?_ (by size_fits)))) (by size_fits))
  delta raiseNew;show Ul (wpAny_handled ?_);rw[show A.in1.handled=L from p];show Ul (Ur (wpAny_throw ?_));show Ul (wpAny_isInstance #[_,Qm _ rfl,rfl] isSubtype_stop ?_);show Ur (no _ e (((Heap.SameBut.update ..).extBut.push _).push _))
theorem Aq:KdlSrc prog w "dict_values" v d es.size (λi x=>Σe,es[i]?=B e/\x=e.val) (λh=>h.IsValuesView v d/\h.get? d=B o/\o.data=.dict es ep) where
 type:=λZ h=>h.1.typeIs
 there:=λ_ ⟨⟨_,k,_⟩,e,_⟩=>#[Qj k,Qj e]
 keep:=λ_ _ ⟨⟨o,k,x⟩,e,j⟩ hk=>#[#[o,hk v (.inl rfl) o k,x],hk d (.inr rfl) _ e,j]
 notList:=⋯
 notTuple:=⋯
 hint:=λZ Z Z Z h hq=>kdl_hint_values h.1.typeIs hq
 iter:=λA s r ⟨k,e,j⟩=>#[_,λi h=>h.IsValIter s⁻¹ d i es.size ep/\h.get? d=B o,(λZ Z hq=>LP k e j hq),{
   sub:=λb c=>by simp at c;simp[c]
   frame:=λZ Z Z a hk=>#[a.1.at λo e=>hk _ ∎ o e,hk _ ∎ _ a.2]
   item:=λi m Q E u a f=>by
    show E9 r a.1 a.2 j (λp g l n q=>f p.val g m.toks #[p,l,rfl] #[n,(q.2 d (Qu (Qj e))).trans a.2] λb o c e=>(q.2 b (λz=>c (by simp[z]))).trans e) λg l Z=>?_;rw[Q5] at l
    lia
   done:=λm Q E a f=>by
    show E9 r a.1 a.2 j (λp g l Z Z=>?_) λg Z t=>f g m.toks λb o c e=>t b o (λz=>c (by simp[z])) e;show absurd (R6.mp l).1 (Re _)
   self:=λZ Z Z Z a f=>wpAny_pyIter_valiter a.1 f },#[_,Qm _ rfl,rfl,rfl],Qg _ e]
end
section
variable {X:Cx}
def LQ:V->-V->Hp->VK->Prop:=λx xs H Q=>Σa m ep O,x=.ref a/\xs=[]/\H a=B (.dT m ep O)/\∀v,H v=L->Q (.ref v) (upd H v (.ext (HP v a)))
def Ar:Jt X "dict.values" LQ:=by
 intro b s Y H x j v t Q I r g h;let⟨a,m,y,i,rfl,rfl,e,q⟩:=h;ext g;cases(r);let⟨n,j,o,p,l,f,c,u,w⟩:=fA I.hok e;let d:s.TypeIs (.ref a) "dict":=#[o,f,c.1];show call_meetsIn F.slot_dict_values d F.entry_dict_values (F.args_dict_values_1 _) (qQ a n) #[d,?_];rwa[.ref s⁻¹,_,I.laid (λZ Z q=>Qg _ q) (Qe _) ?_,rfl,q _ (I.hok.fresh (Qe _))];rwa[#[_,Qm _ rfl,rfl,rfl],#[_,Qm _ rfl],λf c ⟨o,e1,e2⟩ k=>#[o,k o e1,e2]]
def Op(ta:TA):TE:=λY H Q=>ta Y H λvs H1=>Σv a m ep O,vs=[.ref v]/\H1 v=B (.ext (HP v a))/\H1 a=B (.dT m ep O)/\∀p,H1 p=L->Q (.ref p) (upd H1 p (.lst (O.map (·.2))))
def Iq{a:Uo}(R:X.calm=Uj)(W:Gl X "list")(T:X.mg "list" = L)(ha:PA X [a] ta)(F:Uv [a] X.env=[(Uk,eval a X.env)]):PE X (.Call (.Name "list" p) [a] [] pos) (Op ta):=by
 intro j s Y H Q I h;show Call_ (dR I W T boot_list (PyProof.Rows.callWith_type1 (a8 (ha pos j s Y H _ I h) λus s1 ⟨vs,H1,f,N,v,a',m,ep,d,e,K,hq,q⟩=>?_) F rfl));subst e;let⟨u,rfl,V⟩:=N.one;cases(V);let⟨M,z_,y_⟩:=(f.hok v _ K);obtain⟨z,hd,r,o,A,n,h1,h2,P,w⟩:d.length<=sizeLine/\_:=#[(uw f.hok hq).1,fA f.hok hq];let l:r.length=d.length:=(Paired.length n).symm;let x:A.size=d.length:=by rw[size_of_entries w,l]
 show kdl_call (Aq) (f.ok.hd R) #[M,h1,P] ∅ λh' tk b Z S E c=>?_;rwa[.ref s1⁻¹,_,f.laid (o:=.lst (d.map (·.2))) S (Qe _) #[by rw[Qa];show z,b.toList,Z,?_,↥E],rfl,q _ (f.hok.fresh (Qe _))]
 let e1:b.toList=r.map (·.2.2):=by
  show RV λi=>?_;rw[Qc,Q4];obtain g|g:=Nat.lt_or_ge i A.size
  .let D:i<b.size:=by rw[c.1];show g
   let⟨en,k,O⟩:=c.2 i b[i] (RD D);rw[RD D,O];rw[<- Q4,w,Qc] at k
   cases C:r[i]? with
   |none=>rw[C] at k;ext k
   |some y=>rw[C] at k;ext k;rfl
  .rw[Q5.mpr (by rw[c.1];show g),QT ∅];rfl
 rw[e1];clear hq q c z e1 w l x
 induction n with
 |nil=>show .nil
 |cons h t U=>show .cons h.2.2 U
end
end L2
namespace J
def As(a:@&KD):@&KD:=match a with
 |some (k,.nd (.dic (_+1) _) ds)=>if dZ k ds=Uj/\ds.length<=100000 then B (.fr (.own [] .fz),.lst ds) else L
 |_=>L
def LR{c:Cz}(O:aq X Γ c){f:Ro->@&KD}{p s cp pos:Pos}(I:jh c.sc "list" = Uj)(E:ee a=Uj)(K:(s.endLine==cp.line)=Uj)(C:SndE X f a):SndE X (λZ=>As (f Z)) (.Call (.Name "list" p) [.Call (.Attribute a "values" s) [] [] cp] [] pos):=by
 intro Z S d h g Y H Q t q;cbv at h;delta As at h
 .ext1 k m M P e;obtain⟨⟨A,R⟩,e2⟩:=wZ h;ext e2;show aB (Iq O.calm (d9 O I) (O.tab.bl _ (by simp[aV])) (bB (su F.plainAttrs_dict F.slot_dict_values F.type_dict_values Ar aC (dP E) K) eM rfl) rfl) (C Z _ _ e g Y H _ t λv u s1 y=>?_);let⟨a,o,N,rfl,n,D,w⟩:=y.items A t.mu s1;rcases D with⟨z,_⟩|⟨j,_,b,r,rfl,e3,e4⟩
  .ext z
  .rwa[.inr #[rfl,j,r,b,n],a,j,r,b,rfl,rfl,n,λv x=>?_];let s2:Same u (upd u v (.ext (HP v a))):=ag x;rwa[v,a,j,r,b,rfl,al,s2 _ _ n,λl i=>q _ _ (s1.trans (s2.trans (ag i))) ((nR i ?_).older (s1.trans s2))];rw[<- e4];show w.same s2
 .ext h
end J
section
open PySem L2 J
local macro_rules|`(tactic|erw[$[$x:term],*])=>`(tactic|change Wp (ao _ _ _ [] [$x,*]) _)
local macro_rules | `(tactic| walk_at "fsc")=>`(tactic| show #[rfl,rfl,rfl,by nofun,rfl,by nofun,by nofun])
local macro_rules | `(tactic| walk_at "bnd")=>`(tactic| show λ_ _ _ _ _ _=>by first | show J.MX (λ_=>rfl) | show J.us2 (λ_ _=>rfl) | show J.LD (λ_ _ _=>rfl) | show J.MY (λ_ _ _ _=>rfl) | show J.Pg (λ_ _ _ _ _=>rfl))
namespace K47
open PySem L2 J
meta def fx(i:Nat):Uw:=PySem.Challenge.pw_gatepapers_k47_codes_by_helpers.main.body.getD i (.Pass #[0,0,0,0])
meta def fns:Nms:=#[((["is_whole","is_below","bits_of","is_table","is_tuple","places_in","all_trials","column_of","column_told","is_spot","looked","is_paper","is_helper","is_statement","hangs_on_no_in","holds_first","holds_now","holds_next","trials_by","bits_by_free","bits_by_given","_law_mixed","_law_state","_law_take","_law_places","_law_masked","_law_case","_law_circuit","_law_pair","_law_paper"]:-Str)++(["_law_met","law","Ground.put_circuit","Ground.all_below","Ground.reckoned","Ground"]:-Str)),[("MOST_PLACES",.int 3),("MOST_FREE",.int 8)],λl c=>match l,c with|111,91=>B (.own [] .fz)|124,50=>B (.own [] .fz)|148,11=>B (.own [] .fz)|160,13=>B (.own [] .fz)|180,11=>B (.own [.own [] .fz] .fz)|43,21=>B (.own [] .fz)|44,22=>B (.own [] .fz)|45,22=>B (.own [] .fz)|60,16=>B (.own [] .fz)|_,_=>L,λl c=>match l,c with|145,12=>B Uj|158,12=>B Uj|170,11=>B Uj|205,23=>B Uj|205,36=>B Uj|205,47=>B Uj|209,15=>B Uj|209,30=>B Uj|230,12=>B Uj|230,26=>B Uj|78,15=>B Uj|_,_=>L,λi=>match i with|23=>B [Uj,Uk]|32=>B [Uj,Uk,Uk]|_=>L,λZ Z=>[],[("Ground",["gates","begins","afters"])]]
abbrev au(i:Int):IE:=.lit (.int i)
abbrev xQ(s:Str):IE:=.lit (.str s)
meta def an:An:=#[λl=>match l with|34=>[4]|142=>[10,12,13]|150=>[5,6,7,8,9]|153=>[9]|161=>[6]|167=>[8,7]|194=>[5,6,7]|236=>[2,3,6,7,4,5]|53=>[8,9]|56=>[7,10,11]|62=>[5]|72=>[5]|_=>[],λl=>match l with|218=>[9,10]|_=>[],λl=>match l with|46=>Uj|47=>Uj|68=>Uj|71=>Uj|129=>Uj|165=>Uj|166=>Uj|167=>Uj|232=>Uj|_=>Uk]
abbrev s0:Uw:=fx 1
section
local macro_rules|`([])=>`(.nil)|`([$a])=>`(.cons $a .nil)|`([$a,$b,*])=>`(.cons $a [$b,*])|`(↑$a)=>`(.var $a)|`(($a:num))=>`(au $a)|`(($a:str))=>`(xQ $a)
meta def b0:bq:=[.ret (.p (.bool .And [.isi "int" ↑0,.not (.isi "bool" ↑0)]))]
abbrev s1:Uw:=fx 2
meta def b1:bq:=[.ret (.p (.bool .And [.fn 0 [↑0],.chain .LtE .Lt (0) ↑0 ↑1]))]
abbrev s2:Uw:=fx 3
meta def b2:bq:=[.ret (.p (.comp .fz [L,L,B 0] (.nm 1) (.rng (0) ↑1) .non (.bin .BitAnd (.bin .RShift ↑2 ↑1) (1))))]
abbrev s3:Uw:=fx 6
meta def b3:bq:=[.ifs (.p (.bool .Or [.not (.fn 0 [↑0]),.not (.fn 0 [↑1])])) [.ret (.p (.lit (.bl Uk)))] [],.ifs (.p (.bool .Or [.cmp .Lt ↑1 (0),.cmp .Gt ↑1 (3)])) [.ret (.p (.lit (.bl Uk)))] [],.ret (.p (.chain .LtE .Lt (0) ↑0 (.bin .LShift (1) (.bin .LShift (1) ↑1))))]
abbrev s4:Uw:=fx 8
meta def b4:bq:=[.ret (.p (.bool .And [.isi "tuple" ↑0,.cmp .Eq (.blt "len" [↑0]) ↑1]))]
abbrev s5:Uw:=fx 9
meta def b5:bq:=[.ret (.p (.bin .Add (.bin .Add (.ix ↑0 (0)) (.blt "len" [.ix ↑0 (1)])) (.blt "len" [.ix ↑0 (2)])))]
abbrev s6:Uw:=fx 11
meta def b6:bq:=[.ret (.p (.bin .Sub (.bin .LShift (1) (.bin .LShift (1) ↑0)) (1)))]
abbrev s7:Uw:=fx 12
meta def b7:bq:=[.asg 2 (.p (.bin .LShift (1) ↑0)),.asg 3 (.p (.bin .LShift (.fn 6 [↑0]) ↑2)),.asg 4 (.p (.bin .Add ↑2 ↑2)),.wh [] (.p (.cmp .Lt ↑4 (.bin .LShift (1) ↑1))) [.aug 3 .BitOr (.p (.bin .LShift ↑3 ↑4)),.aug 4 .Add (.p ↑4)],.ret (.p ↑3)]
abbrev s8:Uw:=fx 13
meta def b8:bq:=[.asg 3 (.p (.comp .fz [L,L,B 2] (.nm 1) (.e (.fn 2 [↑0,.bin .LShift (1) (.blt "len" [↑1])])) .non (.bin .Mult ↑2 ↑1))),.fo [4] (.nm 4) (.p (.e ↑1)) [.asg 3 (.p (.comp .fz [L,L,L,B 4] (.tp [.nm 1,.nm 2]) (.zp (.stp ↑3 .non (2)) (.stp ↑3 (.som (1)) (2))) .non (.bin .BitXor ↑1 (.bin .BitAnd (.bin .BitXor ↑1 ↑2) ↑3))))],.ret (.p (.ix ↑3 (0)))]
abbrev s9:Uw:=fx 15
meta def b9:bq:=[.ret (.p (.bool .And [.fn 4 [↑0,(2)],.fn 1 [.ix ↑0 (0),(3)],.fn 1 [.ix ↑0 (1),.ix ↑1 (.ix ↑0 (0))]]))]
abbrev Pi:Uw:=fx 19
meta def Oq:bq:=[.ifs (.p (.bool .Or [.cmp .NotEq (.ix ↑0 (0)) (.ix ↑1 (0)),.cmp .NotEq (.blt "len" [.ix ↑0 (3)]) (.blt "len" [.ix ↑1 (3)])])) [.ret (.p (.lit (.bl Uk)))] [],.ifs (.p (.not (.fn 11 [↑0,↑1,↑2]))) [.ret (.p (.lit (.bl Uk)))] [],.unp [3,4,5,6] (.p ↑2),.asg 7 (.p (.fn 35 [↑0,↑1,↑3])),.asg 8 (.p (.bin .Add (.comp .fz [L,L] (.nm 1) (.rng (0) (.ix ↑0 (0))) .non (.tup .fz [.tup .fz [(0),↑1],.tup .fz [(1),↑1]])) (.comp .fz [L,L] (.nm 1) (.e (.bin .Add ↑4 ↑5)) .non (.sl ↑1 .non (.som (2)))))),.asg 9 (.p (.comp .fz [L,L,L] (.tp [.nm 1,.nm 2]) (.zp (.ix ↑0 (3)) (.ix ↑1 (3))) .non (.tup .fz [.tup .fz [(0),↑1],.tup .fz [(1),↑2]]))),.ret (.p (.bool .And [.cmp .Eq (.comp .fz [L,L,B 8] (.nm 1) (.e ↑6) .non (.ix ↑2 ↑1)) ↑9,.blt "all" [.comp .fz [L,L,L,B 7] (.nm 1) (.e ↑4) .non (.fn 14 [↑3,↑1])],.blt "all" [.comp .fz [L,L,L,B 7] (.nm 1) (.e ↑4) .non (.fn 15 [↑3,↑1])],.blt "all" [.comp .fz [L,L,L,B 7,B 8] (.nm 1) (.e ↑5) .non (.fn 16 [↑3,↑4,↑1])],.blt "all" [.comp .fz [L,L,L,B 7,B 8] (.nm 1) (.e ↑4) .non (.fn 17 [↑3,↑4,↑1])]]))]
abbrev Pj:Uw:=fx 20
meta def Os:bq:=[.ifs (.p (.bool .Or [.not (.fn 4 [↑2,(4)]),.not (.blt "all" [.comp .fz [L,L,L,L] (.nm 1) (.e ↑2) .non (.isi "list" ↑1)])])) [.ret (.p (.lit (.bl Uk)))] [],.unp [3,4,5,6] (.p ↑2),.asg 7 (.p (.lst (.own [] .fz) [.fn 5 [↑0],.fn 5 [↑1],.blt "len" [↑3]])),.asg 8 (.p (.bin .Add (.ix ↑0 (0)) (.blt "len" [↑4]))),.asg 9 (.p (.bin .Add ↑8 (.blt "len" [↑5]))),.ret (.p (.bool .And [.blt "all" [.comp .fz [L,L,L,L,B 7] (.tp [.nm 1,.nm 2]) (.enm ↑3) .non (.fn 12 [↑2,.bin .Add (.sl ↑4 .non (.som (2))) (.lst (.own [] .fz) [↑1])])],.blt "all" [.comp .fz [L,L,L,B 9,B 7] (.nm 1) (.e ↑4) .non (.fn 13 [↑1,↑4,↑3])],.blt "all" [.comp .fz [L,L,L,L,B 8,B 7] (.tp [.nm 1,.nm 2]) (.enm ↑5) .non (.fn 13 [↑2,↑5,.bin .Add ↑4 ↑1])],.cmp .Eq (.blt "len" [↑6]) (.blt "len" [.ix ↑0 (3)]),.blt "all" [.comp .fz [L,L,L,B 9] (.nm 1) (.e ↑6) .non (.fn 1 [↑1,↑3])]]))]
abbrev Pl:Uw:=fx 21
meta def Ot:bq:=[.ifs (.p (.bool .Or [.not (.fn 4 [↑0,(2)]),.not (.isi "tuple" (.ix ↑0 (1)))])) [.ret (.p (.lit (.bl Uk)))] [],.ret (.p (.bool .And [.fn 3 [.ix ↑0 (0),.blt "len" [.ix ↑0 (1)]],.blt "all" [.comp .fz [L,L,L,B 1] (.nm 1) (.e (.ix ↑0 (1))) .non (.fn 9 [↑1,↑3])]]))]
abbrev s13:Uw:=fx 22
meta def Ou:bq:=[.ifs (.p (.bool .Or [.not (.fn 4 [↑0,(4)]),.not (.fn 9 [.ix ↑0 (0),↑1]),.not (.fn 9 [.ix ↑0 (1),↑1])])) [.ret (.p (.lit (.bl Uk)))] [],.unp [3,4] (.p (.sl ↑0 (.som (2)) .non)),.ifs (.p (.bool .Or [.not (.isi "list" ↑3),.not (.isi "list" ↑4),.cmp .Gt (.blt "len" [↑3]) (8)])) [.ret (.p (.lit (.bl Uk)))] [],.ret (.p (.bool .And [.blt "all" [.comp .fz [L,L,L,L,B 2,B 1] (.nm 1) (.e ↑3) .non (.bool .Or [.fn 1 [↑1,↑4],.fn 9 [↑1,↑5]])],.blt "all" [.comp .fz [L,L,L,B 2] (.nm 1) (.e ↑4) .non (.fn 1 [↑1,↑3])]]))]
abbrev Pm:Uw:=fx 23
meta def Ov:bq:=[.ret (.p (.blt "all" [.comp .fz [L,L,B 0] (.nm 1) (.e (.fn 33 [↑0,.dnew 1 .fz,.sl ↑1 .non (.som (2))])) .non (.bool .Or [.cmp .In ↑1 (.fld "gates" ↑2),.cmp .In ↑1 (.fld "begins" ↑2)])]))]
abbrev Pn:Uw:=fx 24
meta def Ox:bq:=[.asg 2 (.p (.fn 34 [↑0,.fld "begins" ↑0,.sl ↑1 .non (.som (2)),(1)])),.ret (.p (.cmp .Eq (.ix ↑2 (.ix ↑1 (0))) (.ix ↑2 (.ix ↑1 (1)))))]
abbrev Po:Uw:=fx 25
meta def Oy:bq:=[.unp [3,4,5,6] (.p ↑2),.asg 7 (.p (.fn 18 [↑0,↑1,↑5,↑6,.lst (.own [] .fz) [↑3,↑4]])),.ifs (.p (.cmp .Is ↑7 (.lit .non))) [.ret (.p (.lit (.bl Uk)))] [],.unp [8,9] (.p ↑7),.ret (.p (.cmp .Eq (.bin .BitAnd (.bin .BitXor (.ix ↑8 ↑3) (.ix ↑8 ↑4)) ↑9) (0)))]
abbrev ng:Uw:=fx 26
meta def BC:bq:=[.unp [3,4,5,6] (.p ↑2),.asg 7 (.p (.comp .fz [L,L,B 0] (.nm 1) (.e (.fn 33 [↑0,.dnew 1 .fz,.lst (.own [] .fz) [↑3,↑4]])) (.som (.cmp .In ↑1 (.fld "afters" ↑2))) ↑1)),.asg 8 (.p (.fn 18 [↑0,↑1,↑5,↑6,.comp .fz [L,L,B 0] (.nm 1) (.e ↑7) .non (.ix (.fld "afters" ↑2) ↑1)])),.ifs (.p (.cmp .Is ↑8 (.lit .non))) [.ret (.p (.lit (.bl Uk)))] [],.unp [9,10] (.p ↑8),.stk,.asg 12 (.p (.fn 34 [↑0,↑11,.lst (.own [] .fz) [↑3,↑4],.fn 6 [.blt "len" [↑5]]])),.ret (.p (.cmp .Eq (.bin .BitAnd (.bin .BitXor (.ix ↑12 ↑3) (.ix ↑12 ↑4)) ↑10) (0)))]
noncomputable abbrev Oz:-Str:=["ground","statements","statement","one","other","free","given","memories","trials","found","kept","nexts","later"]
def OA:a6 Oz ["ground","statements","statement"] (ab ng):=by walk_at "fsc"
abbrev Pp:Uw:=fx 27
meta def OB:bq:=[.asg 5 (.p (.fn 6 [.blt "len" [↑2]])),.unp [6,7] (.p (.fn 19 [↑1,↑2])),.asg 8 (.p (.fn 20 [↑0,↑1,↑3,↑6,↑5])),.asg 9 (.p (.blt "list" [↑4])),.fo [] (.nm 10) (.p (.e ↑3)) [.exp (.mut "extend" (.nm 9) [.ix ↑1 ↑10])],.asg 11 (.p (.fn 34 [↑0,↑8,↑9,↑5])),.ifs (.p (.not (.blt "all" [.comp .fz [L,L,B 11] (.nm 1) (.e ↑9) .non (.cmp .In ↑1 ↑2)]))) [.ret (.p (.lit .non))] [],.fo [10,12,13] (.nm 10) (.p (.e ↑3)) [.unp [12,13] (.p (.ix ↑1 ↑10)),.aug 7 .BitAnd (.p (.bin .BitXor (.bin .BitXor ↑5 (.ix ↑11 ↑12)) (.ix ↑11 ↑13)))],.ret (.tup .fz (.fin (.mv 11) [↑7]))]
abbrev Pq:Uw:=fx 28
meta def OC:bq:=[.asg 2 (.p (.fn 6 [.blt "len" [↑1]])),.asg 3 (.p (.dnew 1 .fz)),.asg 4 (.p ↑2),.fo [5,6,7,8,9] (.tp [.nm 5,.nm 6]) (.p (.enm ↑1)) [.asg 7 (.p (.fn 7 [↑5,.blt "len" [↑1]])),.asg 8 (.p (.ifx (.fn 0 [↑6]) (.ix ↑0 ↑6) (.tup .fz [↑6]))),.fo [9] (.nm 9) (.p (.e ↑8)) [.ifs (.p (.cmp .In ↑9 ↑3)) [.aug 4 .BitAnd (.p (.bin .BitXor (.bin .BitXor ↑2 (.ix ↑3 ↑9)) ↑7))] [.put (.nm 3) ↑9 (.p ↑7)]]],.ret (.tup .fz (.fin (.mv 3) [↑4]))]
abbrev tY:Uw:=fx 29
meta def Fa:bq:=[.asg 5 (.p (.dnew 1 .fz)),.fo [6] (.nm 6) (.p (.e ↑2)) [.unp [7,8] (.p (.ix ↑1 ↑6)),.ifs (.p (.bool .And [.cmp .NotIn ↑8 ↑3,.cmp .NotIn ↑8 (.fld "gates" ↑0),.cmp .NotIn ↑8 ↑5])) [.put (.nm 5) ↑8 (.p ↑7)] []],.stk,.stk,.stk,.ret (.mv 10)]
noncomputable abbrev OD:-Str:=["ground","statements","given","bits","whole","firsts","number","first","second","alone","found"]
def OE:a6 OD ["ground","statements","given","bits","whole"] (ab tY):=by walk_at "fsc"
abbrev Ps:Uw:=fx 31
meta def OF:bq:=[.asg 2 (.p (.bin .Mod (.bin .Add (.bin .Add (.bin .Mult (.bin .Mod ↑0 (2147483647)) (.bin .Add (48271) (.bin .Mult (.bin .Mult (2) ↑1) ↑1))) (.bin .Mult (7919) ↑1)) (12345)) (2147483629))),.asg 2 (.p (.bin .FloorDiv (.bin .Mod (.bin .Mult ↑2 ↑2) (2147483587)) (3))),.ret (.p (.bin .FloorDiv (.bin .Mod (.bin .Mult (.bin .Mod (.bin .Add (.bin .Add (.bin .Mult ↑2 (69621)) (.bin .Mult (16807) ↑1)) (1)) (2147483579)) (.bin .Add (.bin .Mod ↑2 (65521)) (1))) (2147483563)) (5)))]
abbrev Pt:Uw:=fx 32
meta def OG:bq:=[.asg 1 (.p (0)),.fo [] (.nm 2) (.p (.e ↑0)) [.asg 1 (.p (.bin .Mod (.bin .Add (.bin .Mult ↑1 (31)) ↑2) (.bin .Add (.bin .Pow (10) (18)) (9))))],.ret (.p (.lst (.own [.own [] .fz] .fz) [.comp .fz [L,L,L] (.nm 1) (.e ↑0) (.som (.cmp .GtE (.blt "abs" [↑1]) (.bin .Pow (10) (18)))) (.blt "abs" [↑1]),↑1,(0)]))]
abbrev sY:Uw:=fx 33
meta def LS:bq:=[.wh [] (.p (.bool .And [.cmp .Gt (.blt "len" [.ix ↑0 (0)]) (0),.cmp .Eq (.ix (.ix ↑0 (0)) (0)) (0)])) [.exp (.mut "pop" (.ix (.nm 0) (0)) [(0)])],.ifs (.p (.cmp .Gt (.blt "len" [.ix ↑0 (0)]) (0))) [.asg 2 (.p (.bin .Mod (.ix (.ix ↑0 (0)) (0)) ↑1)),.put (.ix (.nm 0) (0)) (0) (.p (.bin .FloorDiv (.ix (.ix ↑0 (0)) (0)) ↑1)),.ret (.p ↑2)] [],.put (.nm 0) (2) (.p (.bin .Add (.ix ↑0 (2)) (1))),.ret (.p (.bin .Mod (.fn 21 [.ix ↑0 (1),.ix ↑0 (2)]) ↑1))]
abbrev Jy:Uw:=fx 34
meta def OH:bq:=[.ret (.p (.tup .fz [(0),(1),↑0]))]
abbrev JD:Uw:=fx 35
meta def OI:bq:=[.asg 4 (.p (0)),.fo [5,6,7] (.nm 5) (.p (.rng (0) (8))) [.asg 6 (.p (.lst (.own [] .fz) [.bin .BitAnd ↑5 (1),.bin .BitAnd (.bin .RShift ↑5 (1)) (1),.bin .BitAnd (.bin .RShift ↑5 (2)) (1)])),.asg 7 (.p (.bin .Add (.bin .Add (.ix ↑6 (0)) (.bin .LShift (.bin .BitXor (.ix ↑6 (1)) (.ix ↑1 (0))) (1))) (.bin .LShift (.bin .BitXor (.ix ↑6 (2)) (.ix ↑1 (.bin .Sub ↑2 (1)))) (2)))),.asg 4 (.p (.bin .Add ↑4 (.bin .LShift (.bin .BitXor (.bin .BitAnd (.bin .RShift ↑0 ↑7) (1)) ↑3) ↑5)))],.ret (.p ↑4)]
abbrev Pu:Uw:=fx 36
meta def OJ:bq:=[.asg 1 (.p (.fn 22 [↑0])),.asg 2 (.bin .Add (.cons (.p (1)) (.fin (.io 23 (.ref 1 (.val (.p (2)) []))) []))),.asg 3 (.comp .fz [L,L,L,B 1] (.nm 1) (.p (.rng (0) ↑2)) .non (.io 23 (.ref 3 (.val (.p (2)) [])))),.asg 4 (.comp .fz [L,L,L,B 1] (.nm 1) (.p (.rng (0) ↑2)) .non (.io 23 (.ref 3 (.val (.p (2)) [])))),.asg 5 (.comp .fz [L,L,L,B 1] (.nm 1) (.p (.rng (0) (.bin .Add ↑2 (1)))) .non (.io 23 (.ref 3 (.val (.p (256)) [])))),.ret (.tup .fz (.cons (.p ↑2) (.cons (.mv 3) (.cons (.mv 4) (.cons (.mv 5) (.cons (.io 23 (.ref 1 (.val (.p ↑2) []))) (.cons (.io 23 (.ref 1 (.val (.p (.bin .Add ↑2 (1))) []))) (.fin (.io 23 (.ref 1 (.val (.p (8)) []))) []))))))))]
abbrev Pv:Uw:=fx 37
meta def OK:bq:=[.asg 3 (.p (.comp .fz [L,L,L,B 0] (.nm 1) (.e ↑2) .non (.tup .fz [↑1,.fn 24 [↑3]]))),.asg 4 (.p (.comp .fz [L,L,L,B 0] (.tp [.nm 1,.nm 2]) (.enm ↑1) .non (.tup .fz [↑2,.bin .Add (.bin .Add (1) ↑3) ↑1]))),.ret (.tup .fz (.cons (.p (1)) (.cons (.mv 4) (.fin (.mv 3) [.lst (.own [] .fz) [.bin .Add (1) (.bin .Mult (2) ↑0)]]))))]
abbrev Pw:Uw:=fx 38
meta def Ir:bq:=[.unp [2,3,4,5,6,7,8] (.p ↑0),.asg 9 (.p (.comp .fz [L,L,B 3,B 4] (.nm 1) (.rng (0) ↑2) .non (.bin .BitXor (.ix ↑2 ↑1) (.ix ↑3 ↑1)))),.ifs (.p (.cmp .Eq ↑1 ("begin"))) [.put (.nm 9) ↑6 (.p (.bin .Sub (1) (.ix ↑9 ↑6)))] [],.asg 10 (.p (.comp .fz [L,L,L,B 2,B 4,B 5] (.nm 1) (.rng (0) (.bin .Add ↑2 (1))) .non (.fn 25 [.ix ↑5 ↑1,↑4,↑3,.ix (.bin .Add ↑4 (.lst (.own [] .fz) [(0)])) ↑1]))),.ifs (.p (.cmp .Eq ↑1 ("table"))) [.put (.nm 10) ↑7 (.p (.bin .BitXor (.ix ↑10 ↑7) (.bin .LShift (1) ↑8)))] [],.pre [9,10] (.ret (.p (.tup .fz [.fn 27 [↑2,↑3,↑5],.fn 27 [↑2,↑9,↑10]])))]
abbrev Px:Uw:=fx 39
meta def Py:bq:=[.unp [2,3,4,5,6] (.p (.sl ↑0 .non (.som (5)))),.asg 7 (.p (.lst (.own [] .fz) [])),.fo [] (.nm 8) (.p (.rng (0) ↑2)) [.exp (.mut "append" (.nm 7) [.tup .fz [.ix (.lst (.own [] .fz) [(2),(1)]) (.bin .BitXor (.ix ↑4 ↑8) (.blt "int" [.bool .And [.cmp .Eq ↑1 ("helper"),.cmp .Eq ↑8 ↑6]])),.tup .fz [.tup .fz [(0),.bin .Add (1) ↑8]]]])],.asg 9 (.p (.bin .Add (.lst (.own [] .fz) [(0)]) (.comp .fz [L,L] (.nm 1) (.rng (0) ↑2) .non (.tup .fz [(0),.bin .Add (1) ↑1])))),.asg 10 (.p (.comp .fz [L,L] (.nm 1) (.rng (0) ↑2) .non (.bin .Add (1) ↑1))),.asg 11 (.p (.comp .fz [L,L,L,B 9,B 10] (.nm 1) (.rng (0) ↑2) .non (.tup .fz [.tup .fz [(2),↑1],.tup .fz [(1),.bin .Add (1) ↑1],.blt "list" [↑3],.blt "list" [↑4]]))),.ifs (.p (.cmp .Eq ↑1 ("order"))) [.put (.nm 11) ↑6 (.p (.tup .fz [.ix (.ix ↑11 ↑6) (1),.ix (.ix ↑11 ↑6) (0),.ix (.ix ↑11 ↑6) (2),.ix (.ix ↑11 ↑6) (3)]))] [],.asg 12 (.p (.bin .Add (1) (.bin .Mult (2) ↑2))),.ret (.tup .fz (.cons (.mv 7) (.fin (.mv 11) [.lst (.own [] .fz) [.tup .fz [.tup .fz [(0),↑12],.tup .fz [(1),↑12],.blt "list" [↑9],.blt "list" [↑10]]],.lst (.own [] .fz) [.bin .Add (1) ↑2]])))]
abbrev BD:Uw:=fx 40
meta def OL:bq:=[.stk,.ret (.p (.bool .Or [.cmp .Eq ↑1 (2),.cmp .Eq (.bin .BitAnd (.bin .RShift ↑2 (1)) (1)) (.bin .BitAnd (.bin .RShift ↑2 (2)) (1))]))]
noncomputable abbrev OM:-Str:=["_law_case_here","_law_many","_law_bit"]
def ON:a6 OM ["_law_case_here"] (ab BD):=by walk_at "fsc"
abbrev At:Uw:=fx 41
meta def OO:bq:=[.asg 1 (.p (.fn 26 [↑0])),.fo [2,3,6,7,4,5] (.nm 2) (.p (.e (.lst (.own [] .fz) [(""),("order"),("begin"),("helper"),("table"),("")]))) [.asg 3 (.p (.bool .Or [.cmp .Eq ↑2 (""),.bool .And [.cmp .Eq ↑2 ("table"),.not (.fn 30 [↑1])]])),.unp [4,5] (.p (.fn 28 [↑1,↑2])),.asg 6 (.p (.fn 29 [↑1,↑2])),.asg 7 (.p (.fn 10 [↑4,↑5,↑6])),.ifs (.p (.bool .Or [.not (.isi "bool" ↑7),.cmp .NotEq ↑7 ↑3,.cmp .NotEq ↑6 (.fn 29 [↑1,↑2])])) [.ret (.p (.lit (.bl Uk)))] [],.ifs (.p (.cmp .NotEq (.tup .fz [↑4,↑5]) (.fn 28 [↑1,↑2]))) [.ret (.p (.lit (.bl Uk)))] []],.ret (.p (.lit (.bl Uj)))]
noncomputable abbrev LU:-Str:=["_law_script","_law_case_here","_law_changed","_law_due","_law_one","_law_two","_law_paper_here","_law_found"]
def OP:qA fns an 60 LU At=B OO:=by rfl
def OQ:a6 LU ["_law_script"] (ab At):=by walk_at "fsc"
abbrev LV:Uw:=match fx 16 with|.ClassDef _ _ _ b ..=>b.getD 1 (.Pass #[0,0,0,0])|s=>s
meta def OR:bq:=[.unp [3,4,5,6] (.p ↑2),.fo [8,9] (.tp [.nm 7,.tp [.nm 8,.nm 9]]) (.p (.enm ↑4)) [.put (.fld (.nm 0) "begins") (.tup .fz [↑1,.bin .Add ↑3 ↑7]) (.p ↑8),.put (.fld (.nm 0) "afters") (.tup .fz [↑1,.bin .Add ↑3 ↑7]) (.p (.tup .fz [↑1,↑9]))],.fo [7,10,11] (.tp [.nm 7,.tp [.nm 10,.nm 11]]) (.p (.enm ↑5)) [.put (.fld (.nm 0) "gates") (.tup .fz [↑1,.bin .Add (.bin .Add ↑3 (.blt "len" [↑4])) ↑7]) (.p (.tup .fz [↑10,.comp .fz [L,L,B 1] (.nm 1) (.e ↑11) .non (.tup .fz [↑2,↑1])]))]]
noncomputable abbrev LW:-Str:=["self","which","circuit","ins","memories","gates","outs","k","begin","after","table","places"]
def OS:qA fns an 60 LW LV=B OR:=by rfl
def OT:a6 LW ["self","which","circuit"] (ab LV):=by walk_at "fsc"
abbrev Au:Uw:=match fx 16 with|.ClassDef _ _ _ b ..=>b.getD 2 (.Pass #[0,0,0,0])|s=>s
meta def JE:bq:=[.asg 3 (.p (.dnew 1 .fz)),.asg 4 (.p (.blt "list" [↑2])),.wh [5] (.p ↑4) [.asg 5 (.mut "pop" (.nm 4) []),.ifs (.p (.bool .And [.cmp .NotIn ↑5 ↑3,.cmp .NotIn ↑5 ↑1])) [.put (.nm 3) ↑5 (.p (.lit (.bl Uj))),.ifs (.p (.cmp .In ↑5 (.fld "gates" ↑0))) [.exp (.mut "extend" (.nm 4) [.ix (.ix (.fld "gates" ↑0) ↑5) (1)])] []] []],.stk]
noncomputable abbrev OU:-Str:=["self","known","wanted","found","left","spot"]
def OV:a6 OU ["self","known","wanted"] (ab Au):=by walk_at "fsc"
abbrev Av:Uw:=match fx 16 with|.ClassDef _ _ _ b ..=>b.getD 3 (.Pass #[0,0,0,0])|s=>s
meta def JF:bq:=[.stk,.fo [5] (.nm 5) (.p (.e (.fn 33 [↑0,↑1,↑2]))) [.ifs (.p (.cmp .In ↑5 (.fld "gates" ↑0))) [.unp [6,7] (.p (.ix (.fld "gates" ↑0) ↑5)),.asg 8 (.p (.comp .fz [L,L,B 4] (.nm 1) (.e ↑7) (.som (.cmp .In ↑1 ↑2)) (.ix ↑2 ↑1))),.ifs (.p (.cmp .Eq (.blt "len" [↑8]) (.blt "len" [↑7]))) [.put (.nm 4) ↑5 (.p (.fn 8 [↑6,↑8,↑3]))] []] []],.ret (.mv 4)]
noncomputable abbrev OW:-Str:=["self","known","wanted","whole","found","spot","table","spots","columns"]
def OX:a6 OW ["self","known","wanted","whole"] (ab Av):=by walk_at "fsc"
abbrev vT:Uw:=match fx 16 with|.ClassDef _ _ _ b ..=>b.getD 0 (.Pass #[0,0,0,0])|s=>s
meta def Iu:bq:=[.putF "Ground" (.nm 0) "gates" (.p (.dnew 1 .fz)),.putF "Ground" (.nm 0) "begins" (.p (.dnew 1 .fz)),.putF "Ground" (.nm 0) "afters" (.p (.dnew 1 .fz)),.stk,.stk,.fo [] (.tp [.nm 4,.nm 5]) (.p (.enm ↑3)) [.put (.fld (.nm 0) "gates") (.tup .fz [(2),↑4]) (.p ↑5)]]
end
noncomputable abbrev OY:-Str:=["self","one","other","helpers","k","helper"]
def OZ:a6 OY ["self","one","other","helpers"] (ab vT):=by walk_at "fsc"
meta def Γ0:GG:=#[λZ=>L,λZ=>L]
def ψ0:Fn:=bO Γ0 1000 1 1 b0
def Γ_0:GG:=Γ0.addI 0 ψ0
def ψ1:Fn:=bO Γ_0 1000 2 2 b1
def Γ_1:GG:=Γ_0.addI 1 ψ1
def ψ2:Fn:=bO Γ_1 1000 2 2 b2
def Γ_2:GG:=Γ_1.addI 2 ψ2
def ψ3:Fn:=bO Γ_2 1000 2 2 b3
def Γ_3:GG:=Γ_2.addI 3 ψ3
def ψ4:Fn:=bO Γ_3 1000 2 2 b4
def Γ_4:GG:=Γ_3.addI 4 ψ4
def ψ5:Fn:=bO Γ_4 1000 1 1 b5
def Γ_5:GG:=Γ_4.addI 5 ψ5
def ψ6:Fn:=bO Γ_5 1000 1 1 b6
def Γ_6:GG:=Γ_5.addI 6 ψ6
def ψ7:Fn:=bO Γ_6 1000 2 5 b7
def Γ_7:GG:=Γ_6.addI 7 ψ7
def ψ8:Fn:=bO Γ_7 1000 3 5 b8
def Γ_8:GG:=Γ_7.addI 8 ψ8
def ψ9:Fn:=bO Γ_8 1000 2 2 b9
def Γ_9:GG:=Γ_8.addI 9 ψ9
def LX:Fn:=bO Γ_9 1000 2 2 Ot
def Γ_12:GG:=Γ_9.addI 12 LX
def JG:Fn:=bO Γ_12 1000 3 5 Ou
def Γ_13:GG:=Γ_12.addI 13 JG
def LY:Fn:=bO Γ_13 1000 3 10 Os
def Γ_11:GG:=Γ_13.addI 11 LY
def Aw:Ro->@&Res:=λZ=>cq (ao Γ_11 1000 (aY JE 3) [] Z) λZ=>tF (xr (xq (ed 3 Z[3]?)) Z)
def Iv:Fn:=xo "Ground.all_below" (jG Aw 3 6)
def Γ_33:GG:=Γ_11.addI 33 Iv
def Iw:Fn:=bO Γ_33 1000 2 2 Ov
def Γ_14:GG:=Γ_33.addI 14 Iw
def xx:Ro->@&Res:=λZ=>cq (fv [] 4 (xr (qJ (ed 1 Z[1]?)) Z)) λZ=>ao Γ_14 1000 (aH JF 1) [] Z
def Ax:Fn:=xo "Ground.reckoned" (jG xx 4 9)
def Γ_34:GG:=Γ_14.addI 34 Ax
def BE:Fn:=bO Γ_34 1000 2 3 Ox
def Γ_15:GG:=Γ_34.addI 15 BE
def Ix:Fn:=bO Γ_15 1000 2 10 OC
def Γ_19:GG:=Γ_15.addI 19 Ix
def Iy:Ro->@&Res:=λZ=>fv [] 9 (xr (y4 (Γ_19.fn 34) (ca (ed 0 Z[0]?) (ca (ed 3 Z[3]?) (ca (As (ed 5 Z[5]?)) (ca (ed 4 Z[4]?) (B [])))))) Z)
def Iz:Ro->@&Res:=λZ=>fv [] 10 (xr (qJ (ed 3 Z[3]?)) Z)
noncomputable abbrev xy:bq:=.cons (.ifs (.p (.cmp .In (.var 7) (.var 9))) (.cons (.put (.nm 10) (.var 8) (.p (.ix (.var 9) (.var 7)))) .nil) .nil) .nil
def IA:Ro->@&Res:=λZ=>m5 [] [7,8] (.tp [.nm 8,.nm 7]) (ao Γ_19 1000 xy) (JA (Ao (ed 5 Z[5]?)) Z)
def xz:Ro->@&Res:=λZ=>cq (ao Γ_19 1000 (aY Fa 2) [] Z) λZ=>cq (Iy Z) λZ=>cq (Iz Z) λZ=>cq (IA Z) λZ=>ao Γ_19 1000 (aH Fa 5) [] Z
def JH:Fn:=jG xz 5 11
def Γ_20:GG:=Γ_19.addI 20 JH
def DM:Fn:=bO Γ_20 1000 5 14 OB
def Γ_18:GG:=Γ_20.addI 18 DM
def DN:Fn:=bO Γ_18 1000 3 10 Oy
def Γ_16:GG:=Γ_18.addI 16 DN
def IB:Ro->@&Res:=λZ=>fv [] 11 (xr (eS 1 (gp Γ_16.fn (.e (.var 7)) Z) (gW (.nm 1) (λY=>B Uj) (aa Γ_16.fn (.var 1)) (aa Γ_16.fn (.ix (.var 2) (.ix (.fld "afters" (.var 3)) (.var 1)))) (aT Z [L,L,B 9,B 0]))) Z)
def qR:Ro->@&Res:=λZ=>cq (ao Γ_16 1000 (aY BC 5) [] Z) λZ=>cq (IB Z) λZ=>ao Γ_16 1000 (aH BC 6) [] Z
def BF:Fn:=jG qR 3 13
def LZ:GG:=Γ_16.addI 17 BF
def DO:Fm:=oy LZ 1000 3 12 [0] OR
abbrev Γ_32:GG:=LZ
def xA(i:Int)(j:Nat):Ro->@&(-RA×Ro):=fH Γ_32 (.val (.p (.lit (.int i))) (.val (.p (.var j)) .nil))
def qS(i:Int)(j:Nat):Ro->@&Res:=λZ=>xj (Aj "Ground" "put_circuit" 0 DO (xA i j) Z)
def qT:Ro->@&Res:=λZ=>cq (ao Γ_32 1000 (aY Iu 3) [0] Z) λZ=>cq (qS 0 1 Z) λZ=>cq (qS 1 2 Z) λZ=>ao Γ_32 1000 (aH Iu 5) [0] Z
def L0:Fn:=zN (.own [] (.own [] .fz)) "Ground" (lU qT 4 6 [0])
def Γ_35:GG:=Γ_32.addI 35 L0
def IC:Fn:=bO Γ_35 1000 3 10 Oq
def Γ_10:GG:=Γ_35.addI 10 IC
def JI:Fn:=bO Γ_10 1000 2 3 OF
def Γ_21:GG:=Γ_10.addI 21 JI
def L1:Fn:=bO Γ_21 1000 1 3 OG
def Γ_22:GG:=Γ_21.addI 22 L1
def L3:Fm:=oy Γ_22 1000 2 3 [0] LS
def Γ_23:GG:=Γ_22.addM 23 L3
def L4:Fn:=bO Γ_23 1000 1 1 OH
def Γ_24:GG:=Γ_23.addI 24 L4
def L5:Fn:=bO Γ_24 1000 4 8 OI
def Γ_25:GG:=Γ_24.addI 25 L5
def JJ:Fn:=bO Γ_25 1000 1 6 OJ
def Γ_26:GG:=Γ_25.addI 26 JJ
def JK:Fn:=bO Γ_26 1000 3 5 OK
def Γ_27:GG:=Γ_26.addI 27 JK
def L6:Fn:=bO Γ_27 1000 2 11 Ir
def Γ_28:GG:=Γ_27.addI 28 L6
def M4:Fn:=bO Γ_28 1000 2 13 Py
def Γ_29:GG:=Γ_28.addI 29 M4
noncomputable abbrev L7:f7:=.cons (.ix (.var 0) (au 0)) (.cons (.ix (.var 0) (au 6)) .nil)
def ID:Ro->@&Res:=λZ=>cq (Dj [] 1 2 (bf Γ_29.fn L7 Z) Z) λZ=>ao Γ_29 1000 (aH OL 1) [] Z
def M5:Fn:=jG ID 1 3
def Γ_30:GG:=Γ_29.addI 30 M5
def L8:Fn:=bO Γ_30 1000 1 8 OO
noncomputable abbrev n0:Uo:=.Name "" #[0,0,0,0]
abbrev cut(s:Uw)(i n:Nat):-Uw:=((aE s).drop i).take n
abbrev Fb(s:Uw)(i:Nat):Uw:=(cut s i 1).getD 0 (.Pass #[0,0,0,0])
theorem DP{s:Uw}(h:c4 X pn f s):aW X pn f [s]:=λZ r e g Y H b a q=>tD (BR Lp) (h Z r e g Y H b a q)
abbrev Pz:Cz:=#[ab Au,["self","known","wanted","found","left","spot"],λZ=>Uj]
def xC(X:Cx)(O:aq X (ba fns Γ_11) Pz)(a:PassesOwn (Ut X.prog X.w) X.A X.env X.xe):aW X [] Aw (aE Au):=by
 let b:aW X [] (ao Γ_11 1000 (aY JE 3) []) (cut Au 0 3):=dF Γ_11 (λs d h=>gC fns Γ_11 O a 60 h) (show cB fns an 60 Pz 60 (cut Au 0 3)=B (aY JE 3) by rfl) [];let c:aW X [] (λZ=>tF (xr (xq (ed 3 Z[3]?)) Z)) (cut Au 3 1):=DP (EO (LK O (by rfl) (by rfl) (gx O (by rfl) _)).m);show(e9 b c:aW X [] Aw (cut Au 0 3++cut Au 3 1))
abbrev PB:Cz:=#[ab Av,["self","known","wanted","whole","found","spot","table","spots","columns"],λZ=>Uj]
def Ay(X:Cx)(O:aq X (ba fns Γ_14) PB)(a:PassesOwn (Ut X.prog X.w) X.A X.env X.xe):aW X [] xx (aE Av):=by
 let b:aW X [] (λZ=>fv [] 4 (xr (qJ (ed 1 Z[1]?)) Z)) (cut Av 0 1):=DP (vf O (by rfl) (by rfl) (by rfl) (E5 O (by rfl) (by rfl) (gx O (by rfl) _)).m);let c:aW X [] (ao Γ_14 1000 (aH JF 1) []) (cut Av 1 2):=dF Γ_14 (λs d h=>gC fns Γ_14 O a 60 h) (show cB fns an 60 PB 60 (cut Av 1 2)=B (aH JF 1) by rfl) [];show(e9 b c:aW X [] xx (cut Av 0 1++cut Av 1 2))
abbrev O0:Cz:=#[ab tY,["ground","statements","given","bits","whole","firsts","number","first","second","alone","found"],λZ=>Uj]
def xD(X:Cx)(O:aq X (ba fns Γ_19) O0)(e:PassesOwn (Ut X.prog X.w) X.A X.env X.xe):aW X [] xz (aE tY):=by
 let f:∀{c:-Uw} {b:bq},cB fns an 60 O0 60 c=B b->aW X [] (ao Γ_19 1000 b []) c:=λh=>dF Γ_19 (λs i h=>gC fns Γ_19 O e 60 h) h [];let d:∀(a:-Nat) {c:-Uw} {b:bq},cB fns an 60 O0 60 c=B b->aW X a (ao Γ_19 1000 b a) c:=λa Z Z h=>dF Γ_19 (λs i h=>gC fns Γ_19 O e 60 h) h a;let k:aW X [] (ao Γ_19 1000 (aY Fa 2) []) (cut tY 0 2):=f (by rfl);let j:aW X [] Iy (cut tY 2 1):=DP (vf O (by rfl) (by rfl) (by rfl) (EE O (y:="Ground.reckoned") (by rfl) (gx O (by rfl) _) (dM (by rfl) (gx O (by rfl) _) (dM (by rfl) (LR O (by rfl) (by rfl) (by rfl) (gx O (by rfl) _)) (dM (by rfl) (gx O (by rfl) _) ip))) (by rfl) (by rfl) (by rfl) (by rfl) ⋯).m);let o:aW X [] Iz (cut tY 3 1):=DP (vf O (by rfl) (by rfl) (by rfl) (E5 O (by rfl) (by rfl) (gx O (by rfl) _)).m);let g:aW X [] IA (cut tY 4 1):=DP (zE O e (fg:=[7,8]) (t:=.tp [.nm 8,.nm 7]) (n:=4) (by rfl) (LO (by rfl) (by rfl) (by rfl) (gx O (by rfl) _)).m (λa=>d a (b:=xy) (by rfl)) (by rfl));let l:aW X [] (ao Γ_19 1000 (aH Fa 5) []) (cut tY 5 1):=f (by rfl);show(e9 k (e9 j (e9 o (e9 g l))):aW X [] xz (cut tY 0 2++(cut tY 2 1++(cut tY 3 1++(cut tY 4 1++cut tY 5 1)))))
abbrev M6:Cz:=#[ab ng,["ground","statements","statement","one","other","free","given","memories","trials","found","kept","nexts","later"],λZ=>Uj]
abbrev kE:Uo:=match Fb ng 5 with|.Assign _ (.DictComp k _ _ _ _) _=>k|_=>n0
abbrev vE:Uo:=match Fb ng 5 with|.Assign _ (.DictComp _ v _ _ _) _=>v|_=>n0
abbrev tE:Uo:=match Fb ng 5 with|.Assign _ (.DictComp _ _ (g::_) _ _) _=>g.target|_=>n0
abbrev iE:Uo:=match Fb ng 5 with|.Assign _ (.DictComp _ _ (g::_) _ _) _=>g.iter|_=>n0
abbrev sE:UC:=match Fb ng 5 with|.Assign _ (.DictComp _ _ _ s _) _=>s|_=>ab ng
abbrev PV:Pos:=match Fb ng 5 with|.Assign _ (.DictComp _ _ _ _ p) _=>p|_=>#[0,0,0,0]
abbrev pE:Pos:=match Fb ng 5 with|.Assign [.Name _ p] _ _=>p|_=>#[0,0,0,0]
abbrev qE:Pos:=match Fb ng 5 with|.Assign _ _ p=>p|_=>#[0,0,0,0]
def Az(X:Cx)(O:aq X (ba fns Γ_16) M6)(j:PassesOwn (Ut X.prog X.w) X.A X.env X.xe):aW X [] qR (aE ng):=by
 let f:∀{g:-Uw} {b:bq},cB fns an 60 M6 60 g=B b->aW X [] (ao Γ_16 1000 b []) g:=λh=>dF Γ_16 (λs o h=>gC fns Γ_16 O j 60 h) h [];let d:=λ(i:Cx) (c:Cz) (P:aq i (ba fns Γ_16) c)=>(cC fns Γ_16.fn 60).1 i c P;let l:aW X [] (ao Γ_16 1000 (aY BC 5) []) (cut ng 0 5):=f (by rfl)
 let m:aW X [] IB (cut ng 5 1):=by
  let h:=HN (pn:=[]) O (x:="nexts") (z:=1) (n:=4) (kx:=kE) (elt:=vE) (tg:=tE) (iter:=iE) (scope:=sE) (cp:=PV) (p:=pE) (pos:=qE) (by rfl) (by rfl) (by rfl) (by rfl) (uV fns Γ_16.fn O (d X M6 O) (show _=B (II.e (.var 7)) by rfl)) (by rfl) (λC s H a=>EF) (λC s H a=>d _ _ (dc O (by rfl) C s H a) _ (.var 1) (by rfl)) (λC s H a=>d _ _ (dc O (by rfl) C s H a) _ (.ix (.var 2) (.ix (.fld "afters" (.var 3)) (.var 1))) (by rfl));rw[show aA M6 sE=[L,L,B 9,B 0] by rfl] at h;show DP h
 let k:aW X [] (ao Γ_16 1000 (aH BC 6) []) (cut ng 6 2):=f (by rfl);show(e9 l (e9 m k):aW X [] qR (cut ng 0 5++(cut ng 5 1++cut ng 6 2)))
abbrev O1:Cz:=#[ab BD,["_law_case_here","_law_many","_law_bit"],λZ=>Uj]
def DQ(X:Cx)(O:aq X (ba fns Γ_29) O1)(b:PassesOwn (Ut X.prog X.w) X.A X.env X.xe):aW X [] ID (aE BD):=by
 let a:=(cC fns Γ_29.fn 60).1 X O1 O;let c:aW X [] (λZ=>Dj [] 1 2 (bf Γ_29.fn L7 Z) Z) (cut BD 0 1):=DP (Lw O (dM (by rfl) (a _ _ (by rfl)) (dM (by rfl) (a _ _ (by rfl)) ip)) (by rfl) (by rfl) (by rfl));let d:aW X [] (ao Γ_29 1000 (aH OL 1) []) (cut BD 1 1):=dF Γ_29 (λs e h=>gC fns Γ_29 O b 60 h) (show cB fns an 60 O1 60 (cut BD 1 1)=B (aH OL 1) by rfl) [];show(e9 c d:aW X [] ID (cut BD 0 1++cut BD 1 1))
abbrev L9:Cz:=#[ab vT,["self","one","other","helpers","k","helper"],λZ=>Uj]
def tZ(e:QX K UB "Ground" = B (B (.ref C)))(o:Cls K C)(d:ph K C "put_circuit" f)(F:FnOk P w K mg base i9 k f fd ps (xg K DO))(n:Binds K fd ps [])(X:Cx)(O:aq X (ba fns Γ_32) L9)(r:PassesOwn (Ut X.prog X.w) X.A X.env X.xe)(z:E7 P w K mg base k X):aW X [0] qT (aE vT):=by
 let⟨rfl,rfl,rfl,rfl,rfl,p⟩:=z;let l:∀{g:-Uw} {b:bq},cB fns an 60 L9 60 g=B b->aW X [0] (ao Γ_32 1000 b [0]) g:=λh=>dF Γ_32 (λs D h=>gC fns Γ_32 O r 60 h) h [0];let m:=(cC fns Γ_32.fn 60).1 X L9 O;let v:aW X [0] (ao Γ_32 1000 (aY Iu 3) [0]) (cut vT 0 3):=l (by rfl)
 let c:∀(i:Int) (j:Nat) (a b:Uo),ah a=Uj->ah b=Uj->cE fns 60 L9 a=B (.lit (.int i))->cE fns 60 L9 b=B (.var j)->gB X (xA i j) [a,b]:=λi j a b x q e1 e2=>
  zk x (tB Γ_32 (m _ _ e1)) (zk q (tB Γ_32 (m _ _ e2)) EI)
 let y:aW X [0] (qS 0 1) (cut vT 3 1):=DP (zB (by rfl) (E6 O (by rfl) e o d F p n (by rfl) (by rfl) (by rfl) (by rfl) ⋯ (c 0 1 _ _ (by rfl) (by rfl) (by rfl) (by rfl))));let u:aW X [0] (qS 1 2) (cut vT 4 1):=DP (zB (by rfl) (E6 O (by rfl) e o d F p n (by rfl) (by rfl) (by rfl) (by rfl) ⋯ (c 1 2 _ _ (by rfl) (by rfl) (by rfl) (by rfl))));let t:aW X [0] (ao Γ_32 1000 (aH Iu 5) [0]) (cut vT 5 1):=l (by rfl);show(e9 v (e9 y (e9 u t)):aW X [0] qT (cut vT 0 3++(cut vT 3 1++(cut vT 4 1++cut vT 5 1))))
noncomputable abbrev k0:Ow:=.own [] .fz
noncomputable abbrev iD(n:Nat):D:=.int (n:Int)
noncomputable abbrev fS(d:D):@&Sl:=B #[Uk,.fz,d]
abbrev bw(d:D):@&Sl:=B #[Uk,k0,d]
def aK(h:Wp U λx=>x=r):U=B r:=by let⟨x,e,rfl⟩:=h;show e
def rM{α:Type}{U:Option α}{r:α}(h:Wp U λx=>x=r):U=B r:=by let⟨x,e,rfl⟩:=h;show e
theorem wv{α:Type}{a:Option α}{r:α}{Q:α->Prop}(h:a=B r)(q:Q r):Wp a Q:=#[r,h,q]
section
variable {Γ:Nat->@&Fn} {Z:Ro} {a b c:IE} {r:f7} {k k' k'':Kd} {i j l:Int} {x y z:Bool} {d d':D} {xs:-D} {hd:Hd}
theorem cG(d:aa Γ a Z=B (k,.int i))(c:aa Γ b Z=B (k',.int j)):aa Γ (.bin .Add a b) Z=B (.sh,.int (i+j)):=aK (aU (wv d (wv c (zU rfl))))
theorem Fc(d:aa Γ a Z=B (k,.int i))(c:aa Γ b Z=B (k',.int j)):aa Γ (.bin .Sub a b) Z=B (.sh,.int (i-j)):=aK (aU (wv d (wv c (tR rfl))))
theorem iP(h:0<j)(d:aa Γ a Z=B (k,.int i))(c:aa Γ b Z=B (k',.int j)):aa Γ (.bin .Mod a b) Z=B (.sh,.int (i%j)):=aK (aU (wv d (wv c (HS h rfl))))
theorem vU{xs ys:-D}(h:dZ k xs=Uj/\dZ k' ys=Uj/\xs.length+ys.length<=100000)(d:aa Γ a Z=B (k,.lst xs))(c:aa Γ b Z=B (k',.lst ys)):aa Γ (.bin .Add a b) Z=B (.fr bQ,.lst (xs++ys)):=aK (aU (wv d (wv c (HV h rfl))))
def Ma{z:Int}{n:Nat}(b:hd=.lst\/hd=.tup)(hz:jY xs.length z=B n)(a:xs[n]?=B d):Cy (B (k,.nd hd xs)) (B (k',.int z))=B (nW k n,d):=by
 obtain rfl|rfl:=b
 .show aK (HY hz a rfl)
 .show aK (HZ hz a rfl)
def Mb{m n:Nat}{z:Int}(hz:z=n)(h:n<m):jY m z=B n:=by subst hz;rw[oI ∅ ∅];rfl
def cv{n:Nat}{z:Int}(g:aa Γ a Z=B (k,.nd hd xs))(e:aa Γ b Z=B (k',.int z))(f:hd=.lst\/hd=.tup)(hz:z=n)(c:xs[n]?=B d):aa Γ (.ix a b) Z=B (nW k n,d):=by
 rw[y8,g,e];show Ma f (Mb hz (Qb.mp c).1) c
theorem nj(b:aa Γ a Z=B (k,d))(h:CI d=B n):aa Γ (.blt "len" (.cons a .nil)) Z=B (.sh,.int n):=aK (gX (aS (wv b (cF (H9 h rfl)))))
theorem e1{p:KD}(b:aa Γ a Z=B p):bf Γ (.cons a .nil) Z=B [p]:=rM (aS (wv b (cF rfl)))
theorem e2(d:aa Γ a Z=B p)(c:aa Γ b Z=B q):bf Γ (.cons a (.cons b .nil)) Z=B [p,q]:=rM (aS (wv d (aS (wv c (cF rfl)))))
theorem e3(f:aa Γ a Z=B p)(e:aa Γ b Z=B q)(d:aa Γ c Z=B u):bf Γ (.cons a (.cons b (.cons c .nil))) Z=B [p,q,u]:=rM (aS (wv f (aS (wv e (aS (wv d (cF rfl)))))))
theorem e4(g:aa Γ a Z=B p)(f:aa Γ b Z=B q)(d:aa Γ c Z=B u)(h:aa Γ e Z=B t):bf Γ (.cons a (.cons b (.cons c (.cons e .nil)))) Z=B [p,q,u,t]:=rM (aS (wv g (aS (wv f (aS (wv d (aS (wv h (cF rfl)))))))))
theorem bd{U:Fn}{kds:-KD}{p:KD}(b:Γ n=B U)(d:bf Γ es Z=B kds)(hk:(kds.all λp=>pK p.1 p.2)=Uj)(hd:kds.map (·.2)=ds)(c:U ds=B p)(a:bt p.1=Uk):aa Γ (.fn n es) Z=B p:=
 aK (zS b (wv d (vL #[p,by rw[hd];show c,a,.inl hk,rfl])))
theorem gH{U:Fn}{kds:-KD}{p:KD}(b:Γ n=B U)(d:bf Γ es Z=B kds)(hk:lu p.1 p.2=Uj)(hd:kds.map (·.2)=ds)(c:U ds=B p)(a:bt p.1=Uk):aa Γ (.fn n es) Z=B p:=
 aK (zS b (wv d (vL #[p,by rw[hd];show c,a,.inr hk,rfl])))
theorem c5(e:aa Γ a Z=B (k,d))(c:aa Γ b Z=B (k',d'))(h:cA op d d'=B x):aR Γ (.cmp op a b) Z=B x:=rM (tP (wv e (wv c (wv h rfl))))
theorem Mc(d:aa Γ a Z=B (k,.int i))(c:aa Γ b Z=B (k',.int j)):aR Γ (.cmp .Gt a b) Z=B (decide (j<i)):=c5 d c rfl
theorem t5(d:aa Γ a Z=B (k,.int i))(c:aa Γ b Z=B (k',.int j)):aR Γ (.cmp .Eq a b) Z=B (decide (i=j)):=c5 d c (rM (EX rfl))
theorem Md(d:aa Γ a Z=B (k,.int i))(c:aa Γ b Z=B (k',.int j)):aR Γ (.cmp .NotEq a b) Z=B (!decide (i=j)):=c5 d c (rM (EY rfl))
theorem kN(b:aa Γ a Z=B (k,d)):aR Γ (.cmp .Is a (.lit .non)) Z=B (yP d):=c5 b rfl rfl
def dL(h:aR Γ a Z=B x):aR Γ (.not a) Z=B (!x):=by rw[za,h];rfl
theorem gI(h:aR Γ a Z=B x):aR Γ (.bool op (.cons a .nil)) Z=B x:=rM (qD (wv h rfl))
def oN(h:aR Γ a Z=B x)(h2:x=Uk->aR Γ (.bool .Or (.cons b r)) Z=B y):aR Γ (.bool .Or (.cons a (.cons b r))) Z=B (x||y):=by
 show rM (lN (wv h ?_));ext x
 .rwa[λY=>wv (h2 rfl) rfl,λh=>absurd rfl h]
 .rwa[λh=>absurd h ⋯,λY=>rfl]
def nq(h:aR Γ a Z=B x)(h2:x=Uj->aR Γ (.bool .And (.cons b r)) Z=B y):aR Γ (.bool .And (.cons a (.cons b r))) Z=B (x&&y):=by
 show rM (lN (wv h ?_));ext x
 .rwa[λh=>absurd h ⋯,λY=>rfl]
 .rwa[λY=>wv (h2 rfl) rfl,λh=>absurd rfl h]
def qU(h:aa Γ (.fn n es) Z=B (k,.bl x)):aR Γ (.fn n es) Z=B x:=by rw[C5,<- y9,h];rfl
def Fd(h:aa Γ (.blt n es) Z=B (k,.bl x)):aR Γ (.blt n es) Z=B x:=by rw[zd,<- uS,h];rfl
def vV(b:aa Γ a Z=B (k,d))(h:pT T d=B x):aR Γ (.isi T a) Z=B x:=by
 rw[zc,<- uR,show aa Γ (.isi T a) Z=B (.sh,.bl x) from aK (tO (wv b (wv h rfl)))];rfl
def Me{n:Nat}{s:Sl}(h:Z[n]?=B (B s))(a:w6 s.d=B x):aR Γ (.var n) Z=B x:=by
 rw[zb,h];change eO (B (pL n s))=_;delta eO;let⟨b,e,c⟩:=s
 cases b<;>(delta pL;first|show a|(split<;>show a))
def gJ(h:aR Γ (.cmp op a b) Z=B x):aa Γ (.cmp op a b) Z=B (.sh,.bl x):=by rw[CV,<- pZ,h];rfl
def DR(f:aa Γ a Z=B (k,.int i))(e:aa Γ b Z=B (k',.int j))(d:aa Γ c Z=B (k'',.int l)):aa Γ (.chain .LtE .Lt a b c) Z=B (.sh,.bl (decide (i<=j)&&decide (j<l))):=by
 rw[xf,f,e,d]
 change bV (match B (decide (i<=j)) with|some Uj=>B (decide (j<l))|some Uk=>B Uk|none=>L)=_
 cases decide (i<=j)<;>rfl
theorem qV(b:aa Γ a Z=B (k,d))(h:pT T d=B x):aa Γ (.isi T a) Z=B (.sh,.bl x):=aK (tO (wv b (wv h rfl)))
theorem Fe(h:aa Γ a Z=B (k,d))(b:w6 d=B x):aa Γ (.not a) Z=B (.sh,.bl (!x)):=aK (zO (wv h (wv b rfl)))
theorem fj(h:aa Γ a Z=B p):aa Γ (.bool op (.cons a .nil)) Z=B p:=aK (qC (wv h rfl))
def cI(h:aa Γ a Z=B (k,.bl x))(h2:x=Uj->aa Γ (.bool .And (.cons b r)) Z=B (.sh,.bl y)):aa Γ (.bool .And (.cons a (.cons b r))) Z=B (.sh,.bl (x&&y)):=by
 show aK (lM (wv h #[x,rfl,?_]));ext x
 .rwa[λh=>absurd h ⋯,λY=>rfl]
 .rwa[λY=>wv (h2 rfl) rfl,λh=>absurd rfl h]
def DS(h:aa Γ a Z=B (k,.bl x))(h2:x=Uk->aa Γ (.bool .Or (.cons b r)) Z=B (.sh,.bl y)):aa Γ (.bool .Or (.cons a (.cons b r))) Z=B (.sh,.bl (x||y)):=by
 show aK (lM (wv h #[x,rfl,?_]));ext x
 .rwa[λY=>wv (h2 rfl) rfl,λh=>absurd rfl h]
 .rwa[λh=>absurd h ⋯,λY=>rfl]
theorem Ff(h:aR Γ t Z=B x)(h1:x=Uj->aa Γ a Z=B p)(h2:x=Uk->aa Γ b Z=B p):aa Γ (.ifx t a b) Z=B p:=aK (zP (wv h #[λe=>wv (h1 e) rfl,λe=>wv (h2 e) rfl]))
def IF{α:Type}{f:α->D}{l:List α}{ys:-D}(b:ys.length=l.length)(h:∀(i:Nat) y,ys[i]?=B y->Σa,l[i]?=B a/\y=f a):ys=l.map f:=by
 show RV λi=>?_;rw[Qc]
 cases e:ys[i]? with
 |none=>
  have:l[i]?=L:=QT (by have:=RC.mp e;lia);rw[this];rfl
 |some y=>
  let⟨a,e1,rfl⟩:=h i y e;rw[e1];rfl
def nv{α:Type}{l:List α}{f g:α->D}{r:Ow}{i:D->@&(@&KD)}(h:∀a∈l,Wp (i (f a)) λo=>Σc,o=B (c,g a)/\bR r (c,g a)=Uj):Wp (aQ r i (l.map f)) λys=>ys=l.map g:=by
 show Om (λj y=>Σa,l[j]?=B a/\y=g a) (λj d b=>?_) λys m k=>IF #v[m,Qa] k;rw[Qc] at b
 cases e:l[j]? with
 |none=>rw[e] at b;ext b
 |some a=>
  rw[e] at b;ext b;show(h a (QD e)).mono λo ⟨c,e1,e2⟩=>#[_,e1,e2,a,rfl,rfl]
def kO(n:Nat):gP 0 n=(Qo n).map iD:=by
 delta gP;rw[Int.sub_zero,QV];show Ra λk Z=>by rw[Int.zero_add]
def qW{α:Type}{l:List α}{f g:α->D}{hd:Hd}{r:Ow}{cap:-(@&Nat)}{tg:IT}{a elt:IE}(j:hd=.lst\/hd=.tup)(m:aa Γ a Z=B (k,.nd hd (l.map f)))(b:dZ k (l.map f)=Uj)(c:l.length<=100000)
  (h:∀a∈l,Wp (dS tg (eA Γ .non) (aa Γ elt) (aT Z cap) (f a)) λo=>Σd,o=B (d,g a)/\bR r (d,g a)=Uj):aa Γ (.comp r cap tg (.e a) .non elt) Z=B (.fr (.own [] r),.lst (l.map g)):=by
 show aK (eT (km (wv m ?_)));obtain rfl|rfl:=j
 .show fL b #[by simpa using c,(nv h).mono λi e=>by rw[e]]
 .show tU b #[by simpa using c,(nv h).mono λi e=>by rw[e]]
def DT{n:Nat}{g:Nat->D}{r:Ow}{cap:-(@&Nat)}{tg:IT}{a elt:IE}(f:aa Γ a Z=B (k,iD n))(d:n<=100000)
  (h:∀i,i<n->Wp (dS tg (eA Γ .non) (aa Γ elt) (aT Z cap) (iD i)) λo=>Σb,o=B (b,g i)/\bR r (b,g i)=Uj):aa Γ (.comp r cap tg (.rng (.lit (.int 0)) a) .non elt) Z=B (.fr (.own [] r),.lst ((Qo n).map g)):=by
 show aK (eT (oG (bA (wv f (tT (gY ∅ ∅ ∅ ∅ ∅) #[?_,?_])))))
 .change(gP 0 (n:Int)).length<=_;rw[kO,Qa,QC];show d
 .change Wp (aQ r _ (gP 0 (n:Int))) _;rw[kO];show(nv λi c=>h i (Qq.mp c)).mono λj e=>by rw[e]
theorem xR{a:Ro->@&KD}{Q:@&KD->Prop}(b:bW [(1,d)] Z0=Uj)(h:Wp (a (setAll [(1,d)] Z0)) λx=>Q (B x)):Wp (dS (.nm 1) (eA Γ .non) a Z0 d) Q:=z7 rfl b rfl h
theorem M7{a b:D}{d:Ro->@&KD}{c:Ro}{Q:@&KD->Prop}(e:bW [(1,a),(2,b)] c=Uj)(h:Wp (d (setAll [(1,a),(2,b)] c)) λx=>Q (B x)):Wp (dS (.tp [.nm 1,.nm 2]) (eA Γ .non) d c (.tup [a,b])) Q:=z7 rfl e rfl h
theorem AA{bs:-Bool}(h:aa Γ a Z=B (k,.lst (bs.map D.bl))):aa Γ (.blt "all" (.cons a .nil)) Z=B (.sh,.bl (bs.all id)):=aK (gX (aS (wv h (cF (Ia rfl)))))
end
section
variable {Γ:GG} {N:Nat} {pn:-Nat} {Z:Ro} {Q:Res->Prop} {rest:bq}
theorem fU(h:Wp (ao Γ N rest pn Z) Q):Wp (ao Γ N .nil pn Z) (Kt Γ N rest pn Q):=aL (cH h)
theorem ko(h:aR Γ.fn t Z=B z)(h1:z=Uj->Wp (ao Γ N a pn Z) (Kt Γ N rest pn Q))(h2:z=Uk->Wp (ao Γ N b pn Z) (Kt Γ N rest pn Q)):Wp (ao Γ N (.cons (.ifs (.p t) a b) rest) pn Z) Q:=
 LG (lQ (wv h #[h1,h2]))
theorem eI{x:KD}(h:aR Γ.fn t Z=B z)(h1:z=Uj->aa Γ.fn e Z=B x/\bt (dW x.1 x.2)=Uk/\Q (.rt (dW x.1 x.2) x.2 Z))(h2:z=Uk->Wp (ao Γ N rest pn Z) Q):Wp (ao Γ N (.cons (.ifs (.p t) (.cons (.ret (.p e)) .nil) .nil) rest) pn Z) Q:=
 ko h (λa=>fN (eE (wv (h1 a).1 #[(h1 a).2.1,vM (h1 a).2.2]))) λa=>fU (h2 a)
theorem aJ{x:KD}(h:aa Γ.fn e Z=B x)(a:bt (dW x.1 x.2)=Uk)(b:i∉pn)(w:Wp (ao Γ N rest pn (Z.set i (B #[Uk,HD (dW x.1 x.2),x.2]))) Q):Wp (ao Γ N (.cons (.asg i (.p e)) rest) pn Z) Q:=
 iN (eE (wv h #[#[a,b],w]))
theorem bN{x:KD}(h:aa Γ.fn e Z=B x)(a:bt (dW x.1 x.2)=Uk)(q:Q (.rt (dW x.1 x.2) x.2 Z)):Wp (ao Γ N (.cons (.ret (.p e)) rest) pn Z) Q:=fN (eE (wv h #[a,q]))
end
theorem eJ{ds:-D}(a:ds.length=m)(h:Wp (ao Γ N body [] (lL k (ds.map vD))) λr=>Wp (eD (B r)) λx=>x=p):bO Γ N m k body ds=B p:=aK (qG a h)
theorem eK(a:bt kd=Uk)(q:(kd,d)=p):Wp (eD (B (.rt kd d Z))) λx=>x=p:=eG a q
theorem nw{g:Ro->@&(Bool×Ro)}{fb:Ro->@&Res}{Q:Res->Prop}(I:Nat->Ro->Prop)(f:∀m Z,I m Z->Wp (g (clrN fg Z)) λp=>(p.1=Uk->Q (.nx p.2))/\(p.1=Uj->Wp (fb p.2) λr=>(ΣZ' a,(r=.nx Z'\/r=.ct Z')/\a<m/\I a Z')\/Σk d Z',r=.rt k d Z'/\Q (.rt k d Z'))):∀n m Z,m<n->I m Z->Wp (kj fg g fb n Z) Q
 |0,m,Z,h,_=>absurd h (Nat.not_lt_zero _)
 |n+1,m,Z,h,hI=>by
  obtain⟨⟨b,l⟩,e1,o,i⟩:=f m Z hI
  cases b with
  |false=>rwa[.nx l,by delta kj;rw[e1],o rfl]
  |true=>
   let⟨r,e2,e⟩:=i rfl;rcases e with⟨Z',a,e,s,c⟩|⟨k,d,Z',rfl,q⟩
   .let⟨x,e3,j⟩:=nw I f n a Z' ∅ c;rwa[x,?_,j];delta kj;rw[e1];cbv at e2⊢;rw[e2]
    obtain rfl|rfl:=e<;>show e3
   .rwa[_,?_,q];delta kj;rw[e1];cbv at e2⊢;rw[e2]
def Fg{Γ:GG}{N:Nat}{pn:-Nat}{Z:Ro}{Q:Res->Prop}{rest:bq}{fg:-Nat}{t:MT}{b:bq}(I:Nat->Ro->Prop){m0:Nat}(g:m0<N)(i:I m0 Z)
  (hs:∀m Z,I m Z->Wp (oj Γ t (clrN fg Z)) λp=>(p.1=Uk->Wp (ao Γ N rest pn p.2) Q)/\(p.1=Uj->Wp (ao Γ N b pn p.2) λr=>(Σa f,(r=.nx a\/r=.ct a)/\f<m/\I f a)\/Σk d a,r=.rt k d a/\Q (.rt k d a))):Wp (ao Γ N (.cons (.wh fg t b) rest) pn Z) Q:=by
 let⟨r,e,q⟩:=nw (Q:=Kt Γ N rest pn Q) I (λm Z h=>(hs m Z h).mono λp c=>#[c.1,λe=>(c.2 e).mono λr j=>j.imp id λ⟨k,d,a,e,q⟩=>#[k,d,a,e,q]]) N m0 Z g i;show dU #[r,by rw[HL];show e,q]
noncomputable abbrev sp(w p:Nat):Int×Int:=((w:Int),(p:Int))
def pk(p:Int×Int):DK:=.inr (kP p)
noncomputable abbrev dic(ks:-(Int×Int))(vs:-D):D:=.nd (.dic 1 (ks.map pk)) vs
def AB(h:pk p=pk q):p=q:=by
 unfold pk at h;injection h with h;injection h with h1 h2;injection h2 with h2 _;injection h1 with h1;injection h1 with h1;injection h2 with h2;injection h2 with h2;show Prod.ext h1 h2
theorem qX{p:Int×Int}:∀{ks:-(Int×Int)} {n:Nat},ks.Nodup->ks[n]?=B p->aX (ks.map pk) (pk p)=B n
 |[],n,_,h=>by simp at h
 |q::ks,0,_,h=>by
  simp at h;subst h;delta aX;rw[QE,QS,if_pos ∎]
 |q::ks,n+1,nd,h=>by
  let h:ks[n]?=B p:=by simpa using h
  let a:¬pk q=pk p:=λe=>(QK.mp nd).1 (AB e▸QD h);have:=qX (QK.mp nd).2 h;unfold aX at this⊢;rw[QE,QS,if_neg ↥a,this];rfl
theorem iQ:∀{ks:-(Int×Int)},(aX (ks.map pk) (pk p)).isSome=decide (p∈ks)
 |[]=>by simp[aX]
 |q::ks=>by
  have:=iQ (p:=p) (ks:=ks);unfold aX at this⊢;rw[QE,QS];by_cases e:pk q=pk p
  .rw[if_pos ↥e,AB e];simp
  .let e2:¬p=q:=λz=>e #v[z];rw[if_neg ↥e,Sh,this];simp[e2]
def qY{ks:-(Int×Int)}(h:p∉ks):aX (ks.map pk) (pk p)=L:=by
 have:=iQ (p:=p) (ks:=ks);rw[decide_eq_false h] at this;simpa using this
section
variable {Γ:Nat->@&Fn} {Z:Ro} {a b c:IE} {r:f7} {k k' k'':Kd} {i j l:Int} {x y z:Bool} {d d':D} {xs vs:-D} {hd:Hd} {p:Int×Int} {ks:-(Int×Int)}
def Mf{n:Nat}(h:aa Γ a Z=B (k,dic ks vs))(c:aa Γ b Z=B (k',pD p))(e:ks.Nodup)(f:ks[n]?=B p)(g:vs[n]?=B d):aa Γ (.ix a b) Z=B (nW k n,d):=by
 rw[y8,h,c];change sJ k (1,ks.map pk,vs) (pD p)=_;delta sJ;rw[show je (pD p)=B (pk p) from rfl]
 change(if ik 1 (pk p)=Uj then(match aX (ks.map pk) (pk p) with|some j=>(vs[j]?).map λd=>(nW k j,d)|none=>L) else L)=_
 rw[if_pos (by rfl),qX e f];change(vs[n]?).map _=_;rw[g];rfl
def O2(p:Int×Int)(ks:-(Int×Int))(vs:-D):cA .In (pD p) (dic ks vs)=B (decide (p∈ks)):=by
 change(if ik 1 (pk p)=Uj then B (aX (ks.map pk) (pk p)).isSome else L)=_
 rw[if_pos (by rfl),iQ]
def Mg(p:Int×Int)(ks:-(Int×Int))(vs:-D):cA .NotIn (pD p) (dic ks vs)=B (!decide (p∈ks)):=by
 change(if ik 1 (pk p)=Uj then B (!(aX (ks.map pk) (pk p)).isSome) else L)=_
 rw[if_pos (by rfl),iQ]
theorem oO(d:aa Γ a Z=B (k,pD p))(c:aa Γ b Z=B (k',dic ks vs)):aR Γ (.cmp .In a b) Z=B (decide (p∈ks)):=c5 d c (O2 p ks vs)
theorem qZ(d:aa Γ a Z=B (k,pD p))(c:aa Γ b Z=B (k',dic ks vs)):aR Γ (.cmp .NotIn a b) Z=B (!decide (p∈ks)):=c5 d c (Mg p ks vs)
def lV{n:Nat}(e:aa Γ a Z=B (k,.obj cn ns xs))(c:a9 f ns=B n)(b:xs[n]?=B d):aa Γ (.fld f a) Z=B (nW k n,d):=by
 rw[C4,e]
 change(match a9 f ns with|some j=>(xs[j]?).map λd=>(nW k j,d)|none=>L)=_
 rw[c];change(xs[n]?).map _=_;rw[b];rfl
end
def vW{ks:-(Int×Int)}{vs:-D}{p:Int×Int}{x:KD}(b:p∉ks)(a:vs.length<100000)(c:bR .fz x=Uj):ow [] .fz (.dic 1 (ks.map pk)) vs (pD p) x=B (.dic 1 ((ks++[p]).map pk),vs++[x.2]):=by
 change(if ik 1 (pk p)=Uj/\vs.length<100000 then(match aX (ks.map pk) (pk p) with|some j=>if bR (([]:-Ow).getD j .fz) x=Uj/\(ks.map pk).Nodup/\j<vs.length then B (Hd.dic 1 (ks.map pk),vs.set j x.2) else L|none=>if([]:-Ow).length<=vs.length/\bR .fz x=Uj then B (Hd.dic 1 (ks.map pk++[pk p]),vs++[x.2]) else L) else L)=_
 rw[if_pos #[rfl,a],qY b];rw[if_pos #[QM _,c],Qy];rfl
section
variable {Γ:GG} {N:Nat} {pn:-Nat} {Z:Ro} {Q:Res->Prop} {rest:bq}
def q0{i:Nat}{ks:-(Int×Int)}{vs:-D}{p:Int×Int}{x y:KD}(a:Z[i]?=B (B #[Uk,k0,dic ks vs]))(d:aa Γ.fn e Z=B x)(hk:aa Γ.fn kx Z=B y)(g:y.2=pD p)(f:p∉ks)(c:vs.length<100000)(b:bR .fz (dW x.1 x.2,x.2)=Uj)(w:Wp (ao Γ N rest pn (Z.set i (B #[Uk,k0,dic (ks++[p]) (vs++[x.2])]))) Q):Wp (ao Γ N (.cons (.put (.nm i) kx (.p e)) rest) pn Z) Q:=by
 show m9 (eE (wv d (xp (r:=(k0,dic ks vs,id)) ?_ (wv hk (jI rfl rfl a (jJ (r:=(.dic 1 ((ks++[p]).map pk),vs++[x.2])) ?_ w))))))
 .change j5 Z[i]?=_;rw[a];rfl
 .rw[g];show vW f c b
end
structure Ci where
 ins:Nat
 mems:-(Bool×Nat)
 gates:-(Nat×-Nat)
 outs:-Nat
noncomputable abbrev bD(b:Bool):D:=.int (b.toNat:Int)
def jL(m:Bool×Nat):D:=.tup [bD m.1,iD m.2]
def eL(g:Nat×-Nat):D:=.tup [iD g.1,.tup (g.2.map iD)]
def cD(c:Ci):D:=.tup [iD c.ins,.lst (c.mems.map jL),.lst (c.gates.map eL),.lst (c.outs.map iD)]
meta def Ci.f(c:Ci):Nat:=c.ins+c.mems.length
def Ci.n(c:Ci):Nat:=c.f+c.gates.length
structure Ok(c:Ci):Prop where
 g:∀(k:Nat) g,c.gates[k]?=B g->g.2.length<=3/\∀p∈g.2,p<c.f+k
 m:∀m∈c.mems,m.2<c.n
 o:∀o∈c.outs,o<c.n
 bi:c.ins<=3
 bm:c.mems.length<=8
 bg:c.gates.length<=8
 bo:c.outs.length<=3
def Ok.bn{c:Ci}(h:Ok c):c.n<=19:=by
 have:=h.bi;have:=h.bm;have:=h.bg;unfold Ci.n Ci.f
 lia
def q8{p q:Prop}[Decidable p][Decidable q](h:p↔q):((Kd.sh,D.bl (decide p)):KD)=(.sh,.bl (decide q)):=by rw[decide_eq_decide.mpr h]
def q9(i:Int):ψ0 [.int i]=B (.sh,.bl Uj):=by
 delta ψ0;show eJ rfl ?_;delta b0;show bN (cI (qV rfl rfl) λZ=>fj (Fe (qV rfl rfl) rfl)) rfl (eK rfl rfl)
def rc(ds:-D):ψ0 [.tup ds]=B (.sh,.bl Uk):=by
 delta ψ0;show eJ rfl ?_;delta b0;show bN (cI (y:=Uj) (qV rfl rfl) λe=>by ext e) rfl (eK rfl rfl)
def AC(ds:-D)(n:Nat):ψ1 [.tup ds,iD n]=B (.sh,.bl Uk):=by
 delta ψ1;show eJ rfl ?_;delta b1;show bN (x:=(.sh,.bl (Uk&&Uj))) (cI (bd rfl (e1 rfl) rfl rfl (rc _) rfl) λe=>by ext e) rfl (eK rfl rfl)
def fV(a b:Nat):ψ1 [iD a,iD b]=B (.sh,.bl (decide (a<b))):=by
 delta ψ1;show eJ rfl ?_;delta b1;show bN (cI (bd rfl (e1 rfl) rfl rfl (q9 _) rfl) λZ=>fj (DR rfl rfl rfl)) rfl (eK rfl ?_);rw[R5,decide_eq_true ∅,R5];show q8 Int.ofNat_lt
def iR(ds:-D)(n:Nat):ψ4 [.tup ds,iD n]=B (.sh,.bl (decide (ds.length=n))):=by
 delta ψ4;show eJ rfl ?_;delta b4;show bN (x:=(.sh,.bl (Uj&&decide ((ds.length:Int)=n)))) (cI (qV rfl rfl) λZ=>fj (gJ (t5 (nj rfl rfl) rfl))) rfl (eK rfl ?_);rw[R5];show q8 Tb
def ny(c:Ci):ψ5 [cD c]=B (.sh,iD c.n):=by
 delta ψ5;show eJ rfl ?_;delta b5;let a:∀(n:Nat) d,[iD c.ins,D.lst (c.mems.map jL),.lst (c.gates.map eL),.lst (c.outs.map iD)][n]?=B d->aa Γ_4.fn (.ix (.var 0) (.lit (.int (n:Int)))) [fS (cD c)]=B (.sh,d):=λn d h=>cv (k:=.sh) rfl rfl (.inr rfl) rfl h;show bN (cG (cG (a 0 _ rfl) (nj (a 1 _ rfl) (by change B _=_;rw[Qa]))) (nj (a 2 _ rfl) (by change B _=_;rw[Qa]))) rfl (eK rfl ?_);unfold Ci.n Ci.f;rfl
def DU{w p a b c:Nat}(h:w<3)(f:p < [a,b,c].getD w 0):ψ9 [pD (sp w p),.lst [iD a,iD b,iD c]]=B (.sh,.bl Uj):=by
 delta ψ9;show eJ rfl ?_;delta b9;let d:aa Γ_8.fn (.ix (.var 0) (.lit (.int 0))) [fS (pD (sp w p)),fS (.lst [iD a,iD b,iD c])]=B (.sh,iD w):=cv (k:=.sh) rfl rfl (.inr rfl) rfl rfl;let g:aa Γ_8.fn (.ix (.var 0) (.lit (.int 1))) [fS (pD (sp w p)),fS (.lst [iD a,iD b,iD c])]=B (.sh,iD p):=cv (k:=.sh) rfl rfl (.inr rfl) rfl rfl
 let e:aa Γ_8.fn (.ix (.var 1) (.ix (.var 0) (.lit (.int 0)))) [fS (pD (sp w p)),fS (.lst [iD a,iD b,iD c])]=B (.sh,iD ([a,b,c].getD w 0)):=cv (k:=.sh) rfl d (.inl rfl) rfl (by
  match w,h with
  |0,_=>rfl
  |1,_=>rfl
  |2,_=>rfl)
 show bN (cI (bd rfl (e2 rfl rfl) rfl rfl (iR [iD w,iD p] 2) rfl) λZ=>cI (bd (p:=(.sh,.bl Uj)) (ds:=[iD w,iD 3]) rfl (e2 d rfl) rfl rfl ?_ rfl) λZ=>fj (bd (ds:=[iD p,iD ([a,b,c].getD w 0)]) rfl (e2 g e) rfl rfl ?_ rfl)) rfl (eK rfl rfl)
 .rw[fV,decide_eq_true ∅]
 .rw[fV,decide_eq_true f]
def kQ(a b:Nat):Builtin.bitAnd (a:Int) b=((a &&& b:Nat):Int):=by
 rw[PyProof.Rows.bitAnd_pp ∅ ∅];rfl
def DV:∀a b:Nat,a+b=(a ^^^ b)+2*(a &&& b):=by
 intro a
 induction a using Nat.strongRecOn with
 |ind a c=>
  intro b;by_cases d:a=0
  .subst d;simp
  have:=c (a / 2) ∅ (b / 2);rw[<- Nat.xor_div_two,<- Nat.and_div_two] at this;let f:(a &&& b)%2=1↔a%2=1/\b%2=1:=Nat.and_mod_two_eq_one;let e:(a ^^^ b)%2=1↔¬(a%2=1↔b%2=1):=Nat.xor_mod_two_eq_one
  lia
def DW(a b:Nat):Builtin.bitXor (a:Int) b=((a ^^^ b:Nat):Int):=by
 rw[PyProof.Rows.bitXor_and,kQ];have:=DV a b
 lia
def DX(a i:Nat):Builtin.bitAnd ((a:Int) / 2^i) 1=((a.testBit i).toNat:Int):=by
 rw[PyProof.Rows.bitAnd_m1,Nat.testBit_eq_decide_div_mod_eq];have:(a:Int) / 2^i=((a / 2^i:Nat):Int):=∎
 rw[this];obtain h|h:=Nat.mod_two_eq_zero_or_one (a / 2^i)
 .rw[decide_eq_false ∅];change _=((0:Nat):Int);lia
 .rw[decide_eq_true h];change _=((1:Nat):Int);lia
noncomputable abbrev Wh(n:Nat):Nat:=2^2^n-1
theorem PX{α:Type}{a:Option α}{r:α}{Q:α->Prop}(h:Wp a λx=>x=r)(q:Q r):Wp a Q:=h.mono λx e=>by subst e;show q
section
variable {Γ:Nat->@&Fn} {Z:Ro} {Q:KD->Prop} {k k':Kd}
theorem eU(q:Q (.sh,iD (a ^^^ b))):Wp (d8 .BitXor (k,iD a) (k',iD b)) Q:=#[(.sh,.int (Builtin.bitXor a b)),rfl,by rw[DW];show q]
theorem t6(q:Q (.sh,iD (a &&& b))):Wp (d8 .BitAnd (k,iD a) (k',iD b)) Q:=#[(.sh,.int (Builtin.bitAnd a b)),rfl,by rw[kQ];show q]
def AD{x i:Nat}(f:Wp (aa Γ a Z) λy=>y.2=iD x)(e:Wp (aa Γ b Z) λy=>y.2=iD i)(q:Q (.sh,bD (x.testBit i))):Wp (aa Γ (.bin .BitAnd (.bin .RShift a b) (.lit (.int 1))) Z) Q:=by
 show aU (aU (f.mono λy d=>e.mono λz c=>?_));let⟨h,j⟩:=y;let⟨g,k⟩:=z;cases(d);cases(c);show HU ∅ (bA #[(.sh,.int (Builtin.bitAnd ((x:Int) / 2^((i:Int)).toNat) 1)),rfl,?_]);rw[show((i:Int)).toNat=i from QV i,DX];show q
end
def DY(a:Nat){w:Nat}(c:w<=1000):ψ2 [iD a,iD w]=B (.fr k0,.lst ((Qo w).map λk=>bD (a.testBit k))):=by
 delta ψ2;show eJ rfl ?_;delta b2;show bN (DT rfl ∅ λi b=>xR rfl (AD (a7 rfl rfl) (a7 rfl rfl) #[_,rfl,rfl])) rfl (eK rfl rfl)
def jM{n:Nat}(c:n<=8):ψ6 [iD n]=B (.sh,iD (Wh n)):=by
 delta ψ6;show aK (qG rfl ?_);delta b6;let a:(1:Int)*2^((n:Int)).toNat=((2^n:Nat):Int):=by rw[QV];simp
 let d:2^n<=256:=Rq ⋯ c;let b:0<=(1:Int)*2^((n:Int)).toNat/\(1:Int)*2^((n:Int)).toNat<=1000000:=by rw[a];clear a;generalize 2^n=p at d;lia
 show fN (eE (aU (aU (bA (aU (bA (a7 rfl (oH #[by lia,∅,⋯] (oH #[b.1,b.2,⋯] (bA (tR #[rfl,eG rfl ?_])))))))))));rw[a,QV];have:0<2^2^n:=Nat.two_pow_pos _;change(Kd.sh,D.int _)=(Kd.sh,D.int _);congr 2;rw[Int.one_mul,show((2:Int)^2^n)=((2^2^n:Nat):Int) by simp,Int.ofNat_sub ∅];rfl
meta def combos:-(Nat×Nat):=((Qo 9).map λn=>(Qo n).map λk=>(k,n)).flatten
def xE:∀n,n<=8->∀k,k<n->(k,n)∈combos:=by nofun
def cx(k n:Nat):Nat:=match ψ7 [iD k,iD n] with|some (_,.int z)=>z.toNat|_=>0
def Fh(p:Nat×Nat):Bool:=match ψ7 [iD p.1,iD p.2] with|some (.sh,.int z)=>decide (0<=z)|_=>Uk
def AE:combos.all Fh=Uj:=by symm
def xF{k n:Nat}(a:n<=8)(hk:k<n):ψ7 [iD k,iD n]=B (.sh,iD (cx k n)):=by
 let h:=QB.mp AE _ (xE n a k hk);unfold Fh at h;delta cx;cbv at h;ext h h
 .ext1 z e;rw[e];have:=of_decide_eq_true h;change B (Kd.sh,D.int z)=B (Kd.sh,D.int _);rw[Int.toNat_of_nonneg this]
 .ext h
def Mh:G.jZ 2 L (B 2)=[0]/\G.jZ 2 (B 1) (B 2)=[1]:=by nofun
def Mi:G.jZ 4 L (B 2)=[0,2]/\G.jZ 4 (B 1) (B 2)=[1,3]:=by nofun
def Mj:G.jZ 8 L (B 2)=[0,2,4,6]/\G.jZ 8 (B 1) (B 2)=[1,3,5,7]:=by nofun
theorem Fk{Q:KD->Prop}(h:dZ k xs=Uj/\1<=z)(q:Q (.fr bQ,.lst (G.cV xs l (B z)))):Wp (yV (B (k,.nd .lst xs)) (B l) (B (k',.int z))) Q:=#[_,if_pos h,q]
def AG:∀{Lqq:-Nat} {m:Nat},m<=2->Lqq.length=2^(m+1)->sP (B (.fr bQ,.lst (G.cV (Lqq.map iD) L (B 2)))) (B (.fr bQ,.lst (G.cV (Lqq.map iD) (B 1) (B 2))))=B ([],(Qo (2^m)).map λj=>D.tup [iD (Lqq.getD (2*j) 0),iD (Lqq.getD (2*j+1) 0)]):=by
 intro Lqq m k i
 match m,k with
 |0,_=>
  match Lqq,i with
  |[a,b],_=>
   delta G.cV;rw[show(Sb iD [a,b]).length=2 from rfl,Mh.1,Mh.2];rfl
 |1,_=>
  match Lqq,i with
  |[a,b,c,d],_=>
   delta G.cV;rw[show(Sb iD [a,b,c,d]).length=4 from rfl,Mi.1,Mi.2];rfl
 |2,_=>
  match Lqq,i with
  |[a,b,c,d,e,f,g,h],_=>
   delta G.cV;rw[show(Sb iD [a,b,c,d,e,f,g,h]).length=8 from rfl,Mj.1,Mj.2];rfl
def Ml{n:Nat}(a:n<=8):((Wh n:Nat):Int).natAbs<lim:=by
 have:2^n<=256:=Rq ⋯ a;have:Wh n<2^256:=Qn (Nat.sub_lt (Nat.two_pow_pos _) ⋯) (Rq ⋯ this);rw[TH];show Sw this (by delta lim;decide)
meta def DZ:-Nat->Nat->Nat
 |[],_=>0
 |x::xs,b=>(x.testBit b).toNat+2*DZ xs b
theorem rf(x b:Nat):∀xs:-Nat,DZ (xs++[x]) b=DZ xs b+2^xs.length*(x.testBit b).toNat
 |[]=>by
  change(x.testBit b).toNat+2*0=0+2^0*(x.testBit b).toNat
  lia
 |y::xs=>by
  let a:=rf x b xs;change(y.testBit b).toNat+2*DZ (xs++[x]) b=(y.testBit b).toNat+2*DZ xs b+2^(xs.length+1)*(x.testBit b).toNat;rw[a,Nat.mul_add,S3,SZ (2^xs.length) 2,Tu,R3]
def D0(l h x b:Nat):(l ^^^ ((l ^^^ h) &&& x)).testBit b=if x.testBit b=Uj then h.testBit b else l.testBit b:=by
 rw[Sa,Tc,Sa]
 cases l.testBit b<;>cases h.testBit b<;>cases x.testBit b<;>rfl
def AH{n b:Nat}(h:b<2^n):(Wh n).testBit b=Uj:=by
 rw[SN,decide_eq_true h]
def Fl(t n s:Nat)(xs Lqq:-Nat):Prop:=∀j,j<Lqq.length->∀b,b<2^n->(Lqq.getD j 0).testBit b=t.testBit (DZ (xs.take s) b+2^s*j)
def vX(t:Nat){n:Nat}{xs:-Nat}(C:n<=8)(z:xs.length<=3):Σy:Nat,ψ8 [iD t,.lst (xs.map iD),iD (Wh n)]=B (.sh,iD y)/\∀b,b<2^n->y.testBit b=t.testBit (DZ xs b):=by
 suffices h:Wp (ψ8 [iD t,.lst (xs.map iD),iD (Wh n)]) λr=>Σy:Nat,r=(.sh,iD y)/\∀b,b<2^n->y.testBit b=t.testBit (DZ xs b) by
  let⟨r,e,y,rfl,H⟩:=h;rwa[y,e,H]
 delta ψ8;show qG rfl ?_;delta b8;let M:2^xs.length<=8:=Rq ⋯ z
 let I:aa Γ_7.fn (.bin .LShift (.lit (.int 1)) (.blt "len" (.cons (.var 1) .nil))) [fS (iD t),fS (.lst (xs.map iD)),fS (iD (Wh n)),L,L]=B (.sh,iD (2^xs.length)):=by
  have:=aK (aU (bA (wv (nj (Γ:=Γ_7.fn) (a:=.var 1) (Z:=[fS (iD t),fS (.lst (xs.map iD)),fS (iD (Wh n)),L,L]) rfl (by change B _=_;rw[Qa])) (oH (i:=1) #[by lia,∅,⋯] rfl))));rw[this];rw[QV];change B (Kd.sh,D.int _)=B (Kd.sh,D.int _);simp
 show aJ (qW (g:=λj=>iD (Wh n*(t.testBit j).toNat)) (.inl rfl) (bd rfl (e2 rfl I) rfl rfl (DY t ∅) rfl) rfl (by simp;lia) λj Y=>xR rfl (aU (a7 rfl (a7 rfl (zV #[Ml C,?_] #[.sh,?_,rfl]))))) rfl ⋯ ?_
 .cases t.testBit j<;>decide
 .change B (Kd.sh,D.int _)=B (Kd.sh,D.int _);rw[Td]
 show gG (ff (km (a7 rfl (fL rfl #[λs Z=>s<=xs.length/\Σc w,Z=[fS (iD t),fS (.lst (xs.map iD)),fS (iD (Wh n)),bw (.lst (c.map iD)),w]/\c.length=2^(xs.length-s)/\Fl t n s xs c,#[QM _,(Qo (2^xs.length)).map (λj=>Wh n*(t.testBit j).toNat),L,?_,∎,λj q b p=>?_],λs d Z o u=>?_,λZ u=>?_]))))
 .rw[QA];rfl
 .rw[Qa,QC] at q;rw[Qt,Qc,QU q,Tl];change(Wh n*(t.testBit j).toNat).testBit b=t.testBit (0+2^0*j);rw[Sz,Nat.pow_zero,Nat.one_mul];cases t.testBit j
  .change(Wh n*0).testBit b=Uk;rw[TJ,S4]
  .change(Wh n*1).testBit b=Uj;rw[Nat.mul_one,AH p]
 .let⟨E,c,w,rfl,k,f⟩:=u;let o:(xs.map iD)[s]?=B d:=o;rw[Qc] at o
  cases e:xs[s]? with
  |none=>rw[e] at o;ext o
  |some x=>
   rw[e] at o;ext o;let v:=(Qb.mp e).1;obtain⟨m,A⟩:Σm,xs.length-s=m+1:=#[xs.length-s-1,∅];rw[A] at k;rwa[[(4,iD x)],rfl,rfl,?_];erw[fS (iD t),fS (.lst (xs.map iD)),fS (iD (Wh n)),bw (.lst (c.map iD)),fS (iD x)];let K:=AG ∅ k;show iN (eE (eT (zT (zR (a7 rfl (lO (bA (Fk #[rfl,⋯] (zR (a7 rfl (oF (bA #[1,rfl,bA (Fk #[rfl,⋯] #[_,K,?_])]))))))))))));let F:2^m<=8:=Rq ⋯ (show m<=3 by lia);rwa[by simp;lia,PX (nv λj Y=>M7 rfl (aU (a7 rfl (aU (aU (a7 rfl (a7 rfl (eU (a7 rfl (t6 (eU #[_,rfl,rfl]))))))))))) #[#[rfl,⋯],aL #[_,.inl rfl,∅,(Qo (2^m)).map (λj=>c.getD (2*j) 0 ^^^ ((c.getD (2*j) 0 ^^^ c.getD (2*j+1) 0) &&& x)),B #[Uk,.fz,iD x],?_,?_,λj q b p=>?_]]]
   .rw[QA];rfl
   .rw[show xs.length-(s+1)=m by lia];simp
   .rw[Qa,QC] at q;let z:c.length=2*2^m:=by rw[k,S3,SZ]
    rw[Qt,Qc,QU q];change(c.getD (2*j) 0 ^^^ ((c.getD (2*j) 0 ^^^ c.getD (2*j+1) 0) &&& x)).testBit b=_;rw[D0,f (2*j) ∅ b p,f (2*j+1) ∅ b p,RU,e,show(B x).toList=[x] from rfl,rf,QO,SA (Rt v),S3];cases x.testBit b
    .rw[if_neg ⋯,show(2^s*2*j)=2^s*(2*j) by rw[Tu]];change _=t.testBit (_+2^s*0+_);rw[TJ,Nat.add_zero]
    .rw[if_pos rfl,show(2^s*2*j)=2^s*(2*j) by rw[Tu]];change _=t.testBit (_+2^s*1+_);rw[R3,<- Nat.mul_add,RI 1]
 .let⟨E,c,w,rfl,k,f⟩:=u;let l:(xs.map iD).length=xs.length:=Qa _;let k:c.length=2^(xs.length-(xs.map iD).length):=k;rw[l,Sc] at k;let f:Fl t n (xs.map iD).length xs c:=f;rw[l] at f
  match c,k,f with
  |[y],_,f=>show bN (cv rfl rfl (.inl rfl) rfl rfl) rfl (eG rfl #[y,rfl,λb p=>by have:=f 0 Nat.one_pos b p;rw[QQ,TJ,Nat.add_zero] at this;show this])
section
variable {Γ:Nat->@&Fn} {Z:Ro} {a b c:IE} {r:f7} {k k' k'':Kd} {d d':D} {hd:Hd}
def vY{α:Type}(l:List α)(f:α->D):(l.map f).mapIdx (λi d=>D.tup [.int i,d])=l.zipIdx.map λp=>D.tup [iD p.2,f p.1]:=by
 rw[List.mapIdx_eq_zipIdx_map,List.zipIdx_map,QA];rfl
theorem AI{ds:-D}{P:-Nat×-D->Prop}(h:dZ k ds=Uj)(q:P (pS k,ds.mapIdx λi d=>D.tup [.int i,d])):Wp (xb (B (k,.nd .lst ds))) P:=#[(pS k,ds.mapIdx λi d=>D.tup [.int i,d]),by delta xb;rw[show ir (B (k,.nd .lst ds))=B (pS k,ds) from if_pos h];rfl,q]
def Mm{α:Type}{l:List α}{f:α->D}{g:α×Nat->D}{r:Ow}{cap:-(@&Nat)}{tg:IT}{a elt:IE}(m:aa Γ a Z=B (k,.lst (l.map f)))(c:dZ k (l.map f)=Uj)(j:l.length<=100000)
  (h:∀(i:Nat) a,l[i]?=B a->Wp (dS tg (eA Γ .non) (aa Γ elt) (aT Z cap) (.tup [iD i,f a])) λo=>Σb,o=B (b,g (a,i))/\bR r (b,g (a,i))=Uj):aa Γ (.comp r cap tg (.enm a) .non elt) Z=B (.fr (.own [] r),.lst (l.zipIdx.map g)):=by
 show aK (eT (tQ (wv m (AI c #[by simpa using j,?_]))));rw[vY];show(nv λp d=>?_).mono λn e=>by rw[e]
 show h p.2 p.1 (List.mem_zipIdx_iff_getElem?.mp d)
def rg{α:Type}(l:List α):(l.map λZ=>D.bl Uj)=((l.map λZ=>Uj).map D.bl):=by rw[QA];rfl
theorem AJ{α:Type}(l:List α):(l.map λZ=>Uj).all id=Uj:=∎
def lW{α:Type}{l:List α}{f:α->D}(c:hd=.lst\/hd=.tup)(m:aa Γ a Z=B (k,.nd hd (l.map f)))(g:dZ k (l.map f)=Uj)(i:l.length<=100000)(b:∀d,bW [(1,d)] (aT Z cap)=Uj)(h:∀a∈l,aa Γ elt (setAll [(1,f a)] (aT Z cap))=B (.sh,.bl Uj)):aa Γ (.blt "all" (.cons (.comp .fz cap (.nm 1) (.e a) .non elt) .nil)) Z=B (.sh,.bl Uj):=by
 have:=qW (r:=.fz) c m g i λx j=>xR (b _) (wv (h x j) #[.sh,rfl,rfl]);rw[rg] at this;have:=AA this;rw[AJ] at this;show this
def Fo{α:Type}{l:List α}{f:α->D}{cap:-(@&Nat)}{a elt:IE}(m:aa Γ a Z=B (k,.lst (l.map f)))(c:dZ k (l.map f)=Uj)(e:l.length<=100000)(b:∀d d',bW [(1,d),(2,d')] (aT Z cap)=Uj)
  (h:∀(i:Nat) a,l[i]?=B a->aa Γ elt (setAll [(1,iD i),(2,f a)] (aT Z cap))=B (.sh,.bl Uj)):aa Γ (.blt "all" (.cons (.comp .fz cap (.tp [.nm 1,.nm 2]) (.enm a) .non elt) .nil)) Z=B (.sh,.bl Uj):=by
 have:=Mm (r:=.fz) (g:=λY=>D.bl Uj) m c e λi x j=>M7 (b _ _) (wv (h i x j) #[.sh,rfl,rfl]);rw[rg] at this;have:=AA this;rw[AJ] at this;show this
theorem cg{α:Type}{l:List α}{f:α->D}(b:aa Γ a Z=B (k,.nd hd (l.map f)))(c:hd=.lst\/hd=.tup):aa Γ (.blt "len" (.cons a .nil)) Z=B (.sh,iD l.length):=
 nj b (by obtain rfl|rfl:=c<;>show congrArg B (Qa _))
def Mn(xs:-D)(lo hi:@&Int):Jw (B (.sh,.tup xs)) (B lo) (B hi)=B (.sh,.tup (kh xs lo hi)):=by
 change(if dZ Kd.sh xs=Uj then B (Kd.sh,D.tup (kh xs lo hi)) else L)=_
 show if_pos rfl
def AK{xs:-D}{n:Nat}(c:aa Γ a Z=B (.sh,.tup xs))(b:n<=xs.length):aa Γ (.sl a .non (.som (.lit (.int (n:Int))))) Z=B (.sh,.tup (xs.take n)):=by
 show aK (vI (wv c (lO (oF (bA #[(n:Int),rfl,#[_,Mn xs L (B (n:Int)),?_]])))));delta kh;rw[HT.pq,HT.uo,SA b,Tj,TD]
theorem iS{es:f7}{kds:-KD}{r:Ow}(a:bf Γ es Z=B kds)(b:pQ [] r kds=Uj/\kds.length<=100000):aa Γ (.lst (.own [] r) es) Z=B (.fr (.own [] r),.lst (kds.map (·.2))):=aK (tN (wv a (tV (if_pos b) rfl)))
theorem iT{kds:-KD}(a:bf Γ es Z=B kds)(b:(kds.all λp=>pK p.1 p.2)=Uj/\kds.length<=100000):aa Γ (.tup .fz es) Z=B (.sh,.tup (kds.map (·.2))):=aK (zQ (wv a (jK (if_pos b) rfl)))
end
theorem dQ{Γ:GG}{N:Nat}{pn:-Nat}{Z:Ro}{Q:Res->Prop}{rest:bq}{is:-Nat}{e:IE}{ds:-D}(h:aa Γ.fn e Z=B (.sh,.tup ds))(a:is.length=ds.length/\(is.all λi=>!pn.contains i)=Uj)(w:Wp (ao Γ N rest pn (qu is ds [] .fz Z)) Q):Wp (ao Γ N (.cons (.unp is (.p e)) rest) pn Z) Q:=
 Ib (eE (wv h #[ds,[],.fz,rfl,rfl,a,w]))
abbrev Fr:=Nat ⊕ (Int×Int)
def it:Fr->D
 |.inl n=>iD n
 |.inr s=>pD s
structure St where
 p:Int×Int
 q:Int×Int
 fr:-Fr
 gv:-Nat
abbrev gf(l:-Fr):D:=.lst (l.map it)
abbrev bX(l:-Nat):D:=.lst (l.map iD)
abbrev cj(t:St):D:=.tup [pD t.p,pD t.q,gf t.fr,bX t.gv]
def Sp(a b c:Nat)(q:Int×Int):Prop:=Σw p:Nat,w<3/\p < [a,b,c].getD w 0/\q=sp w p
abbrev xG(a b c:Nat):D:=.lst [iD a,iD b,iD c]
def vZ(h:Sp a b c p):ψ9 [pD p,xG a b c]=B (.sh,.bl Uj):=by
 let⟨w,p,d,e,rfl⟩:=h;show DU d e
structure D2(a b c m:Nat)(t:St):Prop where
 p:Sp a b c t.p
 q:Sp a b c t.q
 l:t.fr.length<=8
 f:∀x∈t.fr,match x with|.inl n=>n<m|.inr s=>Sp a b c s
 g:∀n∈t.gv,n<m
 k:t.gv.length<=8
def AL{a b c m:Nat}{t:St}(h:D2 a b c m t):JG [cj t,xG a b c,iD m]=B (.sh,.bl Uj):=by
 let v:=h.l;delta JG;show eJ rfl ?_;delta Ou;let i:∀(j:Nat) d,[pD t.p,pD t.q,gf t.fr,bX t.gv][j]?=B d->aa Γ_12.fn (.ix (.var 0) (.lit (.int (j:Int)))) [fS (cj t),fS (xG a b c),fS (iD m),L,L]=B (.sh,d):=λj d h=>cv (k:=.sh) rfl rfl (.inr rfl) rfl h;show eI (x:=(.sh,.bl Uk)) (oN (dL (x:=Uj) (qU (bd rfl (e2 rfl rfl) rfl rfl (iR _ 4) rfl))) λZ=>oN (dL (x:=Uj) (qU (bd rfl (e2 (i 0 _ rfl) rfl) rfl rfl (vZ h.p) rfl))) λZ=>gI (dL (x:=Uj) (qU (bd rfl (e2 (i 1 _ rfl) rfl) rfl rfl (vZ h.q) rfl)))) (λe=>by ext e) λZ=>?_;show dQ (aK (vI (wv (rfl) (oF (bA #[2,rfl,lO #[_,Mn _ (B 2) L,rfl]]))))) #[rfl,rfl] ?_;erw[fS (cj t),fS (xG a b c),fS (iD m),fS (gf t.fr),fS (bX t.gv)];show eI (z:=Uk||(Uk||false)) (x:=(.sh,.bl Uk)) (oN (dL (x:=Uj) (vV rfl rfl)) λZ=>oN (dL (x:=Uj) (vV rfl rfl)) λZ=>gI ?_) (λe=>by ext e) λZ=>?_
 .have:=Mc (cg (a:=.var 3) rfl (.inl rfl)) (show aa Γ_12.fn (.lit (.int 8)) [fS (cj t),fS (xG a b c),fS (iD m),fS (gf t.fr),fS (bX t.gv)]=B (.sh,.int 8) from rfl);rw[this,decide_eq_false ∅]
 let hk:=h.k;show bN (cI (lW (.inl rfl) rfl rfl ∅ (λZ=>rfl) λx u=>?_) λZ=>fj (lW (.inl rfl) rfl rfl ∅ (λZ=>rfl) λn r=>bd (ds:=[iD n,iD m]) rfl (e2 rfl rfl) rfl rfl #v[fV,decide_eq_true (h.g n r)] rfl)) rfl (eK rfl rfl);let o:=h.f x u
 cases x with
 |inl n=>show DS (x:=Uj) (y:=Uj) (bd (ds:=[iD n,iD m]) rfl (e2 rfl rfl) rfl rfl #v[fV,decide_eq_true (o)] rfl) λe=>by ext e
 |inr s=>show DS (x:=Uk) (bd rfl (e2 rfl rfl) rfl rfl (AC _ _) rfl) λZ=>fj (bd rfl (e2 rfl rfl) rfl rfl (vZ o) rfl)
abbrev BG:=Nat×-(Int×Int)
abbrev v3(h:BG):D:=.tup [iD h.1,.tup (h.2.map pD)]
def xH{h:BG}(i:ψ3 [iD h.1,iD h.2.length]=B (.sh,.bl Uj))(l:h.2.length<=3)(g:∀s∈h.2,Sp a b k s):LX [v3 h,xG a b k]=B (.sh,.bl Uj):=by
 delta LX;show eJ rfl ?_;delta Ot;let c:∀(j:Nat) d,[iD h.1,D.tup (h.2.map pD)][j]?=B d->aa Γ_9.fn (.ix (.var 0) (.lit (.int (j:Int)))) [fS (v3 h),fS (xG a b k)]=B (.sh,d):=λj d h=>cv (k:=.sh) rfl rfl (.inr rfl) rfl h;show eI (x:=(.sh,.bl Uk)) (oN (dL (x:=Uj) (qU (bd rfl (e2 rfl rfl) rfl rfl (iR _ 2) rfl))) λZ=>gI (dL (x:=Uj) (vV (c 1 _ rfl) rfl))) (λe=>by ext e) λZ=>?_;show bN (cI (bd rfl (e2 (c 0 _ rfl) (cg (c 1 _ rfl) (.inr rfl))) rfl rfl i rfl) λZ=>fj (lW (.inr rfl) (c 1 _ rfl) rfl ∅ (λZ=>rfl) λs f=>bd rfl (e2 rfl rfl) rfl rfl (vZ (g s f)) rfl)) rfl (eK rfl rfl)
structure Wd where
 c:Ci
 c':Ci
 hs:-BG
abbrev Wd.sz(W:Wd)(w:Nat):Nat:=[W.c.n,W.c'.n,W.hs.length].getD w 0
structure my(W:Wd):Prop where
 c:Ok W.c
 c':Ok W.c'
 i:W.c'.ins=W.c.ins
 o:W.c'.outs.length=W.c.outs.length
 bh:W.hs.length<=4
 h:∀(k:Nat) h,W.hs[k]?=B h->ψ3 [iD h.1,iD h.2.length]=B (.sh,.bl Uj)/\h.2.length<=3/\∀s∈h.2,Sp W.c.n W.c'.n k s
def IG{xs:-D}{n:Nat}(h:n<=xs.length):kh xs L (B (n:Int))=xs.take n:=by
 delta kh;rw[HT.pq,HT.uo,SA h,Tj,TD]
section
variable {Γ:Nat->@&Fn} {Z:Ro} {a b c:IE} {k k':Kd} {xs:-D} {n:Nat}
def Mo(d:aa Γ a Z=B (k,.lst xs))(c:aa Γ b Z=B (k',iD n))(hk:dZ k xs=Uj)(e:n<=xs.length):aa Γ (.sl a .non (.som b)) Z=B (.fr k0,.lst (xs.take n)):=by
 rw[<- IG e];show aK (vI (wv d (lO (oF (wv c #[_,rfl,_,if_pos hk,rfl])))))
end
def PY{α:Type}{l:List α}{p:α×Nat}{i:Nat}(h:l.zipIdx[i]?=B p):l[i]?=B p.1/\p.2=i:=by
 rw[Tq] at h
 cases e:l[i]? with
 |none=>rw[e] at h;ext h
 |some a=>rw[e] at h;ext h;rwa[rfl,∎]
abbrev rh(O:-BG):D:=.lst (O.map v3)
abbrev sL(ts:-St):D:=.lst (ts.map cj)
abbrev D3(W:Wd)(U O:-St)(R:-Nat):D:=.tup [rh W.hs,sL U,sL O,bX R]
structure AM(W:Wd)(he cl:-St)(en:-Nat):Prop where
 h1:∀t∈he,D2 W.c.n W.c'.n W.hs.length (W.c.ins+he.length+cl.length) t
 h2:∀(i:Nat) t,cl[i]?=B t->D2 W.c.n W.c'.n W.hs.length (W.c.ins+he.length+i) t
 h3:∀n∈en,n<W.c.ins+he.length+cl.length
 lo:en.length=W.c.outs.length
 bh:he.length<=20
 bc:cl.length<=20
def AN{W:Wd}(h:my W){b g:-St}{m:-Nat}(P:AM W b g m):LY [cD W.c,cD W.c',D3 W b g m]=B (.sh,.bl Uj):=by
 let F:=h.c.bo;let H:=h.bh;let b1:=P.bh;let b2:=P.bc;let lo:=P.lo;delta LY;show eJ rfl ?_;delta Os;generalize r:D3 W b g m=pa;erw[fS (cD W.c),fS (cD W.c'),fS pa,L,L,L,L,L,L,L];show eI (z:=Uk||false) (x:=(.sh,.bl Uk)) (oN (dL (x:=Uj) (qU (k:=.sh) (bd (U:=ψ4) (p:=(.sh,.bl Uj)) (ds:=[pa,iD 4]) rfl (e2 (p:=(.sh,pa)) (q:=(.sh,iD 4)) rfl rfl) rfl rfl (by rw[<- r];show iR _ 4) rfl))) λZ=>gI (dL (x:=Uj) (Fd (k:=.sh) (lW (l:=[rh W.hs,sL b,sL g,bX m]) (f:=id) (k:=.sh) (.inr rfl) (by rw[<- r];rfl) rfl ∎ (λZ=>rfl) λd hd=>?_)))) (λe=>by ext e) λZ=>?_
 .dsimp[Qf,Qw,or_false] at hd
  obtain rfl|rfl|rfl|rfl:=hd<;>show qV (k:=.sh) rfl rfl
 show dQ (ds:=[rh W.hs,sL b,sL g,bX m]) (by rw[<- r];rfl) #[rfl,rfl] ?_;erw[fS (cD W.c),fS (cD W.c'),fS pa,fS (rh W.hs),fS (sL b),fS (sL g),fS (bX m),L,L,L];show aJ (iS (kds:=[(.sh,iD W.c.n),(.sh,iD W.c'.n),(.sh,iD W.hs.length)]) (e3 (bd (U:=ψ5) (ds:=[cD W.c]) rfl (e1 (p:=(.sh,cD W.c)) rfl) rfl rfl (ny W.c) rfl) (bd (U:=ψ5) (ds:=[cD W.c']) rfl (e1 (p:=(.sh,cD W.c')) rfl) rfl rfl (ny W.c') rfl) (cg (l:=W.hs) (f:=v3) (k:=.sh) rfl (.inl rfl))) #[rfl,∎]) rfl ⋯ ?_;show aJ (x:=(.sh,iD (W.c.ins+b.length))) (cG (k:=.sh) (k':=.sh) (i:=(W.c.ins:Int)) rfl (cg (l:=b) (f:=cj) (k:=.sh) rfl (.inl rfl))) rfl ⋯ ?_;show aJ (x:=(.sh,iD (W.c.ins+b.length+g.length))) (cG (k:=.sh) (k':=.sh) (i:=((W.c.ins+b.length:Nat):Int)) rfl (cg (l:=g) (f:=cj) (k:=.sh) rfl (.inl rfl))) rfl ⋯ ?_;generalize t:W.c.ins+b.length=A at *;generalize v:A+g.length=M at *;erw[fS (cD W.c),fS (cD W.c'),fS pa,fS (rh W.hs),fS (sL b),fS (sL g),fS (bX m),bw (xG W.c.n W.c'.n W.hs.length),fS (iD A),fS (iD M)];show bN (x:=(.sh,.bl (Uj&&(Uj&&(Uj&&(Uj&&Uj)))))) (cI (x:=Uj) (Fo (l:=W.hs) (f:=v3) (k:=.sh) rfl rfl ∅ (λZ Z=>rfl) λi a E=>?_) λZ=>cI (x:=Uj) (lW (l:=b) (f:=cj) (k:=.sh) (.inl rfl) rfl rfl ∅ (λZ=>rfl) λp s=>?_) λZ=>cI (x:=Uj) (Fo (l:=g) (f:=cj) (k:=.sh) rfl rfl ∅ (λZ Z=>rfl) λi p s=>?_) λZ=>cI (x:=Uj) (gJ ((t5 (cg (l:=m) (f:=iD) (k:=.sh) rfl (.inl rfl)) (cg (l:=W.c.outs) (f:=iD) (k:=.sh) (cv (k:=.sh) (k':=.sh) (n:=3) (hd:=.tup) (xs:=[iD W.c.ins,.lst (W.c.mems.map jL),.lst (W.c.gates.map eL),.lst (W.c.outs.map iD)]) rfl rfl (.inr rfl) rfl rfl) (.inl rfl))).trans #v[lo,decide_eq_true rfl])) λZ=>fj (lW (l:=m) (f:=iD) (k:=.sh) (.inl rfl) rfl rfl ∅ (λZ=>rfl) λo w=>bd (U:=ψ1) (p:=(.sh,.bl Uj)) (ds:=[iD o,iD M]) rfl (e2 (p:=(.sh,iD o)) (q:=(.sh,iD M)) rfl rfl) rfl rfl #v[fV,decide_eq_true (v▸t▸P.h3 o w)] rfl)) rfl (eK rfl rfl)
 .let⟨D,C,y⟩:=h.h i a E;show gH (U:=LX) (p:=(.sh,.bl Uj)) (ds:=[v3 a,xG W.c.n W.c'.n i]) rfl (e2 (p:=(.sh,v3 a)) rfl (vU (k:=.fr k0) (k':=.fr k0) (xs:=[iD W.c.n,iD W.c'.n]) (ys:=[iD i]) #[rfl,rfl,∎] (Mo (k:=.bo 4 k0) (k':=.sh) (n:=2) (xs:=[iD W.c.n,iD W.c'.n,iD W.hs.length]) rfl rfl rfl ∎) (iS (kds:=[(.sh,iD i)]) (e1 rfl) #[rfl,∎]))) rfl rfl (xH D C y) rfl
 .show gH (U:=JG) (p:=(.sh,.bl Uj)) (ds:=[cj p,xG W.c.n W.c'.n W.hs.length,iD M]) rfl (e3 (p:=(.sh,cj p)) (q:=(.bo 4 k0,xG W.c.n W.c'.n W.hs.length)) (u:=(.sh,iD M)) rfl rfl rfl) rfl rfl (AL (v▸t▸P.h1 p s)) rfl
 .show gH (U:=JG) (p:=(.sh,.bl Uj)) (ds:=[cj p,xG W.c.n W.c'.n W.hs.length,iD (A+i)]) rfl (e3 (p:=(.sh,cj p)) (q:=(.bo 5 k0,xG W.c.n W.c'.n W.hs.length)) (u:=(.sh,iD (A+i))) rfl rfl (cG (k:=.sh) (k':=.sh) (i:=(A:Int)) (j:=(i:Int)) rfl rfl)) rfl rfl (AL (t▸P.h2 i p s)) rfl
section
variable {Γ:GG} {N:Nat} {pn:-Nat} {Z:Ro} {Q:Res->Prop} {rest:bq}
def v4{α:Type}{l:List α}{f:α->D}(k:aa Γ.fn a Z=B (.sh,.lst (l.map f)))(I:Nat->Ro->Prop)(j:I 0 Z)(h:∀(i:Nat) x Z,l[i]?=B x->I i Z->Σps,sV tg (.tup [iD i,f x])=B ps/\(ps.all λq=>!pn.contains q.1)=Uj/\Wp (ao Γ N b pn (setAll ps (clrN fg Z))) λr=>ΣZ',(r=.nx Z'\/r=.ct Z')/\I (i+1) Z')(hq:∀Z,I l.length Z->Wp (ao Γ N rest pn (clrN fg Z)) Q):Wp (ao Γ N (.cons (.fo fg tg (.p (.enm a)) b) rest) pn Z) Q:=by
 show gG (ff (tQ (wv k (AI rfl #[I,j,λi d Z c g=>?_,λZ g=>?_]))))
 .rw[vY] at c;let c:(l.zipIdx.map λp=>D.tup [iD p.2,f p.1])[i]?=B d:=c;rw[Qc] at c
  cases e:l.zipIdx[i]? with
  |none=>rw[e] at c;ext c
  |some p=>
   rw[e] at c;ext c;let⟨e1,e2⟩:=PY e;subst e2;rw[show pn++(pS Kd.sh:-Nat)=pn from Q1 pn];show h p.2 p.1 Z e1 g
 .have:((l.map f).mapIdx λi d=>D.tup [.int i,d]).length=l.length:=∎
  let g:I ((l.map f).mapIdx λi d=>D.tup [.int i,d]).length Z:=g;rw[this] at g;show hq Z g
noncomputable abbrev kG:Ow:=.own [] (.own [] .fz)
noncomputable abbrev fl3:-Str:=["gates","begins","afters"]
abbrev kR(ds:-D):D:=.nd (.obj "Ground" fl3) ds
def oP{n:Nat}{ks:-(Int×Int)}{vs ds:-D}{p:Int×Int}{x y:KD}(b:Z[0]?=B (B #[Uk,kG,kR ds]))(a:a9 f fl3=B n)(hd:ds[n]?=B (dic ks vs))(k:aa Γ.fn e Z=B x)(hk:aa Γ.fn kx Z=B y)(g:y.2=pD p)(c:p∉ks)(i:vs.length<100000)(h:bR .fz (dW x.1 x.2,x.2)=Uj)(w:Wp (ao Γ N rest pn (Z.set 0 (B #[Uk,kG,kR (ds.set n (dic (ks++[p]) (vs++[x.2])))]))) Q):Wp (ao Γ N (.cons (.put (.fld (.nm 0) f) kx (.p e)) rest) pn Z) Q:=by
 show m9 (eE (wv k (xp (r:=(k0,dic ks vs,λz=>kR (ds.set n z))) ?_ (wv hk (jI rfl rfl b (jJ (r:=(.dic 1 ((ks++[p]).map pk),vs++[x.2])) ?_ w))))))
 .change bz f (j5 Z[0]?)=_;rw[b]
  change(match a9 f fl3 with|some j=>(match ds[j]? with|some d=>B (([]:-Ow).getD j k0,d,λz=>id (D.nd (.obj "Ground" fl3) (ds.set j z)))|none=>L)|none=>L)=_
  rw[a]
  change(match ds[n]? with|some d=>B (([]:-Ow).getD n k0,d,λz=>id (D.nd (.obj "Ground" fl3) (ds.set n z)))|none=>L)=_
  rw[hd];rfl
 .rw[g];show vW c i h
end
def gK(c:Ci)(w n:Nat):-(Int×Int):=(Qo n).map λk=>sp w (c.f+k)
def mK(c:Ci)(w n:Nat):-(Int×Int):=(Qo n).map λk=>sp w (c.ins+k)
def g6(w:Nat)(g:Nat×-Nat):D:=.tup [iD g.1,.lst ((g.2.map (sp w)).map pD)]
def D4(c:Ci)(w n:Nat):gK c w (n+1)=gK c w n++[sp w (c.f+n)]:=by delta gK;rw[Te,Qy];rfl
def D5(c:Ci)(w n:Nat):mK c w (n+1)=mK c w n++[sp w (c.ins+n)]:=by delta mK;rw[Te,Qy];rfl
def gK_mem{c:Ci}{w n:Nat}:p∈gK c w n↔Σk,k<n/\p=sp w (c.f+k):=by
 delta gK;rw[Qv];rwa[λ⟨k,b,a⟩=>#[k,Qq.mp b,a.symm],λ⟨k,b,a⟩=>#[k,Qq.mpr b,a.symm]]
def mK_mem{c:Ci}{w n:Nat}:p∈mK c w n↔Σk,k<n/\p=sp w (c.ins+k):=by
 delta mK;rw[Qv];rwa[λ⟨k,b,a⟩=>#[k,Qq.mp b,a.symm],λ⟨k,b,a⟩=>#[k,Qq.mpr b,a.symm]]
def bj{w b p a:Nat}(h:sp w p=sp b a):w=b/\p=a:=by
 let c:(w:Int)=b:=congrArg Prod.fst h;let d:(p:Int)=a:=congrArg Prod.snd h;rwa[by lia,∅]
def dH{α:Type}{l:List α}{s:Nat}{a:α}(h:l[s]?=B a):l.take (s+1)=l.take s++[a]:=by rw[RU,h];rfl
theorem fW(d:aa Γ a Z=B (.sh,.int i))(c:aa Γ b Z=B (.sh,.int j)):aa Γ (.tup .fz (.cons a (.cons b .nil))) Z=B (.sh,.tup [.int i,.int j]):=
 iT (kds:=[(.sh,.int i),(.sh,.int j)]) (e2 d c) #[rfl,∎]
def AO{c:Ci}(h:Ok c){w:Nat}{gk bk:-(Int×Int)}{gv bv av:-D}(fg:∀p,sp w p∉gk)(fb:∀p,sp w p∉bk)(M:gv.length<=1000)(I:bv.length<=1000)(F:av.length<=1000) :
  DO [(kG,kR [dic gk gv,dic bk bv,dic bk av]),(.fz,iD w),(.fz,cD c)]=B (.sh,.non,[B (kG,kR [dic (gk++gK c w c.gates.length) (gv++c.gates.map (g6 w)),dic (bk++mK c w c.mems.length) (bv++c.mems.map λm=>bD m.1),dic (bk++mK c w c.mems.length) (av++c.mems.map λm=>pD (sp w m.2))]),L,L]):=by
 let K:=h.bm;let H:=h.bg;delta DO;show rM (LI rfl ?_);delta OR;change Wp (ao _ _ _ [0] [B #[Uk,kG,kR [dic gk gv,dic bk bv,dic bk av]],fS (iD w),fS (cD c),L,L,L,L,L,L,L,L,L]) _;show dQ (ds:=[iD c.ins,.lst (c.mems.map jL),.lst (c.gates.map eL),.lst (c.outs.map iD)]) rfl #[rfl,rfl] ?_;show v4 (l:=c.mems) (f:=jL) rfl (λs Z=>Σa r q,Z=[B #[Uk,kG,kR [dic gk gv,dic (bk++mK c w s) (bv++(c.mems.take s).map λm=>bD m.1),dic (bk++mK c w s) (av++(c.mems.take s).map λm=>pD (sp w m.2))]],fS (iD w),fS (cD c),fS (iD c.ins),fS (.lst (c.mems.map jL)),fS (.lst (c.gates.map eL)),fS (.lst (c.outs.map iD)),a,r,q,L,L])
  #[L,L,L,by simp[mK];rfl] (λs m Z v e=>?_) λZ e=>?_
 .let⟨a,r,q,rfl⟩:=e;let A:=(Qb.mp v).1;rwa[[(7,iD s),(8,bD m.1),(9,iD m.2)],rfl,rfl,?_]
  let o:sp w (c.ins+s)∉bk++mK c w s:=λz=>by
   obtain z|z:=Qp.mp z
   .show fb _ z
   .let⟨k,C,u⟩:=mK_mem.mp z;have:=(bj u).2
    lia
  show oP (n:=1) (p:=sp w (c.ins+s)) (x:=(.sh,bD m.1)) (y:=(.sh,pD (sp w (c.ins+s)))) rfl rfl rfl rfl (fW rfl (cG (k:=.sh) (k':=.sh) (i:=(c.ins:Int)) (j:=(s:Int)) rfl rfl)) rfl o (by rw[Qz,Qa,QO];lia) rfl ?_;show oP (n:=2) (p:=sp w (c.ins+s)) (x:=(.sh,pD (sp w m.2))) (y:=(.sh,pD (sp w (c.ins+s)))) rfl rfl rfl (fW rfl rfl) (fW rfl (cG (k:=.sh) (k':=.sh) (i:=(c.ins:Int)) (j:=(s:Int)) rfl rfl)) rfl o (by rw[Qz,Qa,QO];lia) rfl ?_;show aL #[_,.inl rfl,fS (iD s),fS (bD m.1),fS (iD m.2),?_];rw[D5,dH v,Qy,Qy,<- Q9,<- Q9,<- Q9];rfl
 .let⟨a,r,q,rfl⟩:=e;rw[QQ];show v4 (l:=c.gates) (f:=eL) rfl (λs Z=>Σa d b,Z=[B #[Uk,kG,kR [dic (gk++gK c w s) (gv++(c.gates.take s).map (g6 w)),dic (bk++mK c w c.mems.length) (bv++c.mems.map λm=>bD m.1),dic (bk++mK c w c.mems.length) (av++c.mems.map λm=>pD (sp w m.2))]],fS (iD w),fS (cD c),fS (iD c.ins),fS (.lst (c.mems.map jL)),fS (.lst (c.gates.map eL)),fS (.lst (c.outs.map iD)),a,L,L,d,b])
   #[a,L,L,by simp[gK];rfl] (λs g Z t e=>?_) λZ e=>?_
  .let⟨a,d,b,rfl⟩:=e;let A:=(Qb.mp t).1;let E:=(h.g s g t).1;rwa[[(7,iD s),(10,iD g.1),(11,.tup (g.2.map iD))],rfl,rfl,?_]
   let o:sp w (c.f+s)∉gk++gK c w s:=λz=>by
    obtain z|z:=Qp.mp z
    .show fg _ z
    .let⟨k,C,u⟩:=gK_mem.mp z;have:=(bj u).2
     lia
   show oP (n:=0) (p:=sp w (c.f+s)) (x:=(.sh,g6 w g)) (y:=(.sh,pD (sp w (c.f+s)))) rfl rfl rfl (iT (kds:=[(.sh,iD g.1),(.fr k0,.lst ((g.2.map (sp w)).map pD))]) (e2 rfl ((qW (k:=.sh) (f:=iD) (g:=λp=>pD (sp w p)) (.inr rfl) rfl rfl ∅ λp Y=>xR rfl (wv (fW rfl rfl) #[.sh,rfl,rfl])).trans (by rw[QA];rfl))) #[rfl,∎]) (fW rfl (cG (k:=.sh) (k':=.sh) (i:=(c.f:Int)) (j:=(s:Int)) ?_ rfl)) rfl o (by rw[Qz,Qa,QO];lia) rfl ?_
   .show cG (k:=.sh) (k':=.sh) (i:=(c.ins:Int)) (j:=(c.mems.length:Int)) rfl (cg (l:=c.mems) (f:=jL) (k:=.sh) rfl (.inl rfl))
   show aL #[_,.inl rfl,fS (iD s),fS (iD g.1),fS (.tup (g.2.map iD)),?_];rw[D4,dH t,Qy,<- Q9,<- Q9];rfl
  .let⟨a,d,b,rfl⟩:=e;rw[QQ];show aL (E2 rfl)
abbrev dK(ks:-(Int×Int))(V:Int×Int->D):D:=dic ks (ks.map V)
def JL(c:Ci)(q:Int×Int):Nat×-Nat:=c.gates.getD (q.2.toNat-c.f) (0,[])
meta def JM(c:Ci)(q:Int×Int):Bool×Nat:=c.mems.getD (q.2.toNat-c.ins) (Uk,0)
meta def Wd.ci(W:Wd)(w:Int):Ci:=if w=0 then W.c else W.c'
meta def Wd.hp(W:Wd)(q:Int×Int):BG:=W.hs.getD q.2.toNat (0,[])
def tb(W:Wd)(q:Int×Int):Nat:=if q.1=2 then(W.hp q).1 else(JL (W.ci q.1) q).1
meta def hq(q:Int×Int):Hd:=if q.1=2 then .tup else .lst
def bl(W:Wd)(q:Int×Int):-(Int×Int):=if q.1=2 then(W.hp q).2 else(JL (W.ci q.1) q).2.map λ(p:Nat)=>(q.1,(p:Int))
def gF(W:Wd)(q:Int×Int):D:=.tup [iD (tb W q),.nd (hq q) ((bl W q).map pD)]
def bF(W:Wd)(q:Int×Int):Nat:=(JM (W.ci q.1) q).1.toNat
def aF(W:Wd)(q:Int×Int):Int×Int:=(q.1,((JM (W.ci q.1) q).2:Int))
def g7(W:Wd):-(Int×Int):=gK W.c 0 W.c.gates.length++gK W.c' 1 W.c'.gates.length++(Qo W.hs.length).map (sp 2)
def fq(W:Wd):-(Int×Int):=mK W.c 0 W.c.mems.length++mK W.c' 1 W.c'.mems.length
def bG(W:Wd):D:=kR [dK (g7 W) (gF W),dK (fq W) (λq=>iD (bF W q)),dK (fq W) (λq=>pD (aF W q))]
def oQ{α β:Type}(l:List α)(f:α->β)(F:Nat->β)(h:∀(k:Nat) a,l[k]?=B a->F k=f a):(Qo l.length).map F=l.map f:=by
 show RV λi=>?_;rw[Qc,Qc]
 cases e:l[i]? with
 |none=>
  have:=RC.mp e;rw[QT (by rw[QC];show this)];rfl
 |some a=>
  rw[QU (Qb.mp e).1];show congrArg B (h i a e)
def AQ{c:Ci}{w k:Nat}(a:c.gates[k]?=B g):JL c (sp w (c.f+k))=g:=by
 delta JL;rw[Qt,show((c.f+k:Nat):Int).toNat-c.f=k by lia,a];rfl
def AR{c:Ci}{w k:Nat}(a:c.mems[k]?=B m):JM c (sp w (c.ins+k))=m:=by
 delta JM;rw[Qt,show((c.ins+k:Nat):Int).toNat-c.ins=k by lia,a];rfl
theorem O3{w:Nat}(a:w<2):¬((w:Int)=2):=∅
abbrev cw(W:Wd)(w:Nat):Ci:=W.ci (w:Int)
def AS{w k:Nat}{g:Nat×-Nat}(a:w<2)(b:(cw W w).gates[k]?=B g):bl W (sp w ((cw W w).f+k))=g.2.map (sp w):=by
 delta bl;rw[if_neg (O3 a),show(JL (W.ci (sp w ((cw W w).f+k)).1) (sp w ((cw W w).f+k)))=g from AQ b]
def Fp{w k:Nat}{g:Nat×-Nat}(a:w<2)(b:(cw W w).gates[k]?=B g):tb W (sp w ((cw W w).f+k))=g.1:=by
 delta tb;rw[if_neg (O3 a),show(JL (W.ci (sp w ((cw W w).f+k)).1) (sp w ((cw W w).f+k)))=g from AQ b]
def Fs{W:Wd}{k:Nat}(e:W.hs[k]?=B h):W.hp (sp 2 k)=h:=by
 delta Wd.hp;rw[Qt,show((k:Nat):Int).toNat=k by lia,e];rfl
def IH{W:Wd}{k:Nat}{h:BG}(e:W.hs[k]?=B h):bl W (sp 2 k)=h.2:=by
 delta bl;rw[if_pos (show(sp 2 k).1=2 from rfl),Fs e]
def Mp{W:Wd}{k:Nat}{h:BG}(e:W.hs[k]?=B h):tb W (sp 2 k)=h.1:=by
 delta tb;rw[if_pos (show(sp 2 k).1=2 from rfl),Fs e]
def Fu{w k:Nat}{m:Bool×Nat}(a:(cw W w).mems[k]?=B m):bF W (sp w ((cw W w).ins+k))=m.1.toNat:=by
 delta bF;rw[show(JM (W.ci (sp w ((cw W w).ins+k)).1) (sp w ((cw W w).ins+k)))=m from AR a]
def AT{w k:Nat}{m:Bool×Nat}(a:(cw W w).mems[k]?=B m):aF W (sp w ((cw W w).ins+k))=sp w m.2:=by
 delta aF;rw[show(JM (W.ci (sp w ((cw W w).ins+k)).1) (sp w ((cw W w).ins+k)))=m from AR a]
def IJ(W:Wd):W.c.gates.map (g6 0)++W.c'.gates.map (g6 1)++W.hs.map v3=(g7 W).map (gF W):=by
 let a:∀w,w<2->(gK (cw W w) w (cw W w).gates.length).map (gF W)=(cw W w).gates.map (g6 w):=λw b=>by
  delta gK;rw[QA];show oQ _ _ _ λk g d=>?_;change gF W (sp w ((cw W w).f+k))=_;unfold gF hq;rw[Fp b d,AS b d,if_neg (O3 b)];rfl
 delta g7;rw[Qy,Qy];congr 1
 .have:=a 0 ⋯;let t:=a 1 ⋯;rw[show(gK W.c 0 W.c.gates.length).map (gF W)=W.c.gates.map (g6 0) from this,show(gK W.c' 1 W.c'.gates.length).map (gF W)=W.c'.gates.map (g6 1) from t]
 .rw[QA];show(oQ _ _ _ λk h e=>?_).symm;change gF W (sp 2 k)=_;unfold gF hq;rw[Mp e,IH e,if_pos (show(sp 2 k).1=2 from rfl)]
def IK(W:Wd):(W.c.mems.map λm=>bD m.1)++(W.c'.mems.map λm=>bD m.1)=(fq W).map λq=>iD (bF W q):=by
 let a:∀w,(mK (cw W w) w (cw W w).mems.length).map (λq=>iD (bF W q))=(cw W w).mems.map λm=>bD m.1:=λw=>by
  delta mK;rw[QA];show oQ _ _ _ λk m b=>?_;change iD (bF W (sp w ((cw W w).ins+k)))=_;rw[Fu b]
 delta fq;rw[Qy,show(mK W.c 0 W.c.mems.length).map (λq=>iD (bF W q))=_ from a 0,show(mK W.c' 1 W.c'.mems.length).map (λq=>iD (bF W q))=_ from a 1];rfl
def IL(W:Wd):(W.c.mems.map λm=>pD (sp 0 m.2))++(W.c'.mems.map λm=>pD (sp 1 m.2))=(fq W).map λq=>pD (aF W q):=by
 let a:∀w,(mK (cw W w) w (cw W w).mems.length).map (λq=>pD (aF W q))=(cw W w).mems.map λm=>pD (sp w m.2):=λw=>by
  delta mK;rw[QA];show oQ _ _ _ λk m b=>?_;change pD (aF W (sp w ((cw W w).ins+k)))=_;rw[AT b]
 delta fq;rw[Qy,show(mK W.c 0 W.c.mems.length).map (λq=>pD (aF W q))=_ from a 0,show(mK W.c' 1 W.c'.mems.length).map (λq=>pD (aF W q))=_ from a 1];rfl
abbrev l6(W:Wd)(g:D)(R O:@&Sl):Ro:=[B #[Uk,kG,g],fS (cD W.c),fS (cD W.c'),fS (rh W.hs),R,O]
def v5{W:Wd}(b:j=1/\d=cD W.c\/j=2/\d=cD W.c')(a:DO [(kG,kR ds),(.fz,.int i),(.fz,d)]=B (.sh,.non,[B (kG,g1),L,L])):qS i j (l6 W (kR ds) L L)=B (.nx (l6 W g1 L L)):=by
 delta qS
 let e:xA i j (l6 W (kR ds) L L)=B ([.val .sh (.int i),.val .sh d],l6 W (kR ds) L L):=by rcases b with⟨rfl,rfl⟩|⟨rfl,rfl⟩<;>rfl
 let e1:Aj "Ground" "put_circuit" 0 DO (xA i j) (l6 W (kR ds) L L)=B (.sh,.non,l6 W g1 L L):=by
  change(if("Ground":Str)="Ground"/\fl3.contains "put_circuit" = Uk then C9 (B DO) (qc 0 (l6 W (kR ds) L L)[0]? (xA i j (l6 W (kR ds) L L))) else L)=_
  rw[if_pos #[rfl,⋯],e]
  change(if(dC [.ref 0,.val .sh (.int i),.val .sh d]).Nodup then _ else L)=_
  rw[if_pos (by simp[dC])]
  change(match DO [(kG,kR ds),(.fz,.int i),(.fz,d)] with|some (kd,d',outs)=>if bt kd=Uj\/outs.length≠([.ref 0,.val .sh (.int i),.val .sh d]:-RA).length then L else B (kd,d',dD [.ref 0,.val .sh (.int i),.val .sh d] (outs.map EH) (l6 W (kR ds) L L))|none=>L)=_
  rw[a];rfl
 change xj (Aj "Ground" "put_circuit" 0 DO (xA i j) (l6 W (kR ds) L L))=_;rw[e1];rfl
def Fw(c:Ci)(w n:Nat):(gK c w n).Nodup:=by
 delta gK;show List.Pairwise.map _ (λa b d e=>d (by have:=(bj e).2;lia)) R1
def Fx(c:Ci)(w n:Nat):(mK c w n).Nodup:=by
 delta mK;show List.Pairwise.map _ (λa b d e=>d (by have:=(bj e).2;lia)) R1
theorem Mq{W:Wd}{n m k:Nat}:sp 2 k∉gK W.c 0 n++gK W.c' 1 m:=λz=>by
 obtain z|z:=Qp.mp z<;>(let⟨z_,y_,a⟩:=gK_mem.mp z;have:=(bj a).1;lia)
def xI{W:Wd}(h:my W):L0 [cD W.c,cD W.c',rh W.hs]=B (.fr kG,bG W):=by
 let E:=h.c.bm;let C:=h.c.bg;let u:=h.c'.bm;let v:=h.c'.bg;let F:=h.bh;let t:=AO h.c (w:=0) (gk:=[]) (bk:=[]) (gv:=[]) (bv:=[]) (av:=[]) (λY h=>by ext h) (λY h=>by ext h) ∎ ∎ ∎;rw[Rw,Rw,Rw,Rw,Rw] at t
 let o:=AO h.c' (w:=1) (gk:=gK W.c 0 W.c.gates.length) (bk:=mK W.c 0 W.c.mems.length) (gv:=W.c.gates.map (g6 0)) (bv:=W.c.mems.map λm=>bD m.1) (av:=W.c.mems.map λm=>pD (sp 0 m.2)) (λp h=>by
  let⟨k,z_,g⟩:=gK_mem.mp h;have:=(bj g).1
  lia) (λp h=>by
  let⟨k,z_,g⟩:=mK_mem.mp h;have:=(bj g).1
  lia) (by rw[Qa];lia) (by rw[Qa];lia) (by rw[Qa];lia)
 rw[IK W,IL W] at o;let s1:=v5 (W:=W) (i:=0) (j:=1) (.inl #[rfl,rfl]) t;let s2:=v5 (W:=W) (i:=1) (j:=2) (.inr #[rfl,rfl]) o;let s0:ao Γ_32 1000 (aY Iu 3) [0] (l6 W (.nd (.obj "Ground" []) []) L L)=B (.nx (l6 W (kR [dic [] [],dic [] [],dic [] []]) L L)):=rfl
 obtain⟨b,a,s3⟩:Σb a,ao Γ_32 1000 (aH Iu 5) [0] (l6 W (kR [dic (gK W.c 0 W.c.gates.length++gK W.c' 1 W.c'.gates.length) (W.c.gates.map (g6 0)++W.c'.gates.map (g6 1)),dK (fq W) (λq=>iD (bF W q)),dK (fq W) (λq=>pD (aF W q))]) L L)=B (.nx (l6 W (bG W) b a)):=by
  suffices w:Wp (ao Γ_32 1000 (aH Iu 5) [0] (l6 W (kR [dic (gK W.c 0 W.c.gates.length++gK W.c' 1 W.c'.gates.length) (W.c.gates.map (g6 0)++W.c'.gates.map (g6 1)),dK (fq W) (λq=>iD (bF W q)),dK (fq W) (λq=>pD (aF W q))]) L L)) λr=>Σb a,r=.nx (l6 W (bG W) b a) by
   let⟨r,e,b,a,rfl⟩:=w;rwa[b,a,e]
  show v4 (l:=W.hs) (f:=v3) rfl (λi Z=>Σb a,Z=l6 W (kR [dic (gK W.c 0 W.c.gates.length++gK W.c' 1 W.c'.gates.length++(Qo i).map (sp 2)) (W.c.gates.map (g6 0)++W.c'.gates.map (g6 1)++(W.hs.take i).map v3),dK (fq W) (λq=>iD (bF W q)),dK (fq W) (λq=>pD (aF W q))]) b a) #[L,L,#v[List.range_zero,Tl,Su,Su,Q1,Q1]] (λi x Z s d=>?_) λZ d=>?_
  .let⟨b,a,rfl⟩:=d;let D:=(Qb.mp s).1;rwa[[(4,iD i),(5,v3 x)],rfl,rfl,?_];show oP (n:=0) (p:=sp 2 i) (x:=(.sh,v3 x)) (y:=(.sh,pD (sp 2 i))) rfl rfl rfl rfl (fW rfl rfl) rfl (λz=>?_) (by simp;lia) rfl ?_
   .obtain z|z:=Qp.mp z
    .show Mq z
    .let⟨j,A,e⟩:=Qv.mp z;have:=(bj e).2;have:=Qq.mp A
     lia
   show aL #[_,.inl rfl,fS (iD i),fS (v3 x),?_];rw[Te,dH s,Qy,Qy,<- Q9,<- Q9];rfl
  .let⟨b,a,rfl⟩:=d;show aL #[b,a,?_];rw[QQ,IJ];rfl
 let e:qT (l6 W (.nd (.obj "Ground" []) []) L L)=B (.nx (l6 W (bG W) b a)):=by
  delta qT;rw[s0];change cq (qS 0 1 (l6 W (kR [dic [] [],dic [] [],dic [] []]) L L)) _=_;rw[s1];change cq (qS 1 2 (l6 W _ L L)) _=_;rw[s2];show s3
 unfold L0 zN
 change(match lU qT 4 6 [0] [(kG,.nd (.obj "Ground" []) []),vD (cD W.c),vD (cD W.c'),vD (rh W.hs)] with|some (.sh,.non,B (k',d')::_)=>B (Kd.fr k',d')|_=>L)=_
 let e2:lU qT 4 6 [0] [(kG,.nd (.obj "Ground" []) []),vD (cD W.c),vD (cD W.c'),vD (rh W.hs)]=B (.sh,.non,[B (kG,bG W),L,L,L]):=by
  delta lU;rw[if_pos (by rfl)];change iM 4 [0] (qT (l6 W (.nd (.obj "Ground" []) []) L L))=_;rw[e];rfl
 rw[e2]
def gKs_mem{W:Wd}{w p:Nat}:sp w p∈g7 W↔(w=0/\W.c.f<=p/\p<W.c.n)\/(w=1/\W.c'.f<=p/\p<W.c'.n)\/(w=2/\p<W.hs.length):=by
 delta g7;rw[Qp,Qp,gK_mem,gK_mem,Qv];delta Ci.n;constructor
 .rintro ((⟨k,b,a⟩|⟨k,b,a⟩)|⟨k,b,a⟩)
  .let⟨rfl,rfl⟩:=bj a;lia
  .let⟨rfl,rfl⟩:=bj a;lia
  .let⟨rfl,rfl⟩:=bj a;have:=Qq.mp b;lia
 .rintro (⟨rfl,a,d⟩|⟨rfl,a,d⟩|⟨rfl,a⟩)
  .show .inl (.inl #[p-W.c.f,∅,by congr 2;lia])
  .show .inl (.inr #[p-W.c'.f,∅,by congr 2;lia])
  .show .inr #[p,Qq.mpr a,rfl]
def mKs_mem{W:Wd}{w p:Nat}:sp w p∈fq W↔(w=0/\W.c.ins<=p/\p<W.c.f)\/(w=1/\W.c'.ins<=p/\p<W.c'.f):=by
 delta fq;rw[Qp,mK_mem,mK_mem];delta Ci.f;constructor
 .rintro (⟨k,b,a⟩|⟨k,b,a⟩)<;>(let⟨rfl,rfl⟩:=bj a;lia)
 .rintro (⟨rfl,a,d⟩|⟨rfl,a,d⟩)
  .show .inl #[p-W.c.ins,∅,by congr 2;lia]
  .show .inr #[p-W.c'.ins,∅,by congr 2;lia]
def AU(W:Wd):(g7 W).Nodup:=by
 show Q0.mpr #[Q0.mpr #[Fw _ 0 _,Fw _ 1 _,λa c b f e=>?_],List.Pairwise.map _ (λa b d e=>d (by have:=(bj e).2;lia)) R1,λa c b f e=>?_]
 .let⟨k,z_,h⟩:=gK_mem.mp c;let⟨i,z_,g⟩:=gK_mem.mp f;have:=(bj (h.symm.trans (e.trans g))).1
  lia
 .let⟨k,z_,rfl⟩:=Qv.mp f;rw[e] at c;show Mq c
def AV(W:Wd):(fq W).Nodup:=by
 show Q0.mpr #[Fx _ 0 _,Fx _ 1 _,λa g b f e=>?_];let⟨k,z_,d⟩:=mK_mem.mp g;let⟨h,z_,c⟩:=mK_mem.mp f;have:=(bj (d.symm.trans (e.trans c))).1
 lia
section
variable {Γ:Nat->@&Fn} {Z:Ro} {a b:IE} {k k':Kd} {p:Int×Int} {ks:-(Int×Int)} {V:Int×Int->D}
def jN(g:aa Γ a Z=B (k,dK ks V))(f:aa Γ b Z=B (k',pD p))(d:ks.Nodup)(e:p∈ks)(hk:∀n,nW k n=.sh):aa Γ (.ix a b) Z=B (.sh,V p):=by
 let⟨n,c⟩:=RX.mp e;rw[Mf g f d c (by rw[Qc,c];rfl),hk n]
end
theorem AW{Q:KD->Prop}(h:dZ k ds=Uj)(q:Q (.fr bQ,.lst ds)):Wp (iq "list" [(k,.nd .tup ds)]) Q:=#[_,if_pos h,q]
def rj(a:hd=.lst\/hd=.tup):Wp (iq "list" [(Kd.sh,.nd hd ds)]) λx=>x=(.fr k0,.lst ds):=by
 obtain rfl|rfl:=a
 .show vK (k:=.sh) rfl rfl
 .show AW (k:=.sh) rfl rfl
def IM{Z:Ro}{i:Nat}{d:D}{ds:-D}{Q:Kd×D×Ro->Prop}(h:Z[i]?=B (B #[Uk,k0,.lst (ds++[d])]))(q:Q (.sh,d,Z.set i (B #[Uk,k0,.lst ds]))):Wp (bT Γ (.mut "pop" (.nm i) .nil) Z) Q:=by
 rwa[_,?_,q];rw[ol,bf];change mr "pop" i (j5 Z[i]?) (B []) Z=_;rw[h]
 change(match oh "pop" [] .fz (ds++[d]) [],Z[i]? with|some (d',ds'),B (B ⟨Uk,k,_⟩)=>B (Kd.sh,d',Z.set i (B #[Uk,k,id (.lst ds')]))|_,_=>L)=_
 have:oh "pop" [] .fz (ds++[d]) []=B (d,ds):=by
  change(if fD (.own [] .fz)=Uj then((ds++[d])[(ds++[d]).length-1]?).map λx=>(x,(ds++[d]).dropLast) else L)=_
  rw[if_pos (show fD (.own [] .fz)=Uj from rfl),Qz,Rv,SO,Rj (Qe _),Sc,List.dropLast_concat];rfl
 rw[this,h];rfl
def AX{Γ:GG}{Z:Ro}{i:Nat}{ds ys:-D}{Q:Kd×D×Ro->Prop}(h:Z[i]?=B (B #[Uk,k0,.lst ds]))(f:aa Γ.fn e Z=B (k,.nd hd ys))(a:dZ k ys=Uj/\bt k=Uk)(c:hd=.lst\/hd=.tup)(d:ds.length+ys.length<=100000)(q:Q (.sh,.non,Z.set i (B #[Uk,k0,.lst (ds++ys)]))):Wp (bT Γ (.mut "extend" (.nm i) (.cons e .nil)) Z) Q:=by
 rwa[_,?_,q];rw[ol,e1 f];change mr "extend" i (j5 Z[i]?) (B [(k,.nd hd ys)]) Z=_;rw[h]
 change(match oh "extend" [] .fz ds [(k,.nd hd ys)],Z[i]? with|some (d',ds'),B (B ⟨Uk,k,_⟩)=>B (Kd.sh,d',Z.set i (B #[Uk,k,id (.lst ds')]))|_,_=>L)=_
 let b:oh "extend" [] .fz ds [(k,.nd hd ys)]=B (.non,ds++ys):=by
  change(if fD (.own [] .fz)=Uj/\dZ k ys=Uj/\bt k=Uk/\ds.length+ys.length<=100000/\(hd=.lst\/hd=.tup) then B (D.non,ds++ys) else L)=_
  show if_pos #[rfl,a.1,a.2,d,c]
 rw[b,h];rfl
theorem AY{α:Type}{P Q:α->Bool}{a:α}:∀{l:List α},(∀x∈l,Q x=Uj->P x=Uj)->a∈l->P a=Uj->Q a=Uk->l.countP Q<l.countP P
 |x::l,h,b,hP,hQ=>by
  let e:=List.countP_mono_left (p:=Q) (q:=P) λy c=>h y (Qh x c);rw[Ue,Ue];obtain rfl|b:=Qf.mp b
  .rw[if_pos hP,if_neg (by rw[hQ];decide)]
   lia
  .have:=AY (λy c=>h y (Qh x c)) b hP hQ;let d:=h x Qr;cases e1:Q x
   .rw[if_neg ⋯]
    split<;>lia
   .rw[if_pos rfl,if_pos (d e1)]
    lia
def uL(W:Wd):-(Int×Int):=(Qo W.c.n).map (sp 0)++(Qo W.c'.n).map (sp 1)++(Qo W.hs.length).map (sp 2)
def IN(h:my W):(uL W).length<=42:=by
 let d:=h.c.bn;let a:=h.c'.bn;let b:=h.bh;delta uL;simp
 lia
def uL_mem{W:Wd}:q∈uL W↔Sp W.c.n W.c'.n W.hs.length q:=by
 delta uL;rw[Qp,Qp,Qv,Qv,Qv];constructor
 .rintro ((⟨p,h,rfl⟩|⟨p,h,rfl⟩)|⟨p,h,rfl⟩)<;>have h:=Qq.mp h
  .rwa[0,p,⋯,h,rfl]
  .rwa[1,p,⋯,h,rfl]
  .rwa[2,p,⋯,h,rfl]
 .rintro ⟨w,p,b,a,rfl⟩
  match w,b,a with
  |0,_,h=>show .inl (.inl #[p,Qq.mpr h,rfl])
  |1,_,h=>show .inl (.inr #[p,Qq.mpr h,rfl])
  |2,_,h=>show .inr #[p,Qq.mpr h,rfl]
theorem v6{W:Wd}{w p:Nat}(b:w<3)(a:p<W.sz w):sp w p∈uL W:=uL_mem.mpr #[w,p,b,a,rfl]
def Mr{W:Wd}(h:q∈g7 W):(Σw k g,w<2/\(cw W w).gates[k]?=B g/\q=sp w ((cw W w).f+k))\/Σk h,W.hs[k]?=B h/\q=sp 2 k:=by
 unfold g7 at h;obtain h|h:=Qp.mp h
 .obtain h|h:=Qp.mp h<;>let⟨k,hk,rfl⟩:=gK_mem.mp h
  .show .inl #[0,k,_,⋯,Qi hk,rfl]
  .show .inl #[1,k,_,⋯,Qi hk,rfl]
 .let⟨k,hk,rfl⟩:=Qv.mp h;show .inr #[k,_,Qi (Qq.mp hk),rfl]
def cw_ok(h:my W)(w:Nat):Ok (cw W w):=by
 unfold cw Wd.ci;split
 .show h.c
 .show h.c'
def cw_sz{W:Wd}{w:Nat}(a:w<2):W.sz w=(cw W w).n:=by
 have:w=0\/w=1:=∅
 obtain rfl|rfl:=this<;>rfl
def AZ(h:my W)(hq:q∈g7 W):(bl W q).length<=3/\∀s∈bl W q,s∈uL W/\oJ s<oJ q:=by
 rcases Mr hq with⟨w,k,g,b,m,rfl⟩|⟨k,g,e,rfl⟩
 .rw[AS b m];let⟨j,a⟩:=(cw_ok h w).g k g m;have:=(Qb.mp m).1;rwa[by rw[Qa];show j,λs d=>?_];let⟨p,o,rfl⟩:=Qv.mp d;let a:=a p o;rwa[v6 ∅ (by rw[cw_sz b];delta Ci.n;lia),?_];change(w:Int)*2^40+(p:Int)<(w:Int)*2^40+(((cw W w).f+k:Nat):Int)
  lia
 .rw[IH e];let⟨z_,j,d⟩:=h.h k g e;let hk:=(Qb.mp e).1;rwa[j,λs l=>?_];let⟨w,p,b,a,rfl⟩:=d s l;let t:=h.c.bn;let r:=h.c'.bn
  let i:p<W.sz w/\(w<2/\p<20\/w=2/\p<k):=by
   match w,b,a with
   |0,_,a=>have a:p<W.c.n:=a;rwa[a,.inl #[by decide,∅]]
   |1,_,a=>have a:p<W.c'.n:=a;rwa[a,.inl #[by decide,∅]]
   |2,_,a=>have a:p<k:=a;rwa[show p<W.hs.length by lia,.inr #[rfl,a]]
  rwa[v6 b i.1,?_];change(w:Int)*2^40+(p:Int)<((2:Nat):Int)*2^40+(k:Int)
  lia
inductive Cn (W:Wd) (kk ws:-(Int×Int)):Int×Int->Prop where
 |base {q:Int×Int}:q∈ws->q∉kk->Cn W kk ws q
 |step {q s:Int×Int}:Cn W kk ws q->q∈g7 W->s∈bl W q->s∉kk->Cn W kk ws s
def Cn.no{kk ws:-(Int×Int)}(h:Cn W kk ws q):q∉kk:=by cases h<;>assumption
structure PZ(W:Wd)(kk ws r:-(Int×Int)):Prop where
 pw:r.Pairwise λa b=>fP a b=Uj
 nd:r.Nodup
 mem:∀q,q∈r↔Cn W kk ws q
def Fz{W:Wd}(h:my W){w p:Nat}(b:w<3)(a:p<W.sz w):p<20:=by
 let f:=h.c.bn;let e:=h.c'.bn;let d:=h.bh
 match w,b,a with
 |0,_,a=>have a:p<W.c.n:=a;lia
 |1,_,a=>have a:p<W.c'.n:=a;lia
 |2,_,a=>have a:p<W.hs.length:=a;lia
def IP(h:my W)(hq:q∈uL W):gZ q=Uj:=by
 let⟨w,p,b,a,rfl⟩:=uL_mem.mp hq;have:=Fz h b a;change(decide (0<=(p:Int))&&decide ((p:Int)<2^40))=Uj;rw[decide_eq_true ∅,decide_eq_true ∅];rfl
theorem t7:∀l:-(Int×Int),z9 (l.map pk)=B l
 |[]=>rfl
 |a::l=>by
  change((MZ (pk a)).bind λp=>(z9 (l.map pk)).map λps=>p::ps)=_;rw[t7 l];rfl
abbrev xS(G:D)(kk:-(Int×Int))(O:-D)(hd:Hd)(ws fk Lqq:-(Int×Int))(R:@&Sl):Ro:=[fS G,fS (dic kk O),fS (.nd hd (ws.map pD)),B #[Uk,k0,dic fk (fk.map λZ=>.bl Uj)],B #[Uk,k0,.lst (Lqq.map pD)],R]
def jO(f:Hd)(hh:f=.lst\/f=.tup)(h:my W){kk ws:-(Int×Int)}(i:-D)(hw:∀q∈ws,q∈uL W)(lw:ws.length<=40) :
  Σr,Iv [bG W,dic kk i,.nd f (ws.map pD)]=B (.fr k0,.lst (r.map pD))/\PZ W kk ws r/\r.length<=42/\∀q∈r,q∈uL W:=by
 let hn:=IN h;generalize U:bG W=G
 suffices w:Σc l,ao Γ_11 1000 (aY JE 3) [] [fS G,fS (dic kk i),fS (.nd f (ws.map pD)),L,L,L]=B (.nx (xS G kk i f ws c [] l))/\c.Nodup/\(∀q∈c,q∈uL W)/\∀q,q∈c↔Cn W kk ws q by
  let⟨c,l,e,u,T,E⟩:=w;let hl:c.length<=42:=QG (List.Nodup.length_le_of_subset u T) ∅;let I:∀q,q∈c.mergeSort fP↔q∈c:=λq=>List.mem_mergeSort;rwa[c.mergeSort fP,?_,#[Af c,(R7 _ _).symm.nodup u,λq=>(I q).trans (E q)],by rw[(R7 _ _).length_eq];show hl,λq hq=>T q ((I q).mp hq)];unfold Iv xo;rw[<- U];rw[if_pos (show Jv (mC "Ground.all_below") (mM "Ground.all_below") [bG W,dic kk i,.nd f (ws.map pD)]=Uj from(show(decide (("Ground":Str)=mC "Ground.all_below")&&!fl3.contains (mM "Ground.all_below"))=Uj by nofun))];rw[U];delta jG;rw[if_pos (by rfl)];change eD (Aw [fS G,fS (dic kk i),fS (.nd f (ws.map pD)),L,L,L])=_;delta Aw;rw[e];change eD (tF (xr (xq (ed 3 (xS G kk i f ws c [] l)[3]?)) (xS G kk i f ws c [] l)))=_
  let e2:xq (ed 3 (xS G kk i f ws c [] l)[3]?)=B (.fr k0,.lst ((c.mergeSort fP).map pD)):=by
   change((z9 (c.map pk)).bind λps=>(qK ps).map λr=>(Kd.fr k0,D.lst (r.map pD)))=_;rw[t7,QY,show qK c=B (c.mergeSort fP) from if_pos #[by lia,u,QB.mpr λq hq=>IP h (T q hq)]];rfl
  rw[e2];rfl
 suffices w:Wp (ao Γ_11 1000 (aY JE 3) [] [fS G,fS (dic kk i),fS (.nd f (ws.map pD)),L,L,L]) λr=>Σc l,r=.nx (xS G kk i f ws c [] l)/\c.Nodup/\(∀q∈c,q∈uL W)/\∀q,q∈c↔Cn W kk ws q by
  let⟨r,e,c,l,rfl,q⟩:=w;rwa[c,l,e,q]
 unfold JE aY aY aY aY;show aJ (x:=(.fr k0,dic [] [])) rfl rfl ⋯ ?_;show aJ (x:=(.fr k0,.lst (ws.map pD))) (aK (gX (aS (wv (r:=(Kd.sh,D.nd f (ws.map pD))) rfl (cF (rj hh)))))) rfl ⋯ ?_;change Wp (ao _ _ _ _ (xS G kk i f ws [] ws L)) _;let hd:(uL W).countP (λq=>decide (q∉([]:-(Int×Int))))<=42:=QG List.countP_le_length ∅
 show Fg (λm Z=>Σc g l,m=4*(uL W).countP (λq=>decide (q∉c))+g.length/\m<=300/\c.Nodup/\(∀q∈c,q∈uL W/\Cn W kk ws q)/\(∀q∈g,q∈uL W/\(q∈kk\/Cn W kk ws q))/\(∀q,(q∈ws\/Σs,s∈c/\s∈g7 W/\q∈bl W s)->q∈kk\/q∈c\/q∈g)/\Z=xS G kk i f ws c g l) (m0:=4*(uL W).countP (λq=>decide (q∉([]:-(Int×Int))))+ws.length) ∅ #[[],ws,L,rfl,∅,.nil,(λJ h=>nomatch h),λq hq=>#[hw q hq,(Classical.em (q∈kk)).imp id λz=>.base hq z],λq hq=>hq.elim (λz=>.inr (.inr z)) λ⟨s,z,_⟩=>(nomatch z),rfl] λm Z hI=>?_
 let⟨c,g,l,rfl,E,u,K,S,t,rfl⟩:=hI;let R:aR Γ_11.fn (.var 4) (xS G kk i f ws c g L)=B (!(g.map pD).isEmpty):=Me (n:=4) rfl rfl;obtain rfl|⟨j,s,rfl⟩:=List.eq_nil_or_concat g
 .show lQ (wv R #[λJ=>?_,λe=>by cases e]);show aL #[c,L,rfl,u,λq hq=>(K q hq).1,λq=>#[λhq=>(K q hq).2,λhq=>?_]]
  let t:∀q,(q∈ws\/Σs,s∈c/\s∈g7 W/\q∈bl W s)->q∉kk->q∈c:=λq C v=>(t q C).elim (λz=>absurd z v) λz=>z.elim id λz=>nomatch z
  induction hq with
  |base C v=>show t _ (.inl C) v
  |step _ v h3 h4 ih=>show t _ (.inr #[_,ih,v,h3]) h4
 .rw[List.concat_eq_append] at R S t E⊢;rw[Qz] at E⊢;let E:4*(uL W).countP (λq=>decide (q∉c))+(j.length+1)<=300:=E;show lQ (wv R #[λe=>?_,λJ=>?_])
  .let e:(!((j++[s]).map pD).isEmpty)=Uk:=e;rw[Qy] at e;simp at e
  show iN (IM (d:=pD s) (ds:=j.map pD) (by change B (B _)=_;rw[Qy];rfl) #[#[rfl,⋯],?_]);change Wp (ao _ _ _ _ (xS G kk i f ws c j (fS (pD s)))) _;let Q:=S s ∎;let A:∀q∈j,q∈uL W/\(q∈kk\/Cn W kk ws q):=λq hq=>S q (QL _ hq);show ko (z:=!decide (s∈c)&&!decide (s∈kk)) (nq (qZ (k:=.sh) (k':=.bo 3 k0) rfl rfl) λJ=>gI (qZ (k:=.sh) (k':=.sh) rfl rfl)) (λe=>?_) λe=>?_
  .let C:s∉c:=λz=>by rw[decide_eq_true z] at e;ext e
   let v:s∉kk:=λz=>by rw[decide_eq_true z,Ry,Se] at e;ext e
   let M:Cn W kk ws s:=Q.2.elim (λz=>absurd z v) id;let he:c.length<=42:=QG (List.Nodup.length_le_of_subset u λq hq=>(K q hq).1) ∅;let N:(c++[s]).Nodup:=Q0.mpr #[u,∎,λa ha b hb z=>C (by rw[<- Qs.mp hb,<- z];show ha)];let O:∀q∈c++[s],q∈uL W/\Cn W kk ws q:=λq hq=>(Qp.mp hq).elim (K q) λz=>by rw[Qs.mp z];rwa[Q.1,M]
   let lt:(uL W).countP (λq=>decide (q∉c++[s]))<(uL W).countP (λq=>decide (q∉c)):=AY (λq J z=>decide_eq_true λy=>(of_decide_eq_true z) (QL _ y)) Q.1 (decide_eq_true C) (decide_eq_false λz=>z ∎);show q0 (p:=s) (x:=(.sh,.bl Uj)) (y:=(.sh,pD s)) rfl rfl rfl rfl C (by rw[Qa];lia) rfl ?_;let e5:(c.map λJ=>D.bl Uj)++[D.bl Uj]=((c++[s]).map λJ=>D.bl Uj):=by rw[Qy];rfl
   rw[e5];change Wp (ao _ _ _ _ (xS G kk i f ws (c++[s]) j (fS (pD s)))) _;let Y:aa Γ_11.fn (.fld "gates" (.var 0)) (xS G kk i f ws (c++[s]) j (fS (pD s)))=B (.sh,dK (g7 W) (gF W)):=by rw[<- U];show lV (k:=.sh) (n:=0) rfl rfl rfl
   show ko (oO (k:=.sh) (p:=s) rfl Y) (λz=>?_) λz=>fU (aL (cH (aL (.inl #[_,_,.inl rfl,?_,c++[s],j,fS (pD s),rfl,?_,N,O,A,λq hq=>?_,rfl]))))
   .let o:s∈g7 W:=of_decide_eq_true z;let⟨b3,bu⟩:=AZ h o;let P:=cv (k':=.sh) (b:=.lit (.int 1)) (n:=1) (jN (k':=.sh) (b:=.var 5) (p:=s) Y rfl (AU W) o λJ=>rfl) rfl (.inr rfl) rfl (show [iD (tb W s),D.nd (hq s) ((bl W s).map pD)][1]?=B (.nd (hq s) ((bl W s).map pD)) from rfl)
    show vN (AX (ds:=j.map pD) (ys:=(bl W s).map pD) rfl P #[rfl,rfl] (by delta hq;split<;>simp) (by simp;lia) (fU (aL (cH (aL (.inl #[_,_,.inl rfl,?_,c++[s],j++bl W s,fS (pD s),rfl,?_,N,O,λq hq=>?_,λq hq=>?_,?_]))))))
    .rw[Qz];lia
    .rw[Qz];lia
    .obtain z|z:=Qp.mp hq
     .show A q z
     .rwa[(bu q z).1,(Classical.em (q∈kk)).imp id λy=>.step M o z y]
    .obtain z|⟨V,z,H,F⟩:=hq
     .obtain z|z|z:=t q (.inl z)
      .show .inl z
      .show .inr (.inl (QL _ z))
      .obtain z|z:=Qp.mp z
       .show .inr (.inr (QL _ z))
       .show .inr (.inl (Ql _ z))
     .obtain z|z:=Qp.mp z
      .obtain z|z|z:=t q (.inr #[V,z,H,F])
       .show .inl z
       .show .inr (.inl (QL _ z))
       .obtain z|z:=Qp.mp z
        .show .inr (.inr (QL _ z))
        .show .inr (.inl (Ql _ z))
      .rw[Qs.mp z] at F;show .inr (.inr (Ql _ F))
    .delta xS;rw[Qy (l₁:=j)];rfl
   .lia
   .lia
   .let o:s∉g7 W:=of_decide_eq_false z;obtain z|⟨V,z,H,F⟩:=hq
    .obtain z|z|z:=t q (.inl z)
     .show .inl z
     .show .inr (.inl (QL _ z))
     .obtain z|z:=Qp.mp z
      .show .inr (.inr z)
      .show .inr (.inl (Ql _ z))
    .obtain z|z:=Qp.mp z
     .obtain z|z|z:=t q (.inr #[V,z,H,F])
      .show .inl z
      .show .inr (.inl (QL _ z))
      .obtain z|z:=Qp.mp z
       .show .inr (.inr z)
       .show .inr (.inl (Ql _ z))
     .rw[Qs.mp z] at H;show absurd H o
  .show fU (aL (.inl #[_,_,.inl rfl,?_,c,j,fS (pD s),rfl,∅,u,K,A,λq hq=>?_,rfl]))
   .change 4*_+j.length<4*_+(j.length+1)
    lia
   .obtain z|z|z:=t q hq
    .show .inl z
    .show .inr (.inl z)
    .obtain z|z:=Qp.mp z
     .show .inr (.inr z)
     .rw[Qs.mp z];by_cases y:s∈c
      .show .inr (.inl y)
      .by_cases X:s∈kk
       .show .inl X
       .rw[decide_eq_false y,decide_eq_false X] at e;ext e
def hk(i:Nat):Int:=hs2 (sp (i / 20) (i%20))
def Ms:((Qo 60).map hk).Nodup:=by nofun
theorem rm{α:Type}{a:α}:∀{l:List α} {i j:Nat},l.Nodup->l[i]?=B a->l[j]?=B a->i=j
 |[],i,j,_,h,_=>by simp at h
 |b::l,0,0,_,_,_=>rfl
 |b::l,0,j+1,nd,h,h2=>by
  simp at h h2;subst h;show absurd (QD h2) (QK.mp nd).1
 |b::l,i+1,0,nd,h,h2=>by
  simp at h h2;subst h2;show absurd (QD h) (QK.mp nd).1
 |b::l,i+1,j+1,nd,h,h2=>by
  show congrArg (·+1) (rm (QK.mp nd).2 ↥h ↥h2)
def IQ(l:-(Int×Int)):Prop:=∀p∈l,Σw q,w<3/\q<20/\p=sp w q
def Mt{w q:Nat}(h:q<20):hk (w*20+q)=hs2 (sp w q):=by
 let e1:(w*20+q) / 20=w:=∅
 let e2:(w*20+q)%20=q:=∅
 delta hk;rw[e1,e2]
def IU{w q c a:Nat}(h1:w<3)(h2:q<20)(f:c<3)(d:a<20)(e:hs2 (sp w q)=hs2 (sp c a)):sp w q=sp c a:=by
 let b:∀w q:Nat,w<3->q<20->((Qo 60).map hk)[w*20+q]?=B (hs2 (sp w q)):=λw q h1 h2=>by
  rw[Qc,QU ∅,Sy,Mt h2]
 have:=rm Ms (b w q h1 h2) ((b c a f d).trans (congrArg B e.symm));let e1:w=c:=∅
 let e2:q=a:=∅
 rw[e1,e2]
def IV{ks:-(Int×Int)}(f:ks.Nodup)(d:IQ ks):qI (ks.map pk)=Uj:=by
 delta qI;rw[t7];show decide_eq_true (List.pairwise_map.mpr (f.imp_of_mem λ{a b} l c i e=>i ?_));let⟨w,q,k,j,rfl⟩:=d a l;let⟨n,m,g,h,rfl⟩:=d b c;show IU k j g h e
def v7{ks:-(Int×Int)}{vs:-D}(c:ks.Nodup)(a:IQ ks)(d:vs.length<=1000)(b:dZ k vs=Uj):qJ (B (k,dic ks vs))=B (.fr k0,dic ks vs):=by
 change(if dZ k vs=Uj/\qI (ks.map pk)=Uj/\vs.length<=100000 then B (Kd.fr (.own [] .fz),D.nd (.dic (0+1) (ks.map pk)) vs) else L)=_
 rw[if_pos #[b,IV c a,∅]]
def A0{c:Ro->@&Bool}{a:Ro->@&KD}{Q:@&KD->Prop}(h1:sV tg d=B ps)(h2:bW ps Z0=Uj)(h:Wp (c (setAll ps Z0)) λb=>(b=Uj->Wp (a (setAll ps Z0)) λx=>Q (B x))/\(b=Uk->Q L)):Wp (dS tg c a Z0 d) Q:=by
 let⟨b,e,f,g⟩:=h
 cases b with
 |true=>show z7 h1 h2 e (f rfl)
 |false=>rwa[L,by delta dS;rw[h1];cbv;rw[if_pos h2,e],g rfl]
theorem v8{α:Type}{f g:α->D}{P:α->Bool}{d:D->@&(@&KD)}:∀{l:List α},(∀a∈l,Wp (d (f a)) λo=>(P a=Uj->Σc,o=B (c,g a)/\bR r (c,g a)=Uj)/\(P a=Uk->o=L))->Wp (aQ r d (l.map f)) λys=>ys=(l.filter P).map g
 |[],_=>#[[],rfl,rfl]
 |a::l,h=>by
  let⟨ys,e1,rfl⟩:=v8 (l:=l) λx e=>h x (Qh _ e);let⟨o,e2,k,i⟩:=h a Qr
  cases b:P a with
  |true=>
   let⟨c,rfl,j⟩:=k b;rwa[g a::(l.filter P).map g,by simp[aQ,e1,e2,j],by rw[List.filter_cons_of_pos b];rfl]
  |false=>
   obtain rfl:=i b;rwa[(l.filter P).map g,by simp[aQ,e1,e2],#v[List.filter_cons_of_neg (by rw[b];decide)]]
def Mu{α:Type}{l:List α}{f g:α->D}(T:α->Bool)(q:hd=.lst\/hd=.tup)(s:aa Γ a Z=B (k,.nd hd (l.map f)))(i:dZ k (l.map f)=Uj)(n:l.length<=100000)(o:∀d,bW [(1,d)] (aT Z cap)=Uj)(p:∀a∈l,aR Γ t (setAll [(1,f a)] (aT Z cap))=B (T a))(h:∀a∈l,T a=Uj->Wp (aa Γ elt (setAll [(1,f a)] (aT Z cap))) λx=>x.2=g a/\bR r (x.1,g a)=Uj):aa Γ (.comp r cap (.nm 1) (.e a) (.som t) elt) Z=B (.fr (.own [] r),.lst ((l.filter T).map g)):=by
 let b:Wp (aQ r (dS (.nm 1) (eA Γ (.som t)) (aa Γ elt) (aT Z cap)) (l.map f)) λc=>c=(l.filter T).map g:=v8 λx j=>A0 (ps:=[(1,f x)]) rfl (o _) (wv (p x j) #[λe=>(h x j e).mono λy m=>#[λY=>#[y.1,by let⟨u,v⟩:=y;cases m.1;rfl,m.2],λz=>absurd (e.symm.trans z) ⋯],λe=>#[λz=>absurd (z.symm.trans e) ⋯,λY=>rfl]]);show aK (eT (km (wv s ?_)));obtain rfl|rfl:=q
 .show fL i #[by simpa using n,b.mono λc e=>by rw[e]]
 .show tU i #[by simpa using n,b.mono λc e=>by rw[e]]
abbrev dN(ks:-(Int×Int))(F:Int×Int->Nat):D:=dK ks λq=>iD (F q)
abbrev Mv(G:D)(kd:D)(wd d3:D)(fd:D)(x5 O U R:@&Sl):Ro:=[fS G,fS kd,fS wd,fS d3,bw fd,x5,O,U,R]
def t8{kk:-(Int×Int)}(a:kk.Nodup)(c:IQ kk)(b:kk.length<=1000)(h:Wp (ao Γ_14 1000 (aH JF 1) [] (Mv (bG W) (dN kk F0) wd d3 (dN kk F0) L L L L)) λr=>Wp (eD (B r)) λx=>x=q):Ax [bG W,dN kk F0,wd,d3]=B q:=by
 unfold Ax xo;rw[if_pos (show Jv (mC "Ground.reckoned") (mM "Ground.reckoned") [bG W,dN kk F0,wd,d3]=Uj from(show(decide (("Ground":Str)=mC "Ground.reckoned")&&!fl3.contains (mM "Ground.reckoned"))=Uj by nofun))];delta jG;rw[if_pos (by rfl)];change eD (xx [fS (bG W),fS (dN kk F0),fS wd,fS d3,L,L,L,L,L])=_;let⟨r,e,x,e2,rfl⟩:=h
 let d:xx [fS (bG W),fS (dN kk F0),fS wd,fS d3,L,L,L,L,L]=B r:=by
  delta xx;change cq (fv [] 4 (xr (qJ (B (.sh,dN kk F0))) [fS (bG W),fS (dN kk F0),fS wd,fS d3,L,L,L,L,L])) _=_;rw[v7 a c (by rw[Qa];show b) rfl];show e
 rw[d,e2]
def tv(t:Nat)(cols:-Nat)(n:Nat):Nat:=match ψ8 [iD t,.lst (cols.map iD),iD (Wh n)] with|some (_,.int z)=>z.toNat|_=>0
def Mw(t:Nat){cols:-Nat}{n:Nat}(b:n<=8)(a:cols.length<=3):ψ8 [iD t,.lst (cols.map iD),iD (Wh n)]=B (.sh,iD (tv t cols n)):=by
 let⟨y,e,z_⟩:=vX t (n:=n) b a;delta tv;rw[e];rfl
def t9(t:Nat){cols:-Nat}{n b:Nat}(a:n<=8)(c:cols.length<=3)(d:b<2^n):(tv t cols n).testBit b=t.testBit (DZ cols b):=by
 let⟨y,e,f⟩:=vX t (n:=n) a c;delta tv;rw[e];show f b d
def A1{r:-(Int×Int)}{i:Nat}{s q:Int×Int}(d:r.Pairwise λa b=>fP a b=Uj)(c:r[i]?=B s)(hq:q∈r)(g:oJ q<oJ s):q∈r.take i:=by
 let f:=(Qb.mp c).1
 let e:r=r.take i++s::r.drop (i+1):=by
  rw[<- Qb.mp c |>.2,<- QW f,Sn]
 rw[e] at hq d;obtain z|z:=Qp.mp hq
 .show z
 .obtain z|z:=Qf.mp z
  .rw[z] at g
   lia
  .have:=(List.pairwise_cons.mp (List.pairwise_append.mp d).2.1).1 q z;have:oJ s<=oJ q:=of_decide_eq_true this
   lia
inductive Kn (W:Wd) (kk ws:-(Int×Int)):Int×Int->Prop where
 |old {q:Int×Int}:q∈kk->Kn W kk ws q
 |new {q:Int×Int}:Cn W kk ws q->q∈g7 W->(∀s∈bl W q,Kn W kk ws s)->Kn W kk ws q
def Kn.inv{kk ws:-(Int×Int)}(h:Kn W kk ws q)(n:q∉kk):Cn W kk ws q/\q∈g7 W/\∀s∈bl W q,Kn W kk ws s:=by
 cases h with
 |old z=>show absurd z n
 |new a b c=>rwa[a,b,c]
structure rn(W:Wd)(kk:-(Int×Int))(F0:Int×Int->Nat)(ws:-(Int×Int))(n:Nat)(fk:-(Int×Int))(F:Int×Int->Nat):Prop where
 nd:fk.Nodup
 mem:∀q,q∈fk↔Kn W kk ws q
 old:∀q∈kk,F q=F0 q
 new:∀q∈fk,q∉kk->F q=tv (tb W q) ((bl W q).map F) n
 len:fk.length<=kk.length+42
def iU(hd:Hd)(hh:hd=.lst\/hd=.tup)(h:my W){kk ws:-(Int×Int)}{n:Nat}(t:Int×Int->Nat)(hg:n<=8)(hn:kk.Nodup)(hb:IQ kk)(hl:kk.length<=100)(hw:∀q∈ws,q∈uL W)(lw:ws.length<=40) :
  Σm F,Ax [bG W,dN kk t,.nd hd (ws.map pD),iD (Wh n)]=B (.fr k0,dN m F)/\rn W kk t ws n m F:=by
 let⟨r,ht,R,rl,ru⟩:=jO hd hh h (kk:=kk) (ws:=ws) (kk.map λq=>iD (t q)) hw lw
 suffices w:Wp (ao Γ_14 1000 (aH JF 1) [] (Mv (bG W) (dN kk t) (.nd hd (ws.map pD)) (iD (Wh n)) (dN kk t) L L L L)) λx=>Σm F,rn W kk t ws n m F/\Wp (eD (B x)) λx=>x=(.fr k0,dN m F) by
  let⟨x,e,m,F,h1,h2⟩:=w;rwa[m,F,t8 hn hb ∅ #[x,e,h2],h1]
 unfold JF aH aH;generalize hu:D.nd hd (ws.map pD)=wd at *
 show gG (ff (km (wv (bd (U:=Iv) (ds:=[bG W,dN kk t,wd]) rfl (e3 (p:=(.sh,bG W)) (q:=(.sh,dN kk t)) (u:=(.sh,wd)) rfl rfl rfl) rfl rfl ht rfl) (fL rfl #[λi Z=>i<=r.length/\Σm F x5 N Q P,Z=Mv (bG W) (dN kk t) wd (iD (Wh n)) (dN m F) x5 N Q P/\m.Nodup/\(∀q,q∈m↔q∈kk\/q∈r.take i/\Kn W kk ws q)/\(∀q∈kk,F q=t q)/\(∀q∈m,q∉kk->F q=tv (tb W q) ((bl W q).map F) n)/\m.length<=kk.length+i,#[QM _,kk,t,L,L,L,L,rfl,hn,(λq=>by rw[Tl];rwa[.inl,λz=>z.elim id λy=>nomatch y.1]),(λJ J=>rfl),(λq a b=>absurd a b),Qe _],λi d Z o hI=>?_,λZ hI=>?_]))))
 .let⟨z_,m,F,x5,N,Q,P,rfl,A,C,f1,f2,fl⟩:=hI;let o:(r.map pD)[i]?=B d:=o;rw[Qc] at o
  cases e:r[i]? with
  |none=>rw[e] at o;ext o
  |some s=>
   rw[e] at o;ext o;let hi:=(Qb.mp e).1;let O:=(R.mem s).mp (QD e);let tk:=dH e
   let nr:s∉r.take i:=λz=>by
    let T:=R.nd.sublist (SV (i+1) _);rw[tk] at T;show(Q0.mp T).2.2 s z s ∎ rfl
   let M:s∉m:=λz=>((C s).mp z).elim O.no λy=>nr y.1;let lk:m.length<=200:=∅
   let H:¬Kn W kk ws s->∀q,q∈m↔q∈kk\/q∈r.take (i+1)/\Kn W kk ws q:=λI q=>by
    rw[C,tk,Qp,Qs];rwa[λz=>z.imp id λy=>#[.inl y.1,y.2],λz=>z.imp id λ⟨y,y2⟩=>#[y.elim id λe=>absurd (e▸y2) I,y2]]
   rwa[[(5,pD s)],rfl,rfl,?_];change Wp (ao _ _ _ [] (Mv (bG W) (dN kk t) wd (iD (Wh n)) (dN m F) (fS (pD s)) N Q P)) _;let hc:∀{fd:D} {x5 N Q P:@&Sl},aa Γ_14.fn (.fld "gates" (.var 0)) (Mv (bG W) (dN kk t) wd (iD (Wh n)) fd x5 N Q P)=B (.sh,dK (g7 W) (gF W)):=lV (k:=.sh) (n:=0) rfl rfl rfl;show ko (oO (k:=.sh) (p:=s) rfl hc) (λz=>?_) λz=>fU (aL #[_,.inl rfl,∅,m,F,_,_,_,_,rfl,A,H λy=>of_decide_eq_false z (y.inv O.no).2.1,f1,f2,∅]);let E:s∈g7 W:=of_decide_eq_true z;let⟨b3,bu⟩:=AZ h E
   let X:∀q∈bl W s,(q∈m↔Kn W kk ws q):=λq hq=>by
    rw[C];rwa[λz=>z.elim .old And.right,λz=>?_];by_cases y:q∈kk
    .show .inl y
    .show .inr #[A1 R.pw e ((R.mem q).mpr (.step O E hq y)) (bu q hq).2,z]
   show dQ (ds:=[iD (tb W s),.nd (hq s) ((bl W s).map pD)]) (jN (k':=.sh) (b:=.var 5) (p:=s) hc rfl (AU W) E λJ=>rfl) #[rfl,rfl] ?_
   let S:hq s=.lst\/hq s=.tup:=by delta hq;split<;>simp
   show aJ (Mu (k:=.sh) (hd:=hq s) (l:=bl W s) (f:=pD) (g:=λq=>iD (F q)) (λq=>decide (q∈m)) S rfl rfl ∅ (λJ=>rfl) (λq hq=>oO (k:=.sh) (k':=.bo 2 k0) (p:=q) (ks:=m) rfl rfl) λq hq hT=>wv (jN (k:=.bo 2 k0) (k':=.sh) (p:=q) (ks:=m) (V:=λq=>iD (F q)) rfl rfl A (of_decide_eq_true hT) λJ=>rfl) #[rfl,rfl]) rfl ⋯ ?_;show ko (z:=decide ((((bl W s).filter λq=>decide (q∈m)).length:Int)=((bl W s).length:Int))) (t5 (k:=.sh) (k':=.sh) (cg (l:=(bl W s).filter λq=>decide (q∈m)) (f:=λq=>iD (F q)) (hd:=.lst) (k:=.bo 8 k0) rfl (.inl rfl)) (cg (l:=bl W s) (f:=pD) (hd:=hq s) (k:=.sh) rfl S)) (λz=>?_) λz=>fU (aL (cH (aL #[_,.inl rfl,∅,m,F,_,_,_,_,rfl,A,H λy=>?_,f1,f2,∅])))
   .let ha:∀q∈bl W s,q∈m:=λq hq=>of_decide_eq_true ((List.length_filter_eq_length_iff (p:=λq=>decide (q∈m))).mp (by have:=of_decide_eq_true z;lia) q hq);let he:(bl W s).filter (λq=>decide (q∈m))=bl W s:=Tx.mpr λq hq=>decide_eq_true (ha q hq);let hf:Kn W kk ws s:=.new O E λq hq=>(X q hq).mp (ha q hq);let hv:=Mw (tb W s) (cols:=(bl W s).map F) hg (by rw[Qa];show b3);rw[QA] at hv;rw[he];generalize ho:tv (tb W s) ((bl W s).map F) n=v at hv;show q0 (p:=s) (x:=(.sh,iD v)) (y:=(.sh,pD s)) rfl (gH (U:=ψ8) (p:=(.sh,iD v)) (ds:=[iD (tb W s),.lst ((bl W s).map λq=>iD (F q)),iD (Wh n)]) rfl (e3 (p:=(.sh,iD (tb W s))) (q:=(.bo 8 k0,.lst ((bl W s).map λq=>iD (F q)))) (u:=(.sh,iD (Wh n))) rfl rfl rfl) rfl rfl hv rfl) rfl rfl M (by rw[Qa];lia) rfl ?_;let ne:∀q∈m,¬q=s:=λq hq z=>M (z▸hq)
    let nb:∀q∈m,q∉kk->∀p∈bl W q,p∈m:=λq hq I p K=>by
     let⟨a,b,c⟩:=(((C q).mp hq).elim (λy=>absurd y I) And.right:Kn W kk ws q).inv I;let hr:=(((C q).mp hq).elim (λy=>absurd y I) And.left:q∈r.take i);let⟨j,hj⟩:=RX.mp hr
     let Y:j<i:=by
      have:=(Qb.mp hj).1;rw[QO] at this
      lia
     rw[SX Y] at hj;by_cases y:p∈kk
     .show(C p).mpr (.inl y)
     .show(C p).mpr (.inr #[(List.take_subset_take_left r (Rt Y)) (A1 R.pw hj ((R.mem p).mpr (.step a b K y)) ((AZ h b).2 p K).2),c p K])
    show aL (cH (aL (cH (aL #[_,.inl rfl,∅,m++[s],λq=>if q=s then v else F q,fS (pD s),fS (iD (tb W s)),fS (.nd (hq s) ((bl W s).map pD)),bw (.lst ((bl W s).map λq=>iD (F q))),?_,Q0.mpr #[A,∎,λa ha b hb y=>M (by rw[<- Qs.mp hb,<- y];show ha)],λq=>?_,λq hq=>?_,λq hq I=>?_,by rw[Qz,Rv];lia]))))
    .unfold dN dK
     rw[Qy (l₁:=m) (f:=λq=>iD (if q=s then v else F q)),TK,if_pos rfl,Ra (l:=m) (f:=λq=>iD (if q=s then v else F q)) (g:=λq=>iD (F q)) λq hq=>by rw[if_neg (ne q hq)]]
     rfl
    .rw[Qp,Qs,C,tk,Qp,Qs];rwa[λz=>z.elim (λz=>z.imp id λy=>#[.inl y.1,y.2]) λe=>.inr #[.inr e,e▸hf],λz=>z.elim (λy=>.inl (.inl y)) λ⟨y,y2⟩=>y.elim (λy=>.inl (.inr #[y,y2])) .inr]
    .change(if q=s then v else F q)=_
     rw[if_neg λy:q=s=>O.no (y▸hq)];show f1 q hq
    .change(if q=s then v else F q)=_
     obtain y|y:=Qp.mp hq
     .rw[if_neg (ne q y),f2 q y I];congr 1;show Ra λp K=>(if_neg (ne p (nb q y I p K))).symm
     .rw[Qs.mp y,if_pos rfl,<- ho];congr 1;show Ra λp K=>(if_neg (ne p (ha p K))).symm
   .show absurd z ?_;rw[decide_eq_true]
    .decide
    .rw[Tx.mpr λq hq=>decide_eq_true ((X q hq).mpr ((y.inv O.no).2.2 q hq))]
 .let⟨z_,m,F,x5,N,Q,P,rfl,A,C,f1,f2,fl⟩:=hI;rw[show(r.map pD).length=r.length from Qa _,QQ] at C;rw[show(r.map pD).length=r.length from Qa _] at fl;show fN (gE rfl #[rfl,m,F,#[A,λq=>(C q).trans #[λz=>z.elim .old And.right,λz=>?_],f1,f2,∅],eG rfl rfl]);by_cases y:q∈kk
  .show .inl y
  .show .inr #[(R.mem q).mpr (z.inv y).1,z]
def all_map{α:Type}(l:List α)(t:α->Bool):(l.map λa=>D.bl (t a))=((l.map t).map D.bl):=by rw[QA];rfl
def rq{α:Type}{l:List α}{f:α->D}(t:α->Bool)(c:hd=.lst\/hd=.tup)(n:aa Γ a Z=B (k,.nd hd (l.map f)))(i:dZ k (l.map f)=Uj)(j:l.length<=100000)(b:∀d,bW [(1,d)] (aT Z cap)=Uj)(h:∀a∈l,aa Γ elt (setAll [(1,f a)] (aT Z cap))=B (.sh,.bl (t a))):aa Γ (.blt "all" (.cons (.comp .fz cap (.nm 1) (.e a) .non elt) .nil)) Z=B (.sh,.bl (l.all t)):=by
 have:=qW (r:=.fz) (tg:=.nm 1) (elt:=elt) (cap:=cap) (g:=λa=>D.bl (t a)) c n i j λx m=>xR (b _) (wv (h x m) #[.sh,rfl,rfl]);rw[all_map] at this;have:=AA this;rw[TL] at this;show this
theorem A2(b:p∈uL W)(hq:q∈uL W):∀x∈[p,q],x∈uL W:=λx a=>by
 dsimp[Qf,Qw,or_false] at a;obtain rfl|rfl:=a
 .show b
 .show hq
def D6(h:my W){t:St}(g:t.p∈uL W)(hq:t.q∈uL W)(b:∀x,Cn W [] [t.p,t.q] x->x∈g7 W\/x∈fq W):Iw [bG W,cj t]=B (.sh,.bl Uj):=by
 let⟨r,a,R,j,z_⟩:=jO .tup (.inr rfl) h (kk:=[]) (ws:=[t.p,t.q]) [] (A2 g hq) ∎;delta Iw;show eJ rfl ?_;delta Ov;erw[fS (bG W),fS (cj t)];show bN (rq (l:=r) (f:=pD) (k:=.fr k0) (hd:=.lst) (λx=>decide (x∈g7 W)||decide (x∈fq W)) (.inl rfl) (bd (U:=Iv) (ds:=[bG W,dic [] [],.tup ([t.p,t.q].map pD)]) rfl (e3 (p:=(.sh,bG W)) (q:=(.fr k0,dic [] [])) (u:=(.sh,.tup ([t.p,t.q].map pD))) rfl rfl (AK (n:=2) (xs:=[pD t.p,pD t.q,gf t.fr,bX t.gv]) rfl ∎)) rfl rfl a rfl) rfl ∅ (λZ=>rfl) λs m=>?_) rfl (eK rfl ?_)
 .let c:aa Γ_33.fn (.fld "gates" (.var 2)) (setAll [(1,pD s)] (aT [fS (bG W),fS (cj t)] [L,L,B 0]))=B (.sh,dK (g7 W) (gF W)):=lV (k:=.sh) (n:=0) rfl rfl rfl;let i:aa Γ_33.fn (.fld "begins" (.var 2)) (setAll [(1,pD s)] (aT [fS (bG W),fS (cj t)] [L,L,B 0]))=B (.sh,dN (fq W) (bF W)):=lV (k:=.sh) (n:=1) rfl rfl rfl;show DS (k:=.sh) (gJ (oO (k:=.sh) (p:=s) rfl c)) λZ=>fj (gJ (oO (k:=.sh) (p:=s) rfl i))
 .let e:(r.all λx=>decide (x∈g7 W)||decide (x∈fq W))=Uj:=QB.mpr λx d=>by
   obtain z|z:=b x ((R.mem x).mp d)
   .rw[decide_eq_true z];rfl
   .rw[decide_eq_true z,S5]
  rw[e];rfl
theorem v9(h:my W):IQ (fq W):=λp a=>by
 let b:=h.c.bi;let f:=h.c.bm;let d:=h.c'.bi;let e:=h.c'.bm;unfold fq at a
 obtain z|z:=Qp.mp a<;>let⟨k,b,rfl⟩:=mK_mem.mp z
 .rwa[0,W.c.ins+k,⋯,∅,rfl]
 .rwa[1,W.c'.ins+k,⋯,∅,rfl]
def wa(h:my W):(fq W).length<=16:=by
 let b:=h.c.bm;let a:=h.c'.bm;unfold fq mK;simp
 lia
def A3{W:Wd}(h:my W){t:St}(e:t.p∈uL W)(hq:t.q∈uL W)(b:Kn W (fq W) [t.p,t.q] t.p)(c:Kn W (fq W) [t.p,t.q] t.q):Σfk F,rn W (fq W) (bF W) [t.p,t.q] 0 fk F/\BE [bG W,cj t]=B (.sh,.bl (decide (F t.p=F t.q))):=by
 let g:=wa h;let⟨fk,F,f,R⟩:=iU .tup (.inr rfl) h (kk:=fq W) (ws:=[t.p,t.q]) (n:=0) (bF W) ⋯ (AV W) (v9 h) ∅ (A2 e hq) ∎;rwa[fk,F,R,?_];delta BE;show eJ rfl ?_;delta Ox;erw[fS (bG W),fS (cj t),L];show aJ (bd (U:=Ax) (ds:=[bG W,dN (fq W) (bF W),.tup ([t.p,t.q].map pD),iD (Wh 0)]) rfl (e4 (p:=(.sh,bG W)) (q:=(.sh,dN (fq W) (bF W))) (u:=(.sh,.tup ([t.p,t.q].map pD))) (t:=(.sh,iD (Wh 0))) rfl (lV (k:=.sh) (n:=1) rfl rfl rfl) (AK (n:=2) (xs:=[pD t.p,pD t.q,gf t.fr,bX t.gv]) rfl ∎) rfl) rfl rfl f rfl) rfl ⋯ ?_;let a:∀(n:Nat) d,[pD t.p,pD t.q,gf t.fr,bX t.gv][n]?=B d->aa Γ_34.fn (.ix (.var 1) (.lit (.int (n:Int)))) [fS (bG W),fS (cj t),bw (dN fk F)]=B (.sh,d):=λn d h=>cv (k:=.sh) (k':=.sh) (n:=n) rfl rfl (.inr rfl) rfl h;show bN (gJ (t5 (jN (k:=.bo 2 k0) (k':=.sh) (p:=t.p) (ks:=fk) (V:=λq=>iD (F q)) rfl (a 0 _ rfl) R.nd ((R.mem _).mpr b) λZ=>rfl) (jN (k:=.bo 2 k0) (k':=.sh) (p:=t.q) (ks:=fk) (V:=λq=>iD (F q)) rfl (a 1 _ rfl) R.nd ((R.mem _).mpr c) λZ=>rfl))) rfl (eK rfl (q8 Tb))
abbrev P2:=(Int×Int)×(Int×Int)
abbrev de(x:P2):D:=.tup ([x.1,x.2].map pD)
abbrev bP(SL:-P2):D:=.lst (SL.map de)
meta def mz(SL:-P2):Fr->-(Int×Int)
 |.inl n=>match SL[n]? with|some x=>[x.1,x.2]|none=>[]
 |.inr s=>[s]
def lX{SL:-P2}{n:Nat}{x:P2}(e:SL[n]?=B x):mz SL (.inl n)=[x.1,x.2]:=by
 change(match SL[n]? with|some x=>[x.1,x.2]|none=>[])=_
 rw[e]
abbrev FS:=-(Int×Int)×(Int×Int->Nat)×Nat
meta def up(F:Int×Int->Nat)(s:Int×Int)(v:Nat):Int×Int->Nat:=λq=>if q=s then v else F q
def bz(w col:Nat)(z:FS)(s:Int×Int):FS:=if s∈z.1 then(z.1,z.2.1,z.2.2 &&& (w ^^^ z.2.1 s ^^^ col)) else(z.1++[s],up z.2.1 s col,z.2.2)
def cu(SL:-P2)(n:Nat)(l:-Fr):FS:=l.zipIdx.foldl (λz x=>(mz SL x.1).foldl (bz (Wh n) (cx x.2 n)) z) ([],λZ=>0,Wh n)
def xJ(SL:-P2)(n:Nat)(l:-Fr)(x:Fr):cu SL n (l++[x])=(mz SL x).foldl (bz (Wh n) (cx l.length n)) (cu SL n l):=by
 delta cu;rw[List.zipIdx_append,Rz,List.zipIdx_singleton,Sz];rfl
def xK(z:FS)(l:-(Int×Int))(s:Int×Int):(l++[s]).foldl (bz w col) z=bz w col (l.foldl (bz w col) z) s:=by rw[Rz];rfl
def FA{ks:-(Int×Int)}{F:Int×Int->Nat}{s:Int×Int}(h:s∉ks):dN (ks++[s]) (up F s v)=dic (ks++[s]) ((ks.map λq=>iD (F q))++[iD v]):=by
 unfold dN dK;rw[Qy (l₁:=ks) (f:=λq=>iD (up F s v q)),TK,show up F s v s=v from if_pos rfl,Ra (l:=ks) (f:=λq=>iD (up F s v q)) (g:=λq=>iD (F q)) λq hq=>congrArg iD (show up F s v q=F q from if_neg λz:q=s=>h (z▸hq))]
abbrev P0(S fd:D)(n:Nat)(kd:D)(kp:Nat)(x5 R x7 U O:@&Sl):Ro:=[fS S,fS fd,fS (iD (Wh n)),bw kd,fS (iD kp),x5,R,x7,U,O]
abbrev RZ(S fd:D)(n:Nat)(z:FS)(x5 R x7 U O:@&Sl):Ro:=P0 S fd n (dN z.1 z.2.1) z.2.2 x5 R x7 U O
def D7{w col m:Nat}{z:FS}(c:z.1.Nodup)(g:z.1.length<=m):(bz w col z s).1.Nodup/\(bz w col z s).1.length<=m+1:=by
 delta bz;split
 .rwa[c,by cbv;lia]
 .ext1 d;rwa[Q0.mpr #[c,∎,λa f b e y=>d (by rw[<- Qs.mp e,<- y];show f)],by simp;lia]
def wb(SL:-P2)(x:Fr):(mz SL x).length<=2:=by
 delta mz;split
 .split<;>simp
 .simp
def A4{SL:-P2}{fr:-Fr}(M:fr.length<=8)(O:∀x∈fr,match x with|.inl n=>n<SL.length|.inr _=>True) :
  Ix [bP SL,gf fr]=B (.sh,.tup [dN (cu SL fr.length fr).1 (cu SL fr.length fr).2.1,iD (cu SL fr.length fr).2.2])/\(cu SL fr.length fr).1.Nodup/\(cu SL fr.length fr).1.length<=16:=by
 suffices h:Wp (Ix [bP SL,gf fr]) λr=>r=(.sh,.tup [dN (cu SL fr.length fr).1 (cu SL fr.length fr).2.1,iD (cu SL fr.length fr).2.2])/\(cu SL fr.length fr).1.Nodup/\(cu SL fr.length fr).1.length<=16 by
  let⟨r,e,rfl,t⟩:=h;rwa[e,t]
 delta Ix;show qG rfl ?_;delta OC;erw[fS (bP SL),fS (gf fr),L,L,L,L,L,L,L,L];let v:∀{W T P A o C u g:@&Sl},aa Γ_15.fn (.blt "len" (.cons (.var 1) .nil)) [fS (bP SL),fS (gf fr),W,T,P,A,o,C,u,g]=B (.sh,iD fr.length):=cg (l:=fr) (f:=it) (k:=.sh) rfl (.inl rfl);show aJ (bd (U:=ψ6) (ds:=[iD fr.length]) rfl (e1 v) rfl rfl (jM M) rfl) rfl ⋯ ?_;show aJ (x:=(.fr k0,dic [] [])) rfl rfl ⋯ ?_;show aJ (x:=(.sh,iD (Wh fr.length))) rfl rfl ⋯ ?_;change Wp (ao _ _ _ _ (RZ (bP SL) (gf fr) fr.length ([],λJ=>0,Wh fr.length) L L L L L)) _;show v4 (l:=fr) (f:=it) rfl (λs Z=>ΣA o C u g,Z=RZ (bP SL) (gf fr) fr.length (cu SL fr.length (fr.take s)) A o C u g/\(cu SL fr.length (fr.take s)).1.Nodup/\(cu SL fr.length (fr.take s)).1.length<=2*s) #[L,L,L,L,L,rfl,.nil,Qe _] (λs x Z H j=>?_) λZ j=>?_
 .let⟨A,o,C,u,g,rfl,F,m⟩:=j;let E:=(Qb.mp H).1;let R:=wb SL x;rw[dH H,xJ,QO,SA (Rt E)];generalize cu SL fr.length (fr.take s)=z at *;rwa[[(5,iD s),(6,it x)],rfl,rfl,?_];change Wp (ao _ _ _ _ (RZ (bP SL) (gf fr) fr.length z (fS (iD s)) (fS (it x)) L L L)) _;show aJ (bd (U:=ψ7) (ds:=[iD s,iD fr.length]) rfl (e2 (p:=(.sh,iD s)) rfl v) rfl rfl (xF M E) rfl) rfl ⋯ ?_;show aJ (x:=(.sh,.tup ((mz SL x).map pD))) ?_ rfl ⋯ ?_
  .let I:=O x (QD H)
   cases x with
   |inl n=>
    let Q:n<SL.length:=I;let e:SL[n]?=B SL[n]:=Qi Q;show Ff (x:=Uj) (qU (k:=.sh) (bd (U:=ψ0) (ds:=[iD n]) rfl (e1 (p:=(.sh,iD n)) rfl) rfl rfl (q9 _) rfl)) (λJ=>(cv (k:=.sh) (k':=.sh) (n:=n) (hd:=.lst) (xs:=SL.map de) rfl rfl (.inl rfl) rfl (by rw[Qc,e];rfl)).trans (by rw[lX e];rfl)) λe=>by ext e
   |inr q=>show Ff (x:=Uk) (qU (k:=.sh) (bd (U:=ψ0) (ds:=[pD q]) rfl (e1 (p:=(.sh,pD q)) rfl) rfl rfl (rc _) rfl)) (λe=>by ext e) λJ=>iT (kds:=[(.sh,pD q)]) (e1 rfl) #[rfl,∎]
  generalize it x=tp;generalize gf fr=fd;generalize bP SL=S;generalize cx s fr.length=col;generalize mz SL x=ts at *;change Wp (ao _ _ _ _ (RZ S fd fr.length z (fS (iD s)) (fS tp) (fS (iD col)) (fS (.tup (ts.map pD))) L)) _;show gG (ff (km (a7 rfl (tU rfl #[λi Z=>i<=ts.length/\Σg,Z=RZ S fd fr.length ((ts.take i).foldl (bz (Wh fr.length) col) z) (fS (iD s)) (fS tp) (fS (iD col)) (fS (.tup (ts.map pD))) g/\((ts.take i).foldl (bz (Wh fr.length) col) z).1.Nodup/\((ts.take i).foldl (bz (Wh fr.length) col) z).1.length<=2*s+i,#[QM _,L,rfl,F,m],λi d Z hd j=>?_,λZ j=>?_]))))
  .let⟨z_,g,rfl,a,b⟩:=j;let hd:(ts.map pD)[i]?=B d:=hd;rw[Qc] at hd
   cases e:ts[i]? with
   |none=>rw[e] at hd;ext hd
   |some q=>
    rw[e] at hd;ext hd;let K:=(Qb.mp e).1;cbv;rw[dH e,xK];generalize (ts.take i).foldl (bz (Wh fr.length) col) z=z' at *;let⟨N,Y⟩:=D7 (w:=Wh fr.length) (col:=col) (s:=q) a b;rwa[[(9,pD q)],rfl,rfl,?_];change Wp (ao _ _ _ [] (RZ S fd fr.length z' (fS (iD s)) (fS tp) (fS (iD col)) (fS (.tup (ts.map pD))) (fS (pD q)))) _;show ko (oO (k:=.sh) (k':=.bo 3 k0) (p:=q) (ks:=z'.1) rfl rfl) (λc=>?_) λc=>?_
    .let c:=of_decide_eq_true c;show E1 rfl (eE (aU (aU (a7 rfl (wv (jN (k:=.bo 3 k0) (k':=.sh) (p:=q) (ks:=z'.1) (V:=λq=>iD (z'.2.1 q)) rfl rfl a c λJ=>rfl) (eU (a7 rfl (eU #[by decide,#[iD (z'.2.2 &&& (Wh fr.length ^^^ z'.2.1 q ^^^ col)),?_,aL (cH (aL #[_,.inl rfl,K,fS (pD q),?_,N,∅]))]]))))))))
     .change B (D.int _)=B (D.int _);rw[kQ]
     .let X:bz (Wh fr.length) col z' q=(z'.1,z'.2.1,z'.2.2 &&& (Wh fr.length ^^^ z'.2.1 q ^^^ col)):=if_pos c;rw[X];rfl
    .let c:=of_decide_eq_false c;show q0 (p:=q) (x:=(.sh,iD col)) (y:=(.sh,pD q)) rfl rfl rfl rfl c (by rw[Qa];lia) rfl ?_;show aL (cH (aL #[_,.inl rfl,K,fS (pD q),?_,N,∅]));delta bz;rw[if_neg c];delta RZ;rw[FA c];rfl
  .let⟨z_,g,rfl,a,b⟩:=j;rw[show(ts.map pD).length=ts.length from Qa _,QQ] at a b⊢;show aL #[_,.inl rfl,_,_,_,_,_,rfl,a,∅]
 .let⟨A,o,C,u,g,rfl,F,m⟩:=j;rw[QQ] at F m⊢;show fN (lP (jH (gE rfl (wv (e1 (p:=(.sh,iD (cu SL fr.length fr).2.2)) rfl) (jK rfl #[rfl,_,rfl,rfl,F,∅])))))
def fX(W:Wd)(bk:-(Int×Int))(SL:-P2)(Ds:-P2)(n:Nat):-P2:=match SL[n]? with
 |some x=>if x.2∉bk/\x.2∉g7 W/\x.2∉Ds.map (·.1) then Ds++[(x.2,x.1)] else Ds
 |none=>Ds
def eV(W:Wd)(bk:-(Int×Int))(SL:-P2)(gv:-Nat):-P2:=gv.foldl (fX W bk SL) []
abbrev KF:=-(Int×Int)×(Int×Int->Nat)
def iY(ak:-(Int×Int))(AF:Int×Int->Nat)(z:KF)(p:P2):KF:=if p.2∈ak then(z.1++[p.1],up z.2 p.1 (AF p.2)) else z
structure rz(W:Wd)(bk:-(Int×Int))(D:-P2)(m:Nat):Prop where
 nd:(D.map (·.1)).Nodup
 le:D.length<=m
 a:∀p∈D,p.1∉bk/\p.1∈uL W/\p.2∈uL W
set_option tactic.hygienic true in
def IW{SL D:-P2}{m n:Nat}(d:∀x∈SL,x.1∈uL W/\x.2∈uL W)(h:rz W bk D m):rz W bk (fX W bk SL D n) (m+1):=by
 delta fX;split
 .ext1 x e;split
  .ext1 c;rwa[?_,by rw[Qz];have:=h.le;show TY this,λp f=>?_]
   .rw[Qy];show Q0.mpr #[h.nd,∎,λa i b g y=>c.2.2 (by rw[<- show b=x.2 by simpa using g,<- y];show i)]
   .obtain z|z:=Qp.mp f
    .show h.a p z
    .rw[Qs.mp z];have:=d x (QD e);rwa[c.1,this.2,this.1]
  .rwa[h.nd,RQ h.le,h.a]
 .rwa[h.nd,RQ h.le,h.a]
theorem jP(F:Int×Int->Nat):∀ks:-(Int×Int),gQ (ks.map λq=>iD (F q)) [] .fz=Uj
 |[]=>rfl
 |q::ks=>by
  change(Uj&&gQ (ks.map λq=>iD (F q)) [] .fz)=Uj;rw[jP F ks];rfl
abbrev oR(Ds:-P2):D:=dic (Ds.map (·.1)) (Ds.map λp=>pD p.2)
abbrev l7(G S gd kd wd:D)(x5 U x7 x8 R O:@&Sl):Ro:=[fS G,fS S,fS gd,fS kd,fS wd,x5,U,x7,x8,R,O]
def D8(Ds:-P2):qP ((Ds.map (·.1)).map pk) (Ds.map λp=>pD p.2)=Ds.map λp=>D.tup [pD p.1,pD p.2]:=by
 delta qP;rw[QA,Uf,List.zipWith_self];rfl
structure P1(W:Wd)(bk:-(Int×Int))(z:KF):Prop where
 nd:z.1.Nodup
 bx:IQ z.1
theorem FB(h:my W){l:-(Int×Int)}(c:∀q∈l,q∈uL W):IQ l:=λq hq=>by
 let⟨w,p,a,b,e⟩:=uL_mem.mp (c q hq);rwa[w,p,a,Fz h a b,e]
def xL(h:my W){SL:-P2}{gv:-Nat}{bk:-(Int×Int)}{n:Nat}(c:Int×Int->Nat)(S:n<=8)(Q:bk.Nodup)(K:∀q∈bk,q∈uL W)(hl:bk.length<=16)(hg:gv.length<=8)(Y:∀g∈gv,g<SL.length)(hu:∀x∈SL,x.1∈uL W/\x.2∈uL W) :
  Σm j,rn W bk c ((eV W bk SL gv).map (·.2)) n m j/\JH [bG W,bP SL,bX gv,dN bk c,iD (Wh n)]=B (.fr k0,dN ((eV W bk SL gv).foldl (iY m j) (bk,c)).1 ((eV W bk SL gv).foldl (iY m j) (bk,c)).2)/\((eV W bk SL gv).foldl (iY m j) (bk,c)).1.Nodup/\((eV W bk SL gv).foldl (iY m j) (bk,c)).1.length<=24/\∀q∈((eV W bk SL gv).foldl (iY m j) (bk,c)).1,q∈uL W:=by
 let O:=FB h K;let N:∀(l:-Nat) (g:Nat),eV W bk SL (l++[g])=fX W bk SL (eV W bk SL l) g:=λl g=>by delta eV;rw[Rz];rfl
 let I:Σu s o,ao Γ_19 1000 (aY Fa 2) [] (l7 (bG W) (bP SL) (bX gv) (dN bk c) (iD (Wh n)) L L L L L L)=B (.nx (l7 (bG W) (bP SL) (bX gv) (dN bk c) (iD (Wh n)) (bw (oR (eV W bk SL gv))) u s o L L))/\rz W bk (eV W bk SL gv) gv.length:=by
  suffices w:Wp (ao Γ_19 1000 (aY Fa 2) [] (l7 (bG W) (bP SL) (bX gv) (dN bk c) (iD (Wh n)) L L L L L L)) λr=>Σu s o,r=.nx (l7 (bG W) (bP SL) (bX gv) (dN bk c) (iD (Wh n)) (bw (oR (eV W bk SL gv))) u s o L L)/\rz W bk (eV W bk SL gv) gv.length by
   let⟨r,e,u,s,o,rfl,f⟩:=w;rwa[u,s,o,e,f]
  unfold Fa aY aY aY;show aJ (x:=(.fr k0,dic [] [])) rfl rfl ⋯ ?_
  show gG (ff (km (a7 rfl (fL rfl #[λi Z=>i<=gv.length/\Σu s o,Z=l7 (bG W) (bP SL) (bX gv) (dN bk c) (iD (Wh n)) (bw (oR (eV W bk SL (gv.take i)))) u s o L L/\rz W bk (eV W bk SL (gv.take i)) i,#[QM _,L,L,L,rfl,#[.nil,Qe _,λJ z=>nomatch z]],λi d Z hd C=>?_,λZ C=>?_]))))
  .let⟨z_,u,s,o,rfl,v⟩:=C;let hd:(gv.map iD)[i]?=B d:=hd;rw[Qc] at hd
   cases e:gv[i]? with
   |none=>rw[e] at hd;ext hd
   |some g=>
    rw[e] at hd;ext hd;let M:=(Qb.mp e).1;let T:=Y g (QD e);let E:=IW (n:=g) hu v;cbv;rw[dH e,N];generalize eV W bk SL (gv.take i)=Ds at *;let P:SL[g]?=B SL[g]:=Qi T;generalize SL[g]=x at P;rwa[[(6,iD g)],rfl,rfl,?_];change Wp (ao _ _ _ [] (l7 (bG W) (bP SL) (bX gv) (dN bk c) (iD (Wh n)) (bw (oR Ds)) (fS (iD g)) s o L L)) _;show dQ (ds:=[pD x.1,pD x.2]) (cv (k:=.sh) (k':=.sh) (n:=g) (hd:=.lst) (xs:=SL.map de) rfl rfl (.inl rfl) rfl (by rw[Qc,P];rfl)) #[rfl,rfl] ?_;change Wp (ao _ _ _ [] (l7 (bG W) (bP SL) (bX gv) (dN bk c) (iD (Wh n)) (bw (oR Ds)) (fS (iD g)) (fS (pD x.1)) (fS (pD x.2)) L L)) _;let X:aa Γ_19.fn (.fld "gates" (.var 0)) (l7 (bG W) (bP SL) (bX gv) (dN bk c) (iD (Wh n)) (bw (oR Ds)) (fS (iD g)) (fS (pD x.1)) (fS (pD x.2)) L L)=B (.sh,dK (g7 W) (gF W)):=lV (k:=.sh) (n:=0) rfl rfl rfl;show ko (nq (qZ (k:=.sh) (k':=.sh) (p:=x.2) (ks:=bk) rfl rfl) λJ=>nq (qZ (k:=.sh) (p:=x.2) rfl X) λJ=>gI (qZ (k:=.sh) (k':=.bo 5 k0) (p:=x.2) (ks:=Ds.map (·.1)) rfl rfl)) (λz=>?_) λz=>fU (aL #[_,.inl rfl,M,fS (iD g),fS (pD x.1),fS (pD x.2),?_,E])
    .dsimp[Qd,QZ,decide_eq_false_iff_not] at z
     let e3:fX W bk SL Ds g=Ds++[(x.2,x.1)]:=by
      delta fX;rw[P];show if_pos z
     show q0 (p:=x.2) (x:=(.sh,pD x.1)) (y:=(.sh,pD x.2)) rfl rfl rfl rfl z.2.2 (by rw[Qa];have:=v.le;lia) rfl ?_;show aL (cH (aL #[_,.inl rfl,M,fS (iD g),fS (pD x.1),fS (pD x.2),?_,E]));rw[e3];delta oR;rw[Qy (l₁:=Ds) (f:=λp:P2=>p.1),Qy (l₁:=Ds) (f:=λp:P2=>pD p.2)];rfl
    .let e3:fX W bk SL Ds g=Ds:=by
      delta fX;rw[P];show if_neg λy=>?_;rw[decide_eq_false y.1,decide_eq_false y.2.1,decide_eq_false y.2.2] at z;ext z
     rw[e3]
  .let⟨z_,u,s,o,rfl,v⟩:=C;rw[show(gv.map iD).length=gv.length from Qa _,QQ] at v⊢;show aL #[_,_,_,rfl,v]
 let⟨u,s,o,s0,v⟩:=I;generalize eV W bk SL gv=Ds at *;let lD:=v.le
 let⟨m,j,e,R⟩:=iU .lst (.inl rfl) h (kk:=bk) (ws:=Ds.map (·.2)) (n:=n) c S Q O ∅ (λq hq=>by
  let⟨p,hp,rfl⟩:=Qv.mp hq;show(v.a p hp).2.2) (by rw[Qa];lia)
 let lA:=R.len;rwa[m,j,R,?_];generalize bG W=G at *;generalize hf:iD (Wh n)=wd at *;let U:=v7 (vs:=bk.map λq=>iD (c q)) (k:=.sh) Q O (by rw[Qa];lia) rfl
 let s1:Iy (l7 G (bP SL) (bX gv) (dN bk c) wd (bw (oR Ds)) u s o L L)=B (.nx (l7 G (bP SL) (bX gv) (dN bk c) wd (bw (oR Ds)) u s o (bw (dN m j)) L)):=by
  let e1:As (B (.bo 5 k0,oR Ds))=B (.fr k0,.lst ((Ds.map (·.2)).map pD)):=by
   rw[QA];show if_pos #[rfl,by rw[Qa];lia]
  let e2:CP Ax [(.sh,G),(.sh,dN bk c),(.fr k0,.lst ((Ds.map (·.2)).map pD)),(.sh,wd)]=B (.fr k0,dN m j):=rM (vL #[_,e,rfl,.inl rfl,rfl]);change fv [] 9 (xr (y4 (B Ax) (ca (B (.sh,G)) (ca (B (.sh,dN bk c)) (ca (As (B (.bo 5 k0,oR Ds))) (ca (B (.sh,wd)) (B [])))))) (l7 G (bP SL) (bX gv) (dN bk c) wd (bw (oR Ds)) u s o L L))=_;rw[e1];change fv [] 9 (xr (CP Ax [(.sh,G),(.sh,dN bk c),(.fr k0,.lst ((Ds.map (·.2)).map pD)),(.sh,wd)]) _)=_;rw[e2];rfl
 let s2:Iz (l7 G (bP SL) (bX gv) (dN bk c) wd (bw (oR Ds)) u s o (bw (dN m j)) L)=B (.nx (l7 G (bP SL) (bX gv) (dN bk c) wd (bw (oR Ds)) u s o (bw (dN m j)) (bw (dN bk c)))):=by
  change fv [] 10 (xr (qJ (B (.sh,dN bk c))) _)=_;rw[U];rfl
 let zs:∀(l:-P2) (p:P2),(l++[p]).foldl (iY m j) (bk,c)=iY m j (l.foldl (iY m j) (bk,c)) p:=λl p=>by rw[Rz];rfl
 let lp:=lR (pn:=[5]) (fg:=[7,8]) (tg:=.tp [.nm 8,.nm 7]) (fb:=ao Γ_19 1000 xy [5]) (λi Z=>i<=Ds.length/\Σs o,Z=l7 G (bP SL) (bX gv) (dN bk c) wd L u s o (bw (dN m j)) (bw (dN ((Ds.take i).foldl (iY m j) (bk,c)).1 ((Ds.take i).foldl (iY m j) (bk,c)).2))/\((Ds.take i).foldl (iY m j) (bk,c)).1.Nodup/\((Ds.take i).foldl (iY m j) (bk,c)).1.length<=16+i/\(∀q∈((Ds.take i).foldl (iY m j) (bk,c)).1,q∈uL W/\(q∈bk\/q∈(Ds.take i).map (·.1)))) (Ds.map λp=>D.tup [pD p.1,pD p.2]) 0 (l7 G (bP SL) (bX gv) (dN bk c) wd L u s o (bw (dN m j)) (bw (dN bk c))) #[QM _,s,o,rfl,Q,hl,λq hq=>#[K q hq,.inl hq]] λi d Z hd C=>by
  rw[Sz] at C⊢;let⟨z_,s,o,rfl,F,le,A⟩:=C;rw[Qc] at hd
  cases e:Ds[i]? with
  |none=>rw[e] at hd;ext hd
  |some p=>
   rw[e] at hd;ext hd;let M:=(Qb.mp e).1;let H:=v.a p (QD e)
   let np:p.1∉((Ds.take i).foldl (iY m j) (bk,c)).1:=λz=>(A _ z).2.elim H.1 λz=>by
    let n1:=v.nd.sublist ((SV (i+1) Ds).map (·.1));rw[dH e,Qy] at n1;show(Q0.mp n1).2.2 p.1 z p.1 ∎ rfl
   cbv;rw[dH e,zs];generalize (Ds.take i).foldl (iY m j) (bk,c)=z at *;rwa[[(8,pD p.1),(7,pD p.2)],rfl,rfl,?_];change Wp (ao Γ_19 1000 xy [5] (l7 G (bP SL) (bX gv) (dN bk c) wd L u (fS (pD p.2)) (fS (pD p.1)) (bw (dN m j)) (bw (dN z.1 z.2)))) _;show ko (oO (k:=.sh) (k':=.bo 9 k0) (p:=p.2) (ks:=m) rfl rfl) (λy=>?_) λy=>fU (aL #[_,.inl rfl,M,fS (pD p.2),fS (pD p.1),?_])
   .let y:=of_decide_eq_true y;let e3:iY m j z p=(z.1++[p.1],up z.2 p.1 (j p.2)):=if_pos y;show q0 rfl (jN (V:=λq=>iD (j q)) rfl rfl R.nd y λJ=>rfl) rfl rfl np (by rw[Qa];lia) rfl ?_;show aL (cH (aL #[_,.inl rfl,M,fS (pD p.2),fS (pD p.1),?_]));rw[e3];rwa[?_,Q0.mpr #[F,∎,λa ha b O y=>np (by rw[<- Qs.mp O,<- y];show ha)],by rw[Qz,Rv];lia,λq hq=>?_]
    .rw[FA np];rfl
    .obtain w|w:=Qp.mp hq
     .rwa[(A q w).1,(A q w).2.imp id λt=>by rw[Qy];show QL _ t]
     .rw[Qs.mp w];rwa[H.2.1,.inr ∎]
   .let e3:iY m j z p=z:=if_neg (of_decide_eq_false y);rw[e3];rwa[rfl,F,∅,λq hq=>#[(A q hq).1,(A q hq).2.imp id λt=>by rw[Qy];show QL _ t]]
 let⟨Z',e4,z_,hc,he,rfl,F,le,A⟩:=lp;rw[Sz,Qa,QQ] at F le A e4;rwa[?_,F,∅,λq hq=>(A q hq).1];generalize Ds.foldl (iY m j) (bk,c)=z at *
 let s3:IA (l7 G (bP SL) (bX gv) (dN bk c) wd (bw (oR Ds)) u s o (bw (dN m j)) (bw (dN bk c)))=B (.nx (l7 G (bP SL) (bX gv) (dN bk c) wd (bw (oR Ds)) u L L (bw (dN m j)) (bw (dN z.1 z.2)))):=by
  let e5:Ao (B (.bo 5 k0,oR Ds))=B ([5],Ds.map λp=>D.tup [pD p.1,pD p.2]):=by
   rw[<- D8]
   change(if dZ (.bo 5 k0) (Ds.map λp=>pD p.2)=Uj then B ([5],qP ((Ds.map (·.1)).map pk) (Ds.map λp=>pD p.2)) else L)=_
   show if_pos rfl
  change m5 [] [7,8] (.tp [.nm 8,.nm 7]) (ao Γ_19 1000 xy) (JA (Ao (B (.bo 5 k0,oR Ds))) _)=_;rw[e5];change vj [5] _ (fK [5] [7,8] (.tp [.nm 8,.nm 7]) (ao Γ_19 1000 xy [5]) (Ds.map λp=>D.tup [pD p.1,pD p.2]) (l7 G (bP SL) (bX gv) (dN bk c) wd L u s o (bw (dN m j)) (bw (dN bk c))))=_;rw[e4];rfl
 let s4:Wp (ao Γ_19 1000 (aH Fa 5) [] (l7 G (bP SL) (bX gv) (dN bk c) wd (bw (oR Ds)) u L L (bw (dN m j)) (bw (dN z.1 z.2)))) λr=>Wp (eD (B r)) λx=>x=(.fr k0,dN z.1 z.2):=fN (gE rfl #[rfl,eG rfl rfl]);let⟨r,e6,x,ex,rfl⟩:=s4;unfold JH jG;rw[if_pos (by rfl)];change eD (xz (l7 G (bP SL) (bX gv) (dN bk c) wd L L L L L L))=_
 let eb:xz (l7 G (bP SL) (bX gv) (dN bk c) wd L L L L L L)=B r:=by
  delta xz;rw[s0];dsimp only[cq];rw[s1];cbv;rw[s2];cbv;rw[s3];cbv;rw[e6]
 rw[eb,ex]
theorem rA:∀{ts:-(Int×Int)} {z:FS},q∈(ts.foldl (bz w col) z).1↔q∈z.1\/q∈ts
 |[],z=>∎
 |s::ts,z=>by
  rw[Ss,rA (ts:=ts),Qf];delta bz;split
  .ext1 a;rwa[λh=>h.imp id .inr,λh=>h.elim .inl λh=>h.elim (λe=>.inl (e▸a)) .inr]
  .rw[Qp,Qs];show or_assoc
def free_mem{l:-Fr}:q∈(cu SL n l).1↔∃x∈l,q∈mz SL x:=by
 let a:∀(l:-Fr) (k:Nat) (z:FS),q∈((l.zipIdx k).foldl (λz x=>(mz SL x.1).foldl (bz (Wh n) (cx x.2 n)) z) z).1↔q∈z.1\/∃x∈l,q∈mz SL x:=by
  intro l
  induction l with
  |nil=>intro k z;simp
  |cons x l b=>
   intro k z;rw[List.zipIdx_cons,Ss,b,rA];dsimp[Qf,exists_eq_or_imp];show or_assoc
 show(a l 0 _).trans #[λh=>h.elim (λh=>nomatch h) id,.inr]
def bL(SL:-P2)(gv:-Nat)(ws:-(Int×Int)):-(Int×Int):=gv.foldl (λl g=>l++mz SL (.inl g)) ws
meta def ua(SL:-P2)(w:Nat)(F:Int×Int->Nat)(k g:Nat):Nat:=match SL[g]? with
 |some x=>k &&& (w ^^^ F x.1 ^^^ F x.2)
 |none=>k
abbrev mB(SL:-P2)(n:Nat)(F:Int×Int->Nat)(gv:-Nat)(k:Nat):Nat:=gv.foldl (ua SL (Wh n) F) k
theorem need_mem:∀{gv:-Nat} {ws:-(Int×Int)},q∈bL SL gv ws↔q∈ws\/∃g∈gv,q∈mz SL (.inl g)
 |[],ws=>by simp[bL]
 |g::gv,ws=>by
  rw[show bL SL (g::gv) ws=bL SL gv (ws++mz SL (.inl g)) from rfl,need_mem (gv:=gv),Qp];dsimp[Qf,exists_eq_or_imp];show or_assoc
theorem rB:∀{gv:-Nat} {ws:-(Int×Int)},(bL SL gv ws).length<=ws.length+2*gv.length
 |[],ws=>Qe _
 |g::gv,ws=>by
  let a:=rB (SL:=SL) (gv:=gv) (ws:=ws++mz SL (.inl g));let b:=wb SL (.inl g);rw[Qz] at a;rw[show bL SL (g::gv) ws=bL SL gv (ws++mz SL (.inl g)) from rfl,QI]
  lia
structure D9(W:Wd)(SL:-P2)(fr:-Fr)(gv:-Nat):Prop where
 lf:fr.length<=8
 lg:gv.length<=8
 f:∀x∈fr,match x with|.inl n=>n<SL.length|.inr s=>s∈uL W
 g:∀g∈gv,g<SL.length
 u:∀x∈SL,x.1∈uL W/\x.2∈uL W
abbrev hJ(SL:-P2)(fr:-Fr):FS:=cu SL fr.length fr
abbrev IX(W:Wd)(SL:-P2)(fr:-Fr)(gv:-Nat):-P2:=eV W (hJ SL fr).1 SL gv
def BH(W:Wd)(SL:-P2)(fr:-Fr)(gv:-Nat)(ak:-(Int×Int))(AF:Int×Int->Nat):KF:=(IX W SL fr gv).foldl (iY ak AF) ((hJ SL fr).1,(hJ SL fr).2.1)
structure FC(W:Wd)(SL:-P2)(fr:-Fr)(gv:-Nat)(ws ak:-(Int×Int))(AF:Int×Int->Nat)(fk:-(Int×Int))(F:Int×Int->Nat):Prop where
 a:rn W (hJ SL fr).1 (hJ SL fr).2.1 ((IX W SL fr gv).map (·.2)) fr.length ak AF
 b:rn W (BH W SL fr gv ak AF).1 (BH W SL fr gv ak AF).2 (bL SL gv ws) fr.length fk F
def Mx{SL:-P2}(a:∀x∈SL,x.1∈uL W/\x.2∈uL W)(h:q∈mz SL (.inl g)):q∈uL W:=by
 cases e:SL[g]? with
 |none=>
  have:mz SL (.inl g)=[]:=by change(match SL[g]? with|some x=>[x.1,x.2]|none=>[])=_;rw[e]
  rw[this] at h;ext h
 |some x=>
  rw[lX e] at h;have:=a x (QD e);dsimp[Qf,Qw,or_false] at h;obtain rfl|rfl:=h
  .show this.1
  .show this.2
def lY(h:my W){fr:-Fr}{ws:-(Int×Int)}(T:D9 W SL fr gv)(hw:∀q∈ws,q∈uL W)(lw:ws.length<=20) :
  Σo m c F,FC W SL fr gv ws o m c F/\DM [bG W,bP SL,gf fr,bX gv,.lst (ws.map pD)]=B (if(bL SL gv ws).all (λs=>decide (s∈c))=Uj then(.sh,.tup [dN c F,iD (mB SL fr.length F gv (hJ SL fr).2.2)]) else(.sh,.non)):=by
 let N:=T.lf;let S:=T.lg;let ln:(bL SL gv ws).length<=40:=QG rB ∅
 let⟨v,nb,lb⟩:=A4 (SL:=SL) (fr:=fr) N λx j=>by
  have:=T.f x j
  cases x with
  |inl n=>show this
  |inr s=>trivial
 let ub:∀q∈(hJ SL fr).1,q∈uL W:=λq hq=>by
  let⟨x,j,hq⟩:=free_mem.mp hq;let j:=T.f x j
  cases x with
  |inl n=>show Mx T.u hq
  |inr s=>rw[Qs.mp hq];show j
 let⟨o,m,RA,w,nz,P,uz⟩:=xL h (hJ SL fr).2.1 N nb ub lb S T.g T.u;replace v:Ix [bP SL,gf fr]=B (.sh,.tup [dN (hJ SL fr).1 (hJ SL fr).2.1,iD (hJ SL fr).2.2]):=v;replace w:JH [bG W,bP SL,bX gv,dN (hJ SL fr).1 (hJ SL fr).2.1,iD (Wh fr.length)]=B (.fr k0,dN ((IX W SL fr gv).foldl (iY o m) ((hJ SL fr).1,(hJ SL fr).2.1)).1 ((IX W SL fr gv).foldl (iY o m) ((hJ SL fr).1,(hJ SL fr).2.1)).2):=w;replace P:(BH W SL fr gv o m).1.length<=24:=P;let nu:∀q∈bL SL gv ws,q∈uL W:=λq hq=>(need_mem.mp hq).elim (hw q) λ⟨g,_,hq⟩=>Mx T.u hq;let⟨c,F,H,RF⟩:=iU .lst (.inl rfl) h (kk:=(BH W SL fr gv o m).1) (ws:=bL SL gv ws) (n:=fr.length) (BH W SL fr gv o m).2 N nz (FB h uz) ∅ nu ln;rwa[o,m,c,F,#[RA,RF],?_];let V:∀q∈bL SL gv ws,(bL SL gv ws).all (λs=>decide (s∈c))=Uj->q∈c:=λq hq z=>of_decide_eq_true (QB.mp z q hq);let I:=T.g;let X:∀kk F,lu (.fr k0) (dN kk F)=Uj:=λkk F=>jP F kk;let K:=RF.nd;clear RA RF nz P uz nb lb ub nu;unfold BH at H;generalize (IX W SL fr gv).foldl (iY o m) ((hJ SL fr).1,(hJ SL fr).2.1)=z at *;generalize hb:hJ SL fr=bk at *;generalize bG W=G at *;let Q:∀{Z:Ro},aa Γ_20.fn (.var 2) Z=B (.sh,gf fr)->aa Γ_20.fn (.blt "len" (.cons (.var 2) .nil)) Z=B (.sh,iD fr.length):=λhe=>cg (l:=fr) (f:=it) (k:=.sh) he (.inl rfl);generalize gf fr=fd at *;generalize fr.length=n at *;delta DM;show aK (qG rfl ?_);delta OB;erw[fS G,fS (bP SL),fS fd,fS (bX gv),fS (.lst (ws.map pD)),L,L,L,L,L,L,L,L,L];show aJ (bd (U:=ψ6) (ds:=[iD n]) rfl (e1 (Q rfl)) rfl rfl (jM N) rfl) rfl ⋯ ?_;show dQ (ds:=[dN bk.1 bk.2.1,iD bk.2.2]) (bd (U:=Ix) (ds:=[bP SL,fd]) rfl (e2 (p:=(.sh,bP SL)) (q:=(.sh,fd)) rfl rfl) rfl rfl v rfl) #[rfl,rfl] ?_;erw[fS G,fS (bP SL),fS fd,fS (bX gv),fS (.lst (ws.map pD)),fS (iD (Wh n)),fS (dN bk.1 bk.2.1),fS (iD bk.2.2),L,L,L,L,L,L];show aJ (bd (U:=JH) (ds:=[G,bP SL,bX gv,dN bk.1 bk.2.1,iD (Wh n)]) rfl (rM (aS (a:=.var 0) (wv (r:=(.sh,G)) rfl (wv (e4 (p:=(.sh,bP SL)) (q:=(.sh,bX gv)) (u:=(.sh,dN bk.1 bk.2.1)) (t:=(.sh,iD (Wh n))) rfl rfl rfl rfl) rfl)))) rfl rfl w rfl) rfl ⋯ ?_;show aJ (x:=(.fr k0,.lst (ws.map pD))) (aK (gX (aS (wv (r:=(Kd.sh,D.lst (ws.map pD))) rfl (cF (rj (.inl rfl))))))) rfl ⋯ ?_;erw[fS G,fS (bP SL),fS fd,fS (bX gv),fS (.lst (ws.map pD)),fS (iD (Wh n)),fS (dN bk.1 bk.2.1),fS (iD bk.2.2),bw (dN z.1 z.2),bw (.lst (ws.map pD)),L,L,L,L];let O:∀(l:-Nat) (g:Nat),bL SL (l++[g]) ws=bL SL l ws++mz SL (.inl g):=λl g=>by delta bL;rw[Rz];rfl
 show gG (ff (km (a7 rfl (fL rfl #[λi Z=>i<=gv.length/\Σb,Z=[fS G,fS (bP SL),fS fd,fS (bX gv),fS (.lst (ws.map pD)),fS (iD (Wh n)),fS (dN bk.1 bk.2.1),fS (iD bk.2.2),bw (dN z.1 z.2),bw (.lst ((bL SL (gv.take i) ws).map pD)),b,L,L,L]/\(bL SL (gv.take i) ws).length<=20+2*i,#[QM _,L,rfl,lw],λi d Z hd E=>?_,λZ E=>?_]))))
 .let⟨z_,b,rfl,le⟩:=E;let hd:(gv.map iD)[i]?=B d:=hd;rw[Qc] at hd
  cases e:gv[i]? with
  |none=>rw[e] at hd;ext hd
  |some g=>
   rw[e] at hd;ext hd;let Y:=(Qb.mp e).1;obtain⟨x,j⟩:Σx,SL[g]?=B x:=#[_,Qi (I g (QD e))];cbv;rw[dH e,O,lX j];generalize bL SL (gv.take i) ws=nl at *;rwa[[(10,iD g)],rfl,rfl,?_];show vN (AX (ds:=nl.map pD) (ys:=[x.1,x.2].map pD) rfl (cv (k:=.sh) (k':=.sh) (n:=g) (hd:=.lst) (xs:=SL.map de) rfl rfl (.inl rfl) rfl (by rw[Qc,j];rfl)) #[rfl,rfl] (.inr rfl) (by simp;lia) (aL #[_,.inl rfl,Y,fS (iD g),?_,by rw[Qz];change _+2<=_;lia]));rw[Qy];rfl
 let⟨z_,b,rfl,y_⟩:=E;rw[show(gv.map iD).length=gv.length from Qa _,QQ];generalize R:bL SL gv ws=nl at *;erw[fS G,fS (bP SL),fS fd,fS (bX gv),fS (.lst (ws.map pD)),fS (iD (Wh n)),fS (dN bk.1 bk.2.1),fS (iD bk.2.2),bw (dN z.1 z.2),bw (.lst (nl.map pD)),b,L,L,L];show aJ (gH (U:=Ax) (p:=(.fr k0,dN c F)) (ds:=[G,dN z.1 z.2,.lst (nl.map pD),iD (Wh n)]) rfl (e4 (p:=(.sh,G)) (q:=(.bo 8 k0,dN z.1 z.2)) (u:=(.bo 9 k0,.lst (nl.map pD))) (t:=(.sh,iD (Wh n))) rfl rfl rfl rfl) (X c F) rfl H rfl) rfl ⋯ ?_;erw[fS G,fS (bP SL),fS fd,fS (bX gv),fS (.lst (ws.map pD)),fS (iD (Wh n)),fS (dN bk.1 bk.2.1),fS (iD bk.2.2),bw (dN z.1 z.2),bw (.lst (nl.map pD)),b,bw (dN c F),L,L];show eI (x:=(.sh,.non)) (dL (Fd (k:=.sh) (rq (l:=nl) (f:=pD) (k:=.bo 9 k0) (hd:=.lst) (λs=>decide (s∈c)) (.inl rfl) rfl rfl ∅ (λJ=>rfl) λs hs=>gJ (oO (k:=.sh) (k':=.bo 2 k0) (p:=s) (ks:=c) rfl rfl)))) (λy=>#[rfl,rfl,?_]) λy=>?_
 .rw[if_neg (by rw[QZ] at y;rw[y];decide)];show eG rfl rfl
 let y:nl.all (λs=>decide (s∈c))=Uj:=by simpa using y
 rw[if_pos y];let ha:∀(l:-Nat) (g:Nat),mB SL n F (l++[g]) bk.2.2=ua SL (Wh n) F (mB SL n F l bk.2.2) g:=λl g=>by delta mB;rw[Rz];rfl
 show gG (ff (km (a7 rfl (fL rfl #[λi Z=>i<=gv.length/\Σb A C,Z=[fS G,fS (bP SL),fS fd,fS (bX gv),fS (.lst (ws.map pD)),fS (iD (Wh n)),fS (dN bk.1 bk.2.1),fS (iD (mB SL n F (gv.take i) bk.2.2)),bw (dN z.1 z.2),bw (.lst (nl.map pD)),b,bw (dN c F),A,C],#[QM _,b,L,L,rfl],λi d Z hd E=>?_,λZ E=>?_]))))
 .let⟨z_,b,A,C,rfl⟩:=E;let hd:(gv.map iD)[i]?=B d:=hd;rw[Qc] at hd
  cases e:gv[i]? with
  |none=>rw[e] at hd;ext hd
  |some g=>
   rw[e] at hd;ext hd;let Y:=(Qb.mp e).1;obtain⟨x,j⟩:Σx,SL[g]?=B x:=#[_,Qi (I g (QD e))];let M:∀q∈[x.1,x.2],q∈c:=λq hq=>V q (R▸need_mem.mpr (.inr #[g,QD e,by rw[lX j];show hq])) y;let ek:∀k,ua SL (Wh n) F k g=k &&& (Wh n ^^^ F x.1 ^^^ F x.2):=λk=>by delta ua;rw[j]
   cbv;rw[dH e,ha,ek];generalize mB SL n F (gv.take i) bk.2.2=kp;rwa[[(10,iD g)],rfl,rfl,?_];show dQ (ds:=[pD x.1,pD x.2]) (cv (k:=.sh) (k':=.sh) (n:=g) (hd:=.lst) (xs:=SL.map de) rfl rfl (.inl rfl) rfl (by rw[Qc,j];rfl)) #[rfl,rfl] ?_;erw[fS G,fS (bP SL),fS fd,fS (bX gv),fS (.lst (ws.map pD)),fS (iD (Wh n)),fS (dN bk.1 bk.2.1),fS (iD kp),bw (dN z.1 z.2),bw (.lst (nl.map pD)),fS (iD g),bw (dN c F),fS (pD x.1),fS (pD x.2)];show E1 rfl (eE (aU (aU (a7 rfl (wv (jN rfl rfl K (M x.1 ∎) λJ=>rfl) (eU (wv (jN rfl rfl K (M x.2 ∎) λJ=>rfl) (eU #[by decide,#[iD (kp &&& (Wh n ^^^ F x.1 ^^^ F x.2)),?_,aL #[_,.inl rfl,Y,fS (iD g),fS (pD x.1),fS (pD x.2),rfl]]]))))))));change B (D.int _)=B (D.int _);rw[kQ]
 let⟨z_,b,A,C,rfl⟩:=E;rw[show(gv.map iD).length=gv.length from Qa _,QQ];show fN (lP (jH (gE rfl (wv (e1 rfl) (jK rfl #[rfl,_,rfl,rfl])))))
def wc{fk:-(Int×Int)}{F:Int×Int->Nat}(g:aa Γ f Z=B (kf,dN fk F))(c:∀n,nW kf n=.sh)(j:aa Γ a Z=B (ka,pD p))(k:aa Γ b Z=B (kb,pD q))(hk:aa Γ kx Z=B (kk,iD kp))(d:fk.Nodup)(i:p∈fk)(h:q∈fk) :
  aa Γ (.cmp .Eq (.bin .BitAnd (.bin .BitXor (.ix f a) (.ix f b)) kx) (.lit (.int 0))) Z=B (.sh,.bl (decide ((F p ^^^ F q) &&& kp=0))):=by
 let e:aa Γ (.bin .BitAnd (.bin .BitXor (.ix f a) (.ix f b)) kx) Z=B (.sh,iD ((F p ^^^ F q) &&& kp)):=aK (aU (aU (wv (jN g j d i c) (wv (jN g k d h c) (eU (wv hk (t6 rfl)))))));rw[gJ (t5 e (show aa Γ (.lit (.int 0)) Z=B (.sh,.int ((0:Nat):Int)) from rfl))];show congrArg B (q8 Tb)
abbrev xT(SL:-P2)(t:St)(ws fk:-(Int×Int)):Bool:=(bL SL t.gv ws).all λs=>decide (s∈fk)
abbrev xU(SL:-P2)(t:St)(F:Int×Int->Nat):Nat:=mB SL t.fr.length F t.gv (hJ SL t.fr).2.2
def Ea{W:Wd}(h:my W){SL:-P2}{t:St}(T:D9 W SL t.fr t.gv)(i:t.p∈uL W)(hq:t.q∈uL W):Σak AF fk F,FC W SL t.fr t.gv [t.p,t.q] ak AF fk F/\DN [bG W,bP SL,cj t]=B (.sh,.bl (xT SL t [t.p,t.q] fk&&decide ((F t.p ^^^ F t.q) &&& xU SL t F=0))):=by
 let⟨ak,AF,fk,F,R,f⟩:=lY h (ws:=[t.p,t.q]) T (A2 i hq) ∎;rwa[ak,AF,fk,F,R,?_];let l:=R.b.nd;let c:xT SL t [t.p,t.q] fk=Uj->∀q∈[t.p,t.q],q∈fk:=λz q hq=>of_decide_eq_true (QB.mp z q (need_mem.mpr (.inl hq)));delta DN;show eJ rfl ?_;delta Oy;generalize bG W=G at *;erw[fS G,fS (bP SL),fS (cj t),L,L,L,L,L,L,L];show dQ (ds:=[pD t.p,pD t.q,gf t.fr,bX t.gv]) rfl #[rfl,rfl] ?_;erw[fS G,fS (bP SL),fS (cj t),fS (pD t.p),fS (pD t.q),fS (gf t.fr),fS (bX t.gv),L,L,L];let g:∀{X:KD},DM [G,bP SL,gf t.fr,bX t.gv,.lst ([t.p,t.q].map pD)]=B X->bt X.1=Uk->aa Γ_18.fn (.fn 18 (.cons (.var 0) (.cons (.var 1) (.cons (.var 5) (.cons (.var 6) (.cons (.lst (.own [] .fz) (.cons (.var 3) (.cons (.var 4) .nil))) .nil)))))) [fS G,fS (bP SL),fS (cj t),fS (pD t.p),fS (pD t.q),fS (gf t.fr),fS (bX t.gv),L,L,L]=B X:=λe j=>bd (U:=DM) (ds:=[G,bP SL,gf t.fr,bX t.gv,.lst ([t.p,t.q].map pD)]) rfl (rM (aS (a:=.var 0) (wv (r:=(.sh,G)) rfl (wv (e4 (p:=(.sh,bP SL)) (q:=(.sh,gf t.fr)) (u:=(.sh,bX t.gv)) (t:=(.fr k0,.lst ([t.p,t.q].map pD))) rfl rfl rfl (iS (kds:=[(.sh,pD t.p),(.sh,pD t.q)]) (e2 rfl rfl) #[rfl,∎])) rfl)))) rfl rfl e j
 cases z:xT SL t [t.p,t.q] fk with
 |false=>
  rw[if_neg λy=>absurd (z.symm.trans y) Qx] at f;show aJ (g f rfl) rfl ⋯ ?_;show eI (z:=Uj) (x:=(.sh,.bl Uk)) (kN (k:=.sh) (d:=.non) rfl) (λZ=>#[rfl,rfl,eG rfl rfl]) λe=>by ext e
 |true=>
  rw[if_pos z] at f;let c:=c z;show aJ (g f rfl) rfl ⋯ ?_;show eI (z:=Uk) (x:=(.sh,.bl Uk)) (kN (k:=.sh) (d:=.tup [dN fk F,iD (xU SL t F)]) rfl) (λe=>by ext e) λZ=>?_;show dQ (ds:=[dN fk F,iD (xU SL t F)]) rfl #[rfl,rfl] ?_;erw[fS G,fS (bP SL),fS (cj t),fS (pD t.p),fS (pD t.q),fS (gf t.fr),fS (bX t.gv),fS (.tup [dN fk F,iD (xU SL t F)]),fS (dN fk F),fS (iD (xU SL t F))];show bN (wc (kf:=.sh) (ka:=.sh) (kb:=.sh) (kk:=.sh) (fk:=fk) (F:=F) (kp:=xU SL t F) rfl (λZ=>rfl) rfl rfl rfl l (c t.p ∎) (c t.q ∎)) rfl (eK rfl rfl)
theorem we{f:D->@&(@&(D×D))}{V:Int×Int->D}:∀{l a:-(Int×Int)},(a++l).Nodup->(∀q∈l,f (pD q)=B (B (pD q,V q)))->eC 1 f (l.map pD) (a.map pk,a.map V)=B ((a++l).map pk,(a++l).map V)
 |[],a,_,_=>by rw[Q1];rfl
 |q::l,a,nd,h=>by
  let hq:q∉a:=λz=>(Q0.mp nd).2.2 q z q Qr rfl;rw[List.append_cons] at nd⊢;rw[QE,eC,h q Qr];cbv
  let c:zM 1 (a.map pk,a.map V) (pD q) (V q)=B ((a++[q]).map pk,(a++[q]).map V):=by
   change(match aX (a.map pk) (pk q) with|some j=>if(a.map pk).Nodup then B (a.map pk,(a.map V).set j (V q)) else L|none=>B (a.map pk++[pk q],a.map V++[V q]))=_
   rw[qY hq,Qy,Qy];rfl
  rw[c];show we nd λp b=>h p (Qh _ b)
abbrev IY(G S:D)(t:St)(x7 x8 x9 R O U:@&Sl):Ro:=[fS G,fS S,fS (cj t),fS (pD t.p),fS (pD t.q),fS (gf t.fr),fS (bX t.gv),x7,x8,x9,R,O,U]
structure M8(W:Wd)(t:St)(ml:-(Int×Int)):Prop where
 nd:ml.Nodup
 mem:∀x,x∈ml↔x∈fq W/\Cn W [] [t.p,t.q] x
def O4(h:my W)(b:x∈fq W):aF W x∈uL W:=by
 unfold fq at b
 let a:∀w,w<2->x∈mK (cw W w) w (cw W w).mems.length->aF W x∈uL W:=λw c b=>by
  let⟨k,hk,rfl⟩:=mK_mem.mp b;let e:=Qi hk;rw[AT e];show v6 ∅ (by rw[cw_sz c];show(cw_ok h w).m _ (QD e))
 show(Qp.mp b).elim (a 0 ⋯) (a 1 ⋯)
def A5(h:my W){t:St}(T:D9 W SL t.fr t.gv)(hp:t.p∈uL W)(hq:t.q∈uL W)(hk:∀c,M8 W t c->Kn W c [t.p,t.q] t.p/\Kn W c [t.p,t.q] t.q) :
  Σc ak H i F E G,M8 W t c/\FC W SL t.fr t.gv (c.map (aF W)) ak H i F/\rn W c (λx=>F (aF W x)) [t.p,t.q] t.fr.length E G/\BF [bG W,bP SL,cj t]=B (.sh,.bl (xT SL t (c.map (aF W)) i&&decide ((G t.p ^^^ G t.q) &&& xU SL t F=0))):=by
 let hl:=T.lf;let⟨r,ha,R,rl,ru⟩:=jO .lst (.inl rfl) h (kk:=[]) (ws:=[t.p,t.q]) [] (A2 hp hq) ∎;generalize v:r.filter (λx=>decide (x∈fq W))=c
 let M:M8 W t c:=#[by rw[<- v];show R.nd.sublist Tz,λx=>by
  rw[<- v,R8,R.mem,decide_eq_true_eq];show And.comm]
 let hg:c.length<=16:=QG (List.Nodup.length_le_of_subset M.nd λx m=>((M.mem x).mp m).1) (wa h)
 let mu:∀q∈c.map (aF W),q∈uL W:=λq hq=>by
  let⟨x,m,rfl⟩:=Qv.mp hq;show O4 h ((M.mem x).mp m).1
 let⟨ak,H,i,F,RT,j⟩:=lY h (ws:=c.map (aF W)) T mu (by rw[Qa];lia);let⟨E,G,hc,C⟩:=iU .lst (.inl rfl) h (kk:=c) (ws:=[t.p,t.q]) (n:=t.fr.length) (λx=>F (aF W x)) hl M.nd (λx m=>v9 h x ((M.mem x).mp m).1) ∅ (A2 hp hq) ∎;rwa[c,ak,H,i,F,E,G,M,RT,C,?_]
 replace j:DM [bG W,bP SL,gf t.fr,bX t.gv,.lst ((c.map (aF W)).map pD)]=B (if xT SL t (c.map (aF W)) i=Uj then(.sh,.tup [dN i F,iD (xU SL t F)]) else(.sh,.non)):=j
 let⟨k1,Y⟩:=hk c M;let k1:=(C.mem _).mpr k1;let Y:=(C.mem _).mpr Y;let w:∀{Z:Ro} {e:IE},aa Γ_16.fn e Z=B (.sh,bG W)->aa Γ_16.fn (.fld "afters" e) Z=B (.sh,dK (fq W) (λq=>pD (aF W q))):=λA=>lV (k:=.sh) (n:=2) A rfl rfl;let o:∀{Z:Ro} {e b:IE} {kb:Kd} {x:Int×Int},x∈c->aa Γ_16.fn e Z=B (.sh,bG W)->aa Γ_16.fn b Z=B (kb,pD x)->aa Γ_16.fn (.ix (.fld "afters" e) b) Z=B (.sh,pD (aF W x)):=λ{Z e b kb x} m A hb=>jN (V:=λq=>pD (aF W q)) (w A) hb (AV W) ((M.mem x).mp m).1 λJ=>rfl;let s:xT SL t (c.map (aF W)) i=Uj->∀x∈c,aF W x∈i:=λz x m=>of_decide_eq_true (QB.mp z _ (need_mem.mpr (.inl (Qv.mpr #[x,m,rfl]))));let K:=RT.b.nd;let O:=C.nd;generalize bG W=Gd at *;let N:∀{Z:Ro},aa Γ_16.fn (.var 5) Z=B (.sh,gf t.fr)->aa Γ_16.fn (.blt "len" (.cons (.var 5) .nil)) Z=B (.sh,iD t.fr.length):=λA=>cg (l:=t.fr) (f:=it) (k:=.sh) A (.inl rfl);generalize hS:bP SL=S at *;generalize xU SL t F=kp at *
 let s0:∀{X:KD},DM [Gd,S,gf t.fr,bX t.gv,.lst ((c.map (aF W)).map pD)]=B X->bt X.1=Uk->bt (dW X.1 X.2)=Uk->∀{rest:bq} {Q:Res->Prop},Wp (ao Γ_16 1000 rest [] (IY Gd S t (bw (.lst (c.map pD))) (B #[Uk,HD (dW X.1 X.2),X.2]) L L L L)) Q->Wp (ao Γ_16 1000 (.cons (.unp [3,4,5,6] (.p (.var 2))) (.cons (.asg 7 (.p (.comp .fz [L,L,B 0] (.nm 1) (.e (.fn 33 (.cons (.var 0) (.cons (.dnew 1 .fz) (.cons (.lst (.own [] .fz) (.cons (.var 3) (.cons (.var 4) .nil))) .nil))))) (.som (.cmp .In (.var 1) (.fld "afters" (.var 2)))) (.var 1)))) (.cons (.asg 8 (.p (.fn 18 (.cons (.var 0) (.cons (.var 1) (.cons (.var 5) (.cons (.var 6) (.cons (.comp .fz [L,L,B 0] (.nm 1) (.e (.var 7)) .non (.ix (.fld "afters" (.var 2)) (.var 1))) .nil)))))))) rest))) [] [fS Gd,fS S,fS (cj t),L,L,L,L,L,L,L,L,L,L]) Q:=λ{X} j hb P {rest Q} hw=>by
  show dQ (ds:=[pD t.p,pD t.q,gf t.fr,bX t.gv]) rfl #[rfl,rfl] ?_;change Wp (ao _ _ _ [] (IY Gd S t L L L L L L)) _;show aJ (x:=(.fr k0,.lst (c.map pD))) ((Mu (l:=r) (f:=pD) (g:=pD) (k:=.fr k0) (hd:=.lst) (λx=>decide (x∈fq W)) (.inl rfl) (bd (U:=Iv) (ds:=[Gd,dic [] [],.lst ([t.p,t.q].map pD)]) rfl (e3 (p:=(.sh,Gd)) (q:=(.fr k0,dic [] [])) (u:=(.fr k0,.lst ([t.p,t.q].map pD))) rfl rfl (iS (kds:=[(.sh,pD t.p),(.sh,pD t.q)]) (e2 rfl rfl) #[rfl,∎])) rfl rfl ha rfl) rfl ∅ (λJ=>rfl) (λx m=>oO (k:=.sh) (p:=x) rfl (w (e:=.var 2) rfl)) λx m J=>wv rfl #[rfl,rfl]).trans #v[v]) rfl ⋯ ?_;change Wp (ao _ _ _ [] (IY Gd S t (bw (.lst (c.map pD))) L L L L L)) _;show aJ (bd (U:=DM) (ds:=[Gd,S,gf t.fr,bX t.gv,.lst ((c.map (aF W)).map pD)]) rfl (rM (aS (a:=.var 0) (wv (r:=(.sh,Gd)) rfl (wv (e4 (p:=(.sh,S)) (q:=(.sh,gf t.fr)) (u:=(.sh,bX t.gv)) (t:=(.fr k0,.lst ((c.map (aF W)).map pD))) rfl rfl rfl ((qW (k:=.bo 7 k0) (hd:=.lst) (l:=c) (f:=pD) (g:=λx=>pD (aF W x)) (.inl rfl) rfl rfl ∅ λx m=>xR rfl (wv (o m rfl rfl) #[_,rfl,rfl])).trans (by rw[QA];rfl))) rfl)))) rfl rfl j hb) P ⋯ hw
 unfold BF jG;rw[if_pos (by rfl)];change eD (qR [fS Gd,fS S,fS (cj t),L,L,L,L,L,L,L,L,L,L])=_
 cases z:xT SL t (c.map (aF W)) i with
 |false=>
  rw[if_neg λy=>absurd (z.symm.trans y) Qx] at j
  obtain⟨r0,e0,⟨y,rfl⟩,x,I,rfl⟩:Wp (ao Γ_16 1000 (aY BC 5) [] [fS Gd,fS S,fS (cj t),L,L,L,L,L,L,L,L,L,L]) λr=>(Σx,r=.rt .sh (.bl Uk) x)/\Wp (eD (B r)) λx=>x=(.sh,.bl Uk):=by
   unfold BC aY aY aY aY aY aY;show s0 j rfl rfl ?_;show eI (z:=Uj) (x:=(.sh,.bl Uk)) (kN (k:=.sh) (d:=.non) rfl) (λJ=>#[rfl,rfl,#[_,rfl],eG rfl rfl]) λe=>by ext e
  let eb:qR [fS Gd,fS S,fS (cj t),L,L,L,L,L,L,L,L,L,L]=B (.rt .sh (.bl Uk) y):=by
   delta qR;rw[e0];rfl
  rw[eb,I];rfl
 |true=>
  rw[if_pos z] at j;let s:=s z
  let s1:ao Γ_16 1000 (aY BC 5) [] [fS Gd,fS S,fS (cj t),L,L,L,L,L,L,L,L,L,L]=B (.nx (IY Gd S t (bw (.lst (c.map pD))) (fS (.tup [dN i F,iD kp])) (fS (dN i F)) (fS (iD kp)) L L)):=by
   show rM ?_;unfold BC aY aY aY aY aY aY;show s0 j rfl rfl ?_;show eI (z:=Uk) (x:=(.sh,.bl Uk)) (kN (k:=.sh) (d:=.tup [dN i F,iD kp]) rfl) (λe=>by ext e) λJ=>?_;show dQ (ds:=[dN i F,iD kp]) rfl #[rfl,rfl] ?_;show aL rfl
  let s2:IB (IY Gd S t (bw (.lst (c.map pD))) (fS (.tup [dN i F,iD kp])) (fS (dN i F)) (fS (iD kp)) L L)=B (.nx (IY Gd S t (bw (.lst (c.map pD))) (fS (.tup [dN i F,iD kp])) (fS (dN i F)) (fS (iD kp)) (bw (dN c λx=>F (aF W x))) L)):=by
   let hf:∀x∈c,gW (.nm 1) (λJ=>B Uj) (aa Γ_16.fn (.var 1)) (aa Γ_16.fn (.ix (.var 2) (.ix (.fld "afters" (.var 3)) (.var 1)))) [L,L,fS (dN i F),fS Gd] (pD x)=B (B (pD x,iD (F (aF W x)))):=λx m=>by
    let e:aa Γ_16.fn (.ix (.var 2) (.ix (.fld "afters" (.var 3)) (.var 1))) [L,fS (pD x),fS (dN i F),fS Gd]=B (.sh,iD (F (aF W x))):=jN (k:=.sh) (p:=aF W x) (ks:=i) (V:=λq=>iD (F q)) rfl (o m rfl rfl) K (s x m) λJ=>rfl
    change(match aa Γ_16.fn (.ix (.var 2) (.ix (.fld "afters" (.var 3)) (.var 1))) [L,fS (pD x),fS (dN i F),fS Gd] with|some y=>if pK y.1 y.2=Uj then B (B (pD x,y.2)) else L|none=>L)=_
    rw[e];rfl
   let e:eS 1 (B ([7],c.map pD)) (gW (.nm 1) (λJ=>B Uj) (aa Γ_16.fn (.var 1)) (aa Γ_16.fn (.ix (.var 2) (.ix (.fld "afters" (.var 3)) (.var 1)))) [L,L,fS (dN i F),fS Gd])=B (.fr k0,dN c λx=>F (aF W x)):=by
    delta eS;cbv;rw[if_pos (by rw[Qa];lia),show(([],[]):-DK×-D)=(([]:-(Int×Int)).map pk,([]:-(Int×Int)).map λq=>iD (F (aF W q))) from rfl,we (a:=[]) (l:=c) (V:=λq=>iD (F (aF W q))) M.nd hf];rfl
   change fv [] 11 (xr (eS 1 (B ([7],c.map pD)) (gW (.nm 1) (λJ=>B Uj) (aa Γ_16.fn (.var 1)) (aa Γ_16.fn (.ix (.var 2) (.ix (.fld "afters" (.var 3)) (.var 1)))) [L,L,fS (dN i F),fS Gd])) _)=_;rw[e];rfl
  let s3:Wp (ao Γ_16 1000 (aH BC 6) [] (IY Gd S t (bw (.lst (c.map pD))) (fS (.tup [dN i F,iD kp])) (fS (dN i F)) (fS (iD kp)) (bw (dN c λx=>F (aF W x))) L)) λr=>Wp (eD (B r)) λx=>x=(.sh,.bl (decide ((G t.p ^^^ G t.q) &&& kp=0))):=by
   unfold BC aH aH aH aH aH aH aH;show aJ (gH (U:=Ax) (p:=(.fr k0,dN E G)) (ds:=[Gd,dN c λx=>F (aF W x),.lst ([t.p,t.q].map pD),iD (Wh t.fr.length)]) rfl (e4 (p:=(.sh,Gd)) (q:=(.bo 11 k0,dN c λx=>F (aF W x))) (u:=(.fr k0,.lst ([t.p,t.q].map pD))) (t:=(.sh,iD (Wh t.fr.length))) rfl rfl (iS (kds:=[(.sh,pD t.p),(.sh,pD t.q)]) (e2 rfl rfl) #[rfl,∎]) (bd (U:=ψ6) rfl (e1 (N rfl)) rfl rfl (jM hl) rfl)) (jP G _) rfl hc rfl) rfl ⋯ ?_;show bN (wc rfl (λJ=>rfl) rfl rfl rfl O k1 Y) rfl (eK rfl rfl)
  let⟨r0,e,x,I,rfl⟩:=s3
  let eb:qR [fS Gd,fS S,fS (cj t),L,L,L,L,L,L,L,L,L,L]=B r0:=by
   delta qR;rw[s1];dsimp only[cq];rw[s2];cbv;rw[e]
  rw[eb,I];rfl
def oU(l:-P2):eZ 90 (.lst (l.map de))=Uj:=by
 change(decide (1<=90)&&ll 89 (l.map de))=Uj;rw[kK λd a=>?_]
 .rfl
 .let⟨x,z_,rfl⟩:=Qv.mp a;rfl
def eW(W:Wd)(O R:-St):-P2:=(Qo W.c.ins).map (λk=>(sp 0 k,sp 1 k))++(O++R).map λt=>(t.p,t.q)
abbrev M9(W:Wd)(R hp he U en:D)(x7 x8 O:@&Sl):Ro:=[fS (cD W.c),fS (cD W.c'),fS R,fS hp,fS he,fS U,fS en,x7,x8,O]
def uc{W:Wd}(h:my W){m r:-St}{s:-Nat}(P:AM W m r s)(E A y:St->Bool)
  (hE:s.map (λn=>(eW W m r)[n]?)=TF (λa b=>B (sp 0 a,sp 1 b)) W.c.outs W.c'.outs)
  (h14:∀t∈m,Iw [bG W,cj t]=B (.sh,.bl Uj)) (h15:∀t∈m,BE [bG W,cj t]=B (.sh,.bl (E t)))
  (h16:∀t∈r,DN [bG W,bP (eW W m r),cj t]=B (.sh,.bl (A t))) (h17:∀t∈m,BF [bG W,bP (eW W m r),cj t]=B (.sh,.bl (y t))) :
  IC [cD W.c,cD W.c',D3 W m r s]=B (.sh,.bl (m.all E&&(r.all A&&m.all y))):=by
 let X:=h.c.bi;let V:=h.c.bo;let b1:=P.bh;let b2:=P.bc;let lo:=P.lo;let N:=AN h P;let H:=xI h
 let two:∀{Z:Ro} {e F:IE} {j k:Nat},aa Γ_35.fn e Z=B (.sh,iD j)->aa Γ_35.fn F Z=B (.sh,iD k)->aa Γ_35.fn (.tup .fz (.cons (.tup .fz (.cons (.lit (.int 0)) (.cons e .nil))) (.cons (.tup .fz (.cons (.lit (.int 1)) (.cons F .nil))) .nil))) Z=B (.sh,de (sp 0 j,sp 1 k)):=λ{Z e F j k} m K=>
  iT (kds:=[(.sh,pD (sp 0 j)),(.sh,pD (sp 1 k))]) (e2 (fW rfl m) (fW rfl K)) #[rfl,∎]
 let M:(eW W m r).map de=((Qo W.c.ins).map λk=>de (sp 0 k,sp 1 k))++(m++r).map λt=>de (t.p,t.q):=by
  delta eW;rw[Qy,QA,QA];rfl
 delta IC;show eJ rfl ?_;delta Oq;generalize O:D3 W m r s=pa at *;erw[fS (cD W.c),fS (cD W.c'),fS pa,L,L,L,L,L,L,L];let v:∀{Z:Ro} {e:IE} {c:Ci} (n:Nat) d,aa Γ_35.fn e Z=B (.sh,cD c)->[iD c.ins,D.lst (c.mems.map jL),.lst (c.gates.map eL),.lst (c.outs.map iD)][n]?=B d->aa Γ_35.fn (.ix e (.lit (.int (n:Int)))) Z=B (.sh,d):=λn d m h=>cv (k:=.sh) (k':=.sh) (n:=n) m rfl (.inr rfl) rfl h;show eI (z:=(!Uj)||!Uj) (x:=(.sh,.bl Uk)) (oN ((Md (v (c:=W.c) 0 _ rfl rfl) (v (c:=W.c') 0 _ rfl rfl)).trans #v[h.i,decide_eq_true rfl]) λJ=>gI ((Md (cg (l:=W.c.outs) (f:=iD) (k:=.sh) (v (c:=W.c) 3 _ rfl rfl) (.inl rfl)) (cg (l:=W.c'.outs) (f:=iD) (k:=.sh) (v (c:=W.c') 3 _ rfl rfl) (.inl rfl))).trans #v[h.o,decide_eq_true rfl])) (λe=>by ext e) λJ=>?_;show eI (z:=!Uj) (x:=(.sh,.bl Uk)) (dL (qU (k:=.sh) (bd (U:=LY) (p:=(.sh,.bl Uj)) (ds:=[cD W.c,cD W.c',pa]) rfl (e3 (p:=(.sh,cD W.c)) (q:=(.sh,cD W.c')) (u:=(.sh,pa)) rfl rfl rfl) rfl rfl N rfl))) (λe=>by ext e) λJ=>?_;show dQ (ds:=[rh W.hs,sL m,sL r,bX s]) (by rw[<- O];rfl) #[rfl,rfl] ?_;change Wp (ao _ _ _ [] (M9 W pa (rh W.hs) (sL m) (sL r) (bX s) L L L)) _;show aJ (bd (U:=L0) (ds:=[cD W.c,cD W.c',rh W.hs]) rfl (e3 (p:=(.sh,cD W.c)) (q:=(.sh,cD W.c')) (u:=(.sh,rh W.hs)) rfl rfl rfl) rfl rfl H rfl) rfl ⋯ ?_;change Wp (ao _ _ _ [] (M9 W pa (rh W.hs) (sL m) (sL r) (bX s) (B #[Uk,kG,bG W]) L L)) _;show aJ (x:=(.fr k0,bP (eW W m r))) ((vU (k:=.fr k0) (k':=.fr k0) (xs:=(Qo W.c.ins).map λk=>de (sp 0 k,sp 1 k)) (ys:=(m++r).map λt=>de (t.p,t.q)) #[rfl,rfl,by simp;lia] (DT (k:=.sh) (v (c:=W.c) 0 _ rfl rfl) ∅ λi J=>xR rfl (wv (two rfl rfl) #[_,rfl,rfl])) (qW (l:=m++r) (f:=cj) (k:=.fr bQ) (hd:=.lst) (.inl rfl) ((vU (k:=.sh) (k':=.sh) #[rfl,rfl,by simp;lia] rfl rfl).trans #v[Qy]) rfl (by simp;lia) λt w=>xR rfl (wv (AK (n:=2) (xs:=[pD t.p,pD t.q,gf t.fr,bX t.gv]) rfl ∎) #[_,rfl,rfl]))).trans (by change B (Kd.fr bQ,D.lst _)=B (Kd.fr k0,D.lst ((eW W m r).map de));rw[M])) rfl ⋯ ?_;let Y:(eW W m r).length<=1000:=by delta eW;simp;lia
 generalize eW W m r=SL at *;change Wp (ao _ _ _ [] (M9 W pa (rh W.hs) (sL m) (sL r) (bX s) (B #[Uk,kG,bG W]) (bw (bP SL)) L)) _
 let C:sP (B (.sh,.lst (W.c.outs.map iD))) (B (.sh,.lst (W.c'.outs.map iD)))=B ([],(W.c.outs.zip W.c'.outs).map λx=>.tup [iD x.1,iD x.2]):=by
  change B (([]:-Nat),xc (W.c.outs.map iD) (W.c'.outs.map iD))=_;delta xc;rw[Uf,List.zip,S6]
 show aJ (x:=(.fr k0,.lst ((W.c.outs.zip W.c'.outs).map λx=>de (sp 0 x.1,sp 1 x.2)))) (aK (eT (zT (wv (v (c:=W.c) 3 _ rfl rfl) (wv (v (c:=W.c') 3 _ rfl rfl) (wv C #[by simp;lia,(nv (f:=λx:Nat×Nat=>.tup [iD x.1,iD x.2]) (g:=λx=>de (sp 0 x.1,sp 1 x.2)) λx S=>M7 rfl (wv (two rfl rfl) #[_,rfl,rfl])).mono λys e=>by rw[e]])))))) rfl ⋯ ?_;change Wp (ao _ _ _ [] (M9 W pa (rh W.hs) (sL m) (sL r) (bX s) (B #[Uk,kG,bG W]) (bw (bP SL)) (bw (.lst ((W.c.outs.zip W.c'.outs).map λx=>de (sp 0 x.1,sp 1 x.2)))))) _;let T:(W.c.outs.zip W.c'.outs).map (λx=>de (sp 0 x.1,sp 1 x.2))=((W.c.outs.zip W.c'.outs).map λx=>((sp 0 x.1,sp 1 x.2):P2)).map de:=by rw[QA];rfl
 let R:∀n∈s,Σx,SL[n]?=B x:=λn I=>by
  have:SL[n]?∈s.map (λn=>SL[n]?):=Qv.mpr #[n,I,rfl];rw[hE] at this;rw[List.zipWith_eq_zipWith_take_min] at this;let⟨i,v⟩:=RX.mp this;rw[Sm] at v;ext v v
  .rwa[_,(Option.some.inj v).symm]
  .ext v
 let Q:s.map (λn=>(SL[n]?).getD (sp 0 0,sp 0 0))=(W.c.outs.zip W.c'.outs).map λx=>((sp 0 x.1,sp 1 x.2):P2):=by
  have:=congrArg (Sb λo:@&P2=>o.getD (sp 0 0,sp 0 0)) hE;rw[QA,S6] at this;rw[List.zip,S6];show this
 show bN (x:=(.sh,.bl (Uj&&(Uj&&(m.all E&&(r.all A&&m.all y)))))) (cI (x:=Uj) (gJ (c5 (d':=.lst ((W.c.outs.zip W.c'.outs).map λx=>de (sp 0 x.1,sp 1 x.2))) (qW (k:=.sh) (hd:=.lst) (l:=s) (f:=iD) (g:=λn=>de ((SL[n]?).getD (sp 0 0,sp 0 0))) (.inl rfl) rfl rfl ∅ λn I=>xR rfl (wv (cv (k:=.bo 2 k0) (k':=.sh) (n:=n) (hd:=.lst) (xs:=SL.map de) rfl rfl (.inl rfl) rfl (by let⟨x,S⟩:=R n I;rw[Qc,S];rfl)) #[_,rfl,rfl])) rfl ?_)) λJ=>cI (x:=Uj) (lW (l:=m) (f:=cj) (k:=.sh) (.inl rfl) rfl rfl ∅ (λJ=>rfl) λt w=>gH (U:=Iw) (p:=(.sh,.bl Uj)) (ds:=[bG W,cj t]) rfl (e2 (p:=(.bo 3 kG,bG W)) (q:=(.sh,cj t)) rfl rfl) rfl rfl (h14 t w) rfl) λJ=>cI (rq (l:=m) (f:=cj) (k:=.sh) E (.inl rfl) rfl rfl ∅ (λJ=>rfl) λt w=>gH (U:=BE) (p:=(.sh,.bl (E t))) (ds:=[bG W,cj t]) rfl (e2 (p:=(.bo 3 kG,bG W)) (q:=(.sh,cj t)) rfl rfl) rfl rfl (h15 t w) rfl) λJ=>cI (rq (l:=r) (f:=cj) (k:=.sh) A (.inl rfl) rfl rfl ∅ (λJ=>rfl) λt w=>gH (U:=DN) (p:=(.sh,.bl (A t))) (ds:=[bG W,bP SL,cj t]) rfl (e3 (p:=(.bo 3 kG,bG W)) (q:=(.bo 4 k0,bP SL)) (u:=(.sh,cj t)) rfl rfl rfl) rfl rfl (h16 t w) rfl) λJ=>fj (rq (l:=m) (f:=cj) (k:=.sh) y (.inl rfl) rfl rfl ∅ (λJ=>rfl) λt w=>gH (U:=BF) (p:=(.sh,.bl (y t))) (ds:=[bG W,bP SL,cj t]) rfl (e3 (p:=(.bo 3 kG,bG W)) (q:=(.bo 4 k0,bP SL)) (u:=(.sh,cj t)) rfl rfl rfl) rfl rfl (h17 t w) rfl)) rfl (eK rfl rfl);rw[T,<- Q,show(s.map λn=>de ((SL[n]?).getD (sp 0 0,sp 0 0)))=(s.map (λn=>(SL[n]?).getD (sp 0 0,sp 0 0))).map de by rw[QA];rfl];show(if_pos #[oU _,oU _]).trans (congrArg B (qH (oU _)))
noncomputable abbrev kS:Ow:=.own [.own [] .fz] .fz
abbrev rN(ds:-Int)(t k:Int):D:=.lst [.lst (ds.map D.int),.int t,.int k]
structure Eb(n:Nat)(d:D):Prop where
 ex:Σ(ds:-Int) (t k:Int),d=rN ds t k/\(∀x∈ds,0<=x)/\ds.length<=63/\0<=t/\t<1000000000000000009/\0<=k/\k<=n
abbrev sS(d:D):@&Sl:=B #[Uk,kS,d]
section
variable {Γ:Nat->@&Fn} {Z:Ro} {a b:IE} {k k':Kd} {i j:Int}
theorem gM(h:i.natAbs<lim/\j.natAbs<lim)(d:aa Γ a Z=B (k,.int i))(c:aa Γ b Z=B (k',.int j)):aa Γ (.bin .Mult a b) Z=B (.sh,.int (i*j)):=aK (aU (wv d (wv c (zV h rfl))))
theorem ud(h:0<j/\j.natAbs<lim)(d:aa Γ a Z=B (k,.int i))(c:aa Γ b Z=B (k',.int j)):aa Γ (.bin .FloorDiv a b) Z=B (.sh,.int (i / j)):=aK (aU (wv d (wv c (DB h rfl))))
theorem bS(i:Int):aa Γ (.lit (.int i)) Z=B (.sh,.int i):=rfl
end
theorem bY{z:Int}(h:z.natAbs<2^64):z.natAbs<lim:=Sw h (by delta lim;decide)
theorem jQ(z m:Int)(a:0<m):0<=z%m/\z%m<m:=#[Int.emod_nonneg z ∅,TM z a]
def A6(t k:Int)(a:0<=k)(h1:k<=100000):Σz:Int,JI [.int t,.int k]=B (.sh,.int z):=by
 suffices h:Wp (JI [.int t,.int k]) λr=>Σz:Int,r=(.sh,.int z) by
  let⟨r,e,z,rfl⟩:=h;rwa[z,e]
 delta JI;show qG rfl ?_;delta OF;let n:k*k<=100000*100000:=Int.mul_le_mul h1 h1 a ⋯;let f:0<=k*k:=Int.mul_nonneg a a;let l:2*k*k=2*(k*k):=Int.mul_assoc 2 k k;let⟨o,p⟩:=jQ t 2147483647 ⋯;erw[fS (.int t),fS (.int k),L];show aJ (iP ⋯ (cG (cG (gM #[bY ∅,bY ∅] (iP ⋯ rfl (bS 2147483647)) (cG (bS 48271) (gM #[bY ∅,bY ∅] (gM #[by decide,bY ∅] (bS 2) rfl) rfl))) (gM #[by decide,bY ∅] (bS 7919) rfl)) (bS 12345)) (bS 2147483629)) rfl ⋯ ?_;let⟨b0,b1⟩:=jQ (t%2147483647*(48271+2*k*k)+7919*k+12345) 2147483629 ⋯;generalize (t%2147483647*(48271+2*k*k)+7919*k+12345)%2147483629=y at b0 b1⊢;erw[fS (.int t),fS (.int k),fS (.int y)];show aJ (ud #[by decide,⋯] (iP ⋯ (gM #[bY ∅,bY ∅] rfl rfl) (bS 2147483587)) (bS 3)) rfl ⋯ ?_;let⟨g,m⟩:=jQ (y*y) 2147483587 ⋯;let b:0<=y*y%2147483587 / 3:=Int.ediv_nonneg g ⋯;let c:y*y%2147483587 / 3<2147483587:=∅
 generalize y*y%2147483587 / 3=x at b c⊢;erw[fS (.int t),fS (.int k),fS (.int x)];let⟨q,d⟩:=jQ (x*69621+16807*k+1) 2147483579 ⋯;let⟨j,i⟩:=jQ x 65521 ⋯;show bN (ud #[by decide,⋯] (iP ⋯ (gM #[bY ∅,bY ∅] (iP ⋯ (cG (cG (gM #[bY ∅,⋯] rfl (bS 69621)) (gM #[by decide,bY ∅] (bS 16807) rfl)) (bS 1)) (bS 2147483579)) (cG (iP ⋯ rfl (bS 65521)) (bS 1))) (bS 2147483563)) (bS 5)) rfl (eG rfl #[_,rfl])
def Ec{Q:Kd×D×Ro->Prop}(q:Q (.sh,.int x,sS (rN ds t k)::Z')):Wp (bT Γ (.mut "pop" (.ix (.nm 0) (.lit (.int 0))) (.cons (.lit (.int 0)) .nil)) (sS (rN (x::ds) t k)::Z')) Q:=by
 rwa[_,?_,q];rw[ol,bf,bf,uP];change mr "pop" 0 (xh Γ.fn (.ix (.nm 0) (.lit (.int 0))) (sS (rN (x::ds) t k)::Z')) (B [(.sh,.int 0)]) (sS (rN (x::ds) t k)::Z')=_;let a:xh Γ.fn (.ix (.nm 0) (.lit (.int 0))) (sS (rN (x::ds) t k)::Z')=B (k0,.lst ((x::ds).map D.int),λz=>.lst [z,.int t,.int k]):=rfl;rw[a];let b:seqIndex? 0 (D.int x::ds.map D.int).length=B 0:=by unfold seqIndex?;simp
 have:oh "pop" [] .fz (.int x::ds.map D.int) [(.sh,.int 0)]=B (.int x,ds.map D.int):=by
  change(if fD (.own [] .fz)=Uj/\-(2^63)<=(0:Int)/\(0:Int)<2^63 then(match seqIndex? 0 (D.int x::ds.map D.int).length with|some j=>((D.int x::ds.map D.int)[j]?).map λy=>(y,(D.int x::ds.map D.int).eraseIdx j)|none=>L) else L)=_
  rw[if_pos #[rfl,⋯,⋯],b];rfl
 delta mr;cbv;rw[show oh "pop" [] .fz ((x::ds).map D.int) [(.sh,.int 0)]=B (.int x,ds.map D.int) from this];rfl
def Ed{n:Nat}{d:D}{m:Nat}{Q:Kd×D×-(@&mn)->Prop}(h:Eb n d)(S:n<=1000)(R:0<m)(v:m<2^64)(q:∀(r:Nat) d',r<m->Eb (n+1) d'->Q (.sh,iD r,[B (kS,d'),L])):Wp (L3 [(kS,d),(.fz,iD m)]) Q:=by
 let N:((m:Nat):Int).natAbs<lim:=by
  rw[TH];show Sw v (by delta lim;decide)
 let H:∀z:Int,Σr:Nat,z%(m:Int)=(r:Int)/\r<m:=λz=>by
  let T:=Int.emod_nonneg z (show(m:Int)≠0 by lia);let O:=TM z (show(0:Int)<(m:Int) by lia);rwa[(z%(m:Int)).toNat,∅,∅]
 let⟨ds,t,k,rfl,f,s,t0,F,w,P⟩:=h.ex;delta L3;show LI rfl ?_;delta LS;change Wp (ao _ _ _ [0] [sS (rN ds t k),fS (iD m),L]) _;show Fg (λj Z=>Σds:-Int,ds.length=j/\(∀x∈ds,0<=x)/\ds.length<=63/\Z=[sS (rN ds t k),fS (iD m),L]) (m0:=ds.length) ∅ #[ds,rfl,f,s,rfl] λj Z K=>?_;let⟨ds,rfl,f,s,rfl⟩:=K;let o:∀{ds:-Int} {x2:@&Sl},aa Γ_22.fn (.ix (.var 0) (.lit (.int 0))) [sS (rN ds t k),fS (iD m),x2]=B (.bo 0 k0,.lst (ds.map D.int)):=λ{ds x2}=>cv (k:=.bo 0 kS) (k':=.sh) (n:=0) (hd:=.lst) (xs:=[.lst (ds.map D.int),.int t,.int k]) rfl rfl (.inl rfl) rfl rfl
 let a:∀{ds:-Int} {x2:@&Sl},aR Γ_22.fn (.cmp .Gt (.blt "len" (.cons (.ix (.var 0) (.lit (.int 0))) .nil)) (.lit (.int 0))) [sS (rN ds t k),fS (iD m),x2]=B (decide (0<ds.length)):=λ{ds x2}=>by
  rw[Mc (k:=.sh) (k':=.sh) (nj (n:=ds.length) o (congrArg B (Qa _))) (bS 0)];congr 1;show decide_eq_decide.mpr ∅
 let b:∀{x:Int} {ds:-Int} {x2:@&Sl},aa Γ_22.fn (.ix (.ix (.var 0) (.lit (.int 0))) (.lit (.int 0))) [sS (rN (x::ds) t k),fS (iD m),x2]=B (.sh,.int x):=λ{x ds x2}=>cv (k:=.bo 0 k0) (k':=.sh) (n:=0) (hd:=.lst) (xs:=(x::ds).map D.int) o rfl (.inl rfl) rfl rfl
 let c:(ds=[]\/Σx r,ds=x::r/\x≠0)->Wp (ao Γ_22 1000 (aH LS 1) [0] [sS (rN ds t k),fS (iD m),L]) λr=>Wp (iM 2 [0] (B r)) Q:=λM=>by
  unfold LS aH aH;obtain rfl|⟨x,ds,rfl,p⟩:=M
  .show ko (z:=Uk) a (λe=>by ext e) λY=>fU ?_;show m9 (eE (wv (cG (k:=.sh) (k':=.sh) (i:=k) (j:=1) (cv (k:=.bo 0 kS) (k':=.sh) (n:=2) (hd:=.lst) (xs:=[.lst (([]:-Int).map D.int),.int t,.int k]) rfl rfl (.inl rfl) rfl rfl) rfl) (xp rfl (bA (jI rfl rfl rfl (jJ (r:=(.lst,[.lst (([]:-Int).map D.int),.int t,.int (k+1)])) rfl ?_))))));let⟨z,I⟩:=A6 t (k+1) ∅ ∅;let⟨r,e,E⟩:=H z;change Wp (ao _ _ _ [0] [sS (rN [] t (k+1)),fS (iD m),L]) _;show bN (iP ∅ (bd (U:=JI) (ds:=[.int t,.int (k+1)]) rfl (e2 (cv (k:=.bo 0 kS) (k':=.sh) (n:=1) (hd:=.lst) (xs:=[.lst (([]:-Int).map D.int),.int t,.int (k+1)]) rfl rfl (.inl rfl) rfl rfl) (cv (k:=.bo 0 kS) (k':=.sh) (n:=2) (hd:=.lst) (xs:=[.lst (([]:-Int).map D.int),.int t,.int (k+1)]) rfl rfl (.inl rfl) rfl rfl)) rfl rfl I rfl) rfl) rfl (z8 rfl ?_);change Q (.sh,.int (z%(m:Int)),_);rw[e]
   show q r _ E #[[],t,k+1,rfl,λx f=>(nomatch f),∎,t0,F,∅,∅]
  .show ko (z:=Uj) (a.trans #v[decide_eq_true ∎]) (λY=>?_) λe=>by ext e
   let⟨r,e,E⟩:=H x;let u:=f x Qr;let A:∀y∈ds,0<=y:=λy g=>f y (Qh _ g);let C:0<=x / (m:Int):=Int.ediv_nonneg u ∅;let l:=iP (Γ:=Γ_22.fn) (k:=.sh) (k':=.sh) (j:=(m:Int)) ∅ (b (x:=x) (ds:=ds) (x2:=L)) (show aa Γ_22.fn (.var 1) [sS (rN (x::ds) t k),fS (iD m),L]=B (.sh,.int m) from rfl);rw[e] at l;show aJ l rfl ⋯ ?_;change Wp (ao _ _ _ [0] [sS (rN (x::ds) t k),fS (iD m),fS (iD r)]) _;show m9 (eE (wv (ud (k:=.sh) (k':=.sh) (i:=x) (j:=(m:Int)) #[by lia,N] b rfl) (xp rfl (bA (jI rfl rfl rfl (jJ (r:=(.lst,.int (x / (m:Int))::ds.map D.int)) ?_ ?_))))))
   .change(match jY ((x::ds).map D.int).length 0 with|some j=>if bR .fz (.sh,.int (x / (m:Int)))=Uj then B (Hd.lst,((x::ds).map D.int).set j (.int (x / (m:Int)))) else L|none=>L)=_
    rw[oI ⋯ ∎];rfl
   .change Wp (ao _ _ _ [0] [sS (rN (x / (m:Int)::ds) t k),fS (iD m),fS (iD r)]) _;show bN (x:=(.sh,iD r)) rfl rfl (vM (z8 rfl (q r _ E #[x / (m:Int)::ds,t,k,rfl,λy g=>?_,s,t0,F,w,∅])));obtain rfl|g:=Qf.mp g
    .show C
    .show A y g
 obtain _|⟨x,ds⟩:=ds
 .show lQ (wv (nq (x:=Uk) (y:=Uj) a λe=>by ext e) #[λY=>c (.inl rfl),λe=>by cases e])
 .by_cases p:x=0
  .show lQ (wv (nq (x:=Uj) (y:=Uj) (a.trans #v[decide_eq_true ∎]) λY=>gI ((t5 b (bS 0)).trans #v[decide_eq_true p])) #[λe=>(by ext e),λY=>?_]);show vN (Ec (aL (.inl #[_,ds.length,.inl rfl,∎,ds,rfl,λy g=>f y (Qh _ g),by simp at s;lia,rfl])))
  .show lQ (wv (nq (x:=Uj) (y:=Uk) (a.trans #v[decide_eq_true ∎]) λY=>gI ((t5 b (bS 0)).trans #v[decide_eq_false p])) #[λY=>c (.inr #[x,ds,rfl,p]),λe=>by cases e])
def A7{Γ:GG}{Z:Ro}{i m n:Nat}{Q:Kd×D×Ro->Prop}(l:Γ.fm 23=B L3)(b:Z[i]?=B (sS d))(h:Eb n d)(f:n<=1000)(o:aa Γ.fn e Z=B (.sh,iD m))(c:0<m)(a:m<2^64)(q:∀(r:Nat) d',r<m->Eb (n+1) d'->Q (.sh,iD r,Z.set i (sS d'))):Wp (bT Γ (.io 23 (.ref i (.val (.p e) .nil))) Z) Q:=by
 show LF l (zZ b (z4 (eE (wv o ?_))));rwa[rfl,zY #[by simp[dC],[(kS,d),(.fz,iD m)],?_,Ed h f c a λr d' j g=>#[rfl,rfl,q r d' j g]]]
 change(match Z[i]?,B [((.fz:Ow),iD m)] with|some (B ⟨Uk,k,d⟩),B ks=>B ((k,d)::ks)|_,_=>L)=_
 rw[b]
theorem FD{f:D->@&(@&KD)}(P:D->Prop):∀{ds:-D},(∀d∈ds,Wp (f d) λo=>o=L\/Σb,o=B b/\bR r b=Uj/\P b.2)->Wp (aQ r f ds) λys=>ys.length<=ds.length/\∀y∈ys,P y
 |[],_=>#[[],rfl,Qe _,λy a=>by simp at a]
 |d::ds,h=>by
  let⟨ys,e1,k,c⟩:=FD P (ds:=ds) λx g=>h x (Qh _ g);let⟨o,e2,e⟩:=h d Qr;obtain rfl|⟨b,rfl,j,i⟩:=e
  .rwa[ys,by simp[aQ,e1,e2],by simp;lia,c]
  .rwa[b.2::ys,by simp[aQ,e1,e2,j],by simp;lia,λy a=>?_];obtain rfl|a:=Qf.mp a
   .show i
   .show c y a
theorem A8{Q:KD->Prop}{i:Int}(q:Q (.sh,.int (if i<0 then -(i:Int) else i))):Wp (iq "abs" [(k,.int i)]) Q:=#[_,rfl,q]
theorem wf:∀{ys:-D},(∀y∈ys,Σz:Int,y=.int z/\0<=z)->Σzs:-Int,ys=zs.map D.int/\∀z∈zs,0<=z
 |[],_=>#[[],rfl,λz b=>by simp at b]
 |y::ys,h=>by
  let⟨zs,rfl,b⟩:=wf (ys:=ys) λx a=>h x (Qh _ a);let⟨z,rfl,c⟩:=h y Qr;rwa[z::zs,rfl,λx a=>(Qf.mp a).elim (λe=>e▸c) (b x)]
theorem wg:aa Γ (.bin .Pow (.lit (.int 10)) (.lit (.int 18))) Z=B (.sh,.int 1000000000000000000):=aK (aU (bA (bA (zW ⋯ rfl))))
def A9{ns:-Int}(o:ns.length<=63){Q:KD->Prop}(q:∀d,Eb 0 d->Q (.fr kS,d)):Wp (L1 [.scr ns]) Q:=by
 delta L1;show qG rfl ?_;delta OG;erw[fS (.scr ns),L,L];show aJ (bS 0) rfl ⋯ ?_;show gG (ff (km (a7 rfl (z6 #[λs Z=>Σ(t:Int) (c:@&Sl),Z=[fS (.scr ns),fS (.int t),c]/\0<=t/\t<1000000000000000009,#[0,L,rfl,⋯,⋯],λs d Z a b=>?_,λZ b=>?_]))))
 .let⟨t,c,rfl,g,h⟩:=b;let a:(ns.map D.int)[s]?=B d:=a;rw[Qc] at a
  cases e:ns[s]? with
  |none=>rw[e] at a;ext a
  |some z=>
   rw[e] at a;ext a;rwa[[(2,.int z)],rfl,rfl,?_];erw[fS (.scr ns),fS (.int t),fS (.int z)];let⟨l,m⟩:=jQ (t*31+z) 1000000000000000009 ⋯;show aJ (iP (j:=1000000000000000009) ⋯ (cG (gM #[bY ∅,⋯] rfl (bS 31)) rfl) (cG wg (bS 9))) rfl ⋯ (aL #[_,.inl rfl,_,_,rfl,l,m])
 .let⟨t,c,rfl,g,h⟩:=b;show fN (eE (tN (aS (eT (km (a7 rfl (z6 #[by rw[Qa];lia,(FD (λy=>Σz:Int,y=.int z/\0<=z) λd a=>?_).mono λn f=>?_])))))))
  .let⟨z,z_,rfl⟩:=Qv.mp a;show A0 (ps:=[(1,.int z)]) rfl rfl (tP (gX (aS (a7 rfl (cF (A8 (wv wg (EW #[λY=>gX (aS (a7 rfl (cF (A8 (.inr #[_,rfl,rfl,_,rfl,?_]))))),λY=>.inl rfl]))))))))
   split<;>lia
  .let⟨i,rfl,k⟩:=wf f.2;rw[Qa,Qa] at f;show aS (a7 rfl (aS (bA (cF (tV rfl #[rfl,eG rfl (q _ #[i,t,0,rfl,k,∅,g,h,⋯,⋯])])))))
def wj(m:Nat):(gP 0 (m:Int)).length=m:=by rw[kO,Qa,QC]
theorem eX{p q:Nat}(c:aa Γ a Z=B (k,iD p))(d:aa Γ b Z=B (k',iD q)):aa Γ (.bin .Add a b) Z=B (.sh,iD (p+q)):=cG c d
def IZ{r:Nat}(h:r<2):Σb:Bool,bD b=iD r:=by
 match r,h with
 |0,_=>rwa[Uk,rfl]
 |1,_=>rwa[Uj,rfl]
section
variable {Γ:GG} {N:Nat} {pn:-Nat} {Z:Ro} {Q:Res->Prop} {rest:bq}
def My{n:Nat}(j:aa Γ.fn e Z=B (k,iD n))(l:n<=100000)(I:Nat->Ro->Prop)(h:I 0 Z)(g:∀(i:Nat) Z,i<n->I i Z->Σps,sV tg (iD i)=B ps/\(ps.all λq=>!pn.contains q.1)=Uj/\Wp (ao Γ N b pn (setAll ps (clrN fg Z))) λr=>ΣZ',(r=.nx Z'\/r=.ct Z')/\I (i+1) Z')(hq:∀Z,I n Z->Wp (ao Γ N rest pn (clrN fg Z)) Q):Wp (ao Γ N (.cons (.fo fg tg (.p (.rng (.lit (.int 0)) e)) b) rest) pn Z) Q:=by
 show gG (ff (oG (bA (wv j (tT (gY ∅ ∅ ∅ ∅ ∅) #[I,h,λi d Z a c=>?_,λZ c=>?_])))))
 .let a:(gP 0 (n:Int))[i]?=B d:=a;rw[kO,Qc] at a
  let f:i<n:=by
   show S1 λz=>?_;rw[QT (by rw[QC];show z)] at a;ext a
  rw[QU f] at a;ext a;rw[show pn++([]:-Nat)=pn from Q1 pn];show g i Z f c
 .let c:I (gP 0 (n:Int)).length Z:=c;rw[wj] at c;show hq Z c
end
section
variable {Γ:Nat->@&Fn} {Z:Ro} {a b:IE} {k k':Kd} {x y:Nat} {p q:Bool}
theorem oV(d:aa Γ a Z=B (k,bD p))(c:aa Γ b Z=B (k',bD q)):aa Γ (.bin .BitXor a b) Z=B (.sh,bD (p ^^ q)):=aK (aU (wv d (wv c (eU (a:=p.toNat) (b:=q.toNat) (by cases p<;>cases q<;>rfl)))))
def Ba(e:x<2^64)(f:y<=1000)(d:aa Γ a Z=B (k,iD x))(c:aa Γ b Z=B (k',iD y)):aa Γ (.bin .LShift a b) Z=B (.sh,iD (x*2^y)):=by
 show aK (aU (wv d (wv c (oH #[by lia,∅,bY ∅] ?_))));rw[QV];show congrArg (λz:Int=>(Kd.sh,D.int z)) (by rw[Td,Int.natCast_pow];rfl)
def I0(f:x<2^64)(e:y<2^64)(d:aa Γ a Z=B (k,iD x))(c:aa Γ b Z=B (k',iD y)):aa Γ (.bin .Mult a b) Z=B (.sh,iD (x*y)):=by
 rw[gM #[bY ∅,bY ∅] d c];change B (Kd.sh,D.int _)=B (Kd.sh,D.int _);rw[Td]
theorem Bb{x i:Nat}(d:aa Γ a Z=B (k,iD x))(c:aa Γ b Z=B (k',iD i)):aa Γ (.bin .BitAnd (.bin .RShift a b) (.lit (.int 1))) Z=B (.sh,bD (x.testBit i)):=aK (AD (wv d rfl) (wv c rfl) rfl)
def Ja{x:Nat}(c:aa Γ a Z=B (k,iD x)):aa Γ (.bin .BitAnd a (.lit (.int 1))) Z=B (.sh,bD (x.testBit 0)):=by
 show aK (aU (wv c (bA (t6 (k:=k) (k':=.sh) (a:=x) (b:=1) ?_))));rw[Nat.and_one_is_mod,Nat.testBit_zero];have:x%2=0\/x%2=1:=∅
 obtain e|e:=this<;>rw[e]<;>rfl
end
def ue(m:Nat):L4 [iD m]=B (.sh,.tup ([0,1,m].map iD)):=by
 delta L4;show eJ rfl ?_;delta OH;show bN (iT (kds:=[(.sh,iD 0),(.sh,iD 1),(.sh,iD m)]) (e3 rfl rfl rfl) #[rfl,∎]) rfl (eK rfl rfl)
meta def ps(f:Nat->Bool):Nat->Nat
 |0=>0
 |n+1=>ps f n+(f n).toNat*2^n
theorem Bc(f:Nat->Bool):∀n,ps f n<2^n
 |0=>Nat.one_pos
 |n+1=>by
  have:=Bc f n
  let a:(f n).toNat<=1:=by cases f n<;>decide
  have:=Nat.mul_le_mul_right (2^n) a;rw[S3];change ps f n+(f n).toNat*2^n<_
  lia
theorem Bd(f:Nat->Bool):∀{n i:Nat},i<n->(ps f n).testBit i=f i
 |n+1,i,h=>by
  change(ps f n+(f n).toNat*2^n).testBit i=f i
  rw[RI,SZ,Nat.testBit_two_pow_mul_add _ (Bc f n)];by_cases e:i<n
  .rw[if_pos e,Bd f e]
  .obtain rfl:i=n:=∅
   rw[if_neg e,Sc]
   cases f i<;>decide
meta def old(a b:Bool)(i:Nat):Nat:=(i.testBit 0).toNat+(i.testBit 1 ^^ a).toNat*2^1+(i.testBit 2 ^^ b).toNat*2^2
def iV(t:Nat)(a b l:Bool)(i:Nat):Bool:=t.testBit (old a b i) ^^ l
def Be(t:Nat)(a b l:Bool):Nat:=ps (iV t a b l) 8
def xM{t m:Nat}{c:-Bool}(h1:1<=m)(A:c[0]?=B a)(w:c[m-1]?=B b):L5 [iD t,.lst (c.map bD),iD m,bD l]=B (.sh,iD (Be t a b l)):=by
 delta L5;show eJ rfl ?_;delta OI;erw[fS (iD t),fS (.lst (c.map bD)),fS (iD m),fS (bD l),L,L,L,L];show aJ (x:=(.sh,iD 0)) rfl rfl ⋯ ?_;show My (n:=8) rfl ⋯ (λi Z=>i<=8/\Σo g r,Z=[fS (iD t),fS (.lst (c.map bD)),fS (iD m),fS (bD l),fS (iD (ps (iV t a b l) i)),o,g,r]) #[by decide,L,L,L,rfl] (λi Z D s=>?_) λZ s=>?_
 .let⟨z_,o,g,r,rfl⟩:=s;let C:=Bc (iV t a b l) i;let v:2^i<=2^8:=Rq ⋯ ∅;rwa[[(5,iD i)],rfl,rfl,?_];erw[fS (iD t),fS (.lst (c.map bD)),fS (iD m),fS (bD l),fS (iD (ps (iV t a b l) i)),fS (iD i),L,L];show aJ (x:=(.fr k0,.lst [bD (i.testBit 0),bD (i.testBit 1),bD (i.testBit 2)])) (iS (kds:=[(.sh,bD (i.testBit 0)),(.sh,bD (i.testBit 1)),(.sh,bD (i.testBit 2))]) (e3 (Ja (k:=.sh) rfl) (Bb (k:=.sh) (k':=.sh) (i:=1) rfl rfl) (Bb (k:=.sh) (k':=.sh) (i:=2) rfl rfl)) #[rfl,∎]) rfl ⋯ ?_;erw[fS (iD t),fS (.lst (c.map bD)),fS (iD m),fS (bD l),fS (iD (ps (iV t a b l) i)),fS (iD i),bw (.lst [bD (i.testBit 0),bD (i.testBit 1),bD (i.testBit 2)]),L];let f:∀(j:Nat) d,[bD (i.testBit 0),bD (i.testBit 1),bD (i.testBit 2)][j]?=B d->aa Γ_24.fn (.ix (.var 6) (.lit (.int (j:Int)))) [fS (iD t),fS (.lst (c.map bD)),fS (iD m),fS (bD l),fS (iD (ps (iV t a b l) i)),fS (iD i),bw (.lst [bD (i.testBit 0),bD (i.testBit 1),bD (i.testBit 2)]),L]=B (.sh,d):=λj d h=>cv (k:=.bo 6 k0) (k':=.sh) (n:=j) (hd:=.lst) rfl rfl (.inl rfl) rfl h
  let u:∀{e:IE} {p:Bool} (j:Nat),j<=1000->aa Γ_24.fn e [fS (iD t),fS (.lst (c.map bD)),fS (iD m),fS (bD l),fS (iD (ps (iV t a b l) i)),fS (iD i),bw (.lst [bD (i.testBit 0),bD (i.testBit 1),bD (i.testBit 2)]),L]=B (.sh,bD p)->aa Γ_24.fn (.bin .LShift e (.lit (.int (j:Int)))) [fS (iD t),fS (.lst (c.map bD)),fS (iD m),fS (bD l),fS (iD (ps (iV t a b l) i)),fS (iD i),bw (.lst [bD (i.testBit 0),bD (i.testBit 1),bD (i.testBit 2)]),L]=B (.sh,iD (p.toNat*2^j)):=λ{e p} j z h=>Ba (x:=p.toNat) (y:=j) (k':=.sh) (by cases p<;>decide) z h rfl
  show aJ (x:=(.sh,iD (old a b i))) (eX (p:=(i.testBit 0).toNat+(i.testBit 1 ^^ a).toNat*2^1) (q:=(i.testBit 2 ^^ b).toNat*2^2) (eX (p:=(i.testBit 0).toNat) (f 0 _ rfl) (u 1 ⋯ (oV (f 1 _ rfl) (cv (k:=.sh) (k':=.sh) (n:=0) (hd:=.lst) (xs:=c.map bD) rfl rfl (.inl rfl) rfl (by rw[Qc,A];rfl))))) (u 2 ⋯ (oV (f 2 _ rfl) (cv (k:=.sh) (n:=m-1) (hd:=.lst) (xs:=c.map bD) rfl (Fc (k:=.sh) (k':=.sh) (i:=(m:Int)) (j:=1) rfl rfl) (.inl rfl) ∅ (by rw[Qc,w];rfl))))) rfl ⋯ ?_
  erw[fS (iD t),fS (.lst (c.map bD)),fS (iD m),fS (bD l),fS (iD (ps (iV t a b l) i)),fS (iD i),bw (.lst [bD (i.testBit 0),bD (i.testBit 1),bD (i.testBit 2)]),fS (iD (old a b i))]
  show aJ (eX (k:=.sh) (p:=ps (iV t a b l) i) (q:=(iV t a b l i).toNat*2^i) rfl (Ba (k:=.sh) (k':=.sh) (x:=(iV t a b l i).toNat) (y:=i) (by cases iV t a b l i<;>decide) ∅ (oV (p:=t.testBit (old a b i)) (q:=l) (k':=.sh) (Bb (k:=.sh) (k':=.sh) rfl rfl) rfl) rfl)) rfl ⋯ (aL #[_,.inl rfl,∅,_,_,_,rfl])
 .let⟨z_,o,g,r,rfl⟩:=s;show bN rfl rfl (eK rfl rfl)
meta def gq(m:Nat)(bs:-Bool)(ts:-Nat):Ci:=#[1,bs.zipIdx.map λp=>(p.1,1+m+p.2),ts.map λt=>(t,[0,1,m]),[1+2*m]]
def lZ{m:Nat}{bs:-Bool}{ts:-Nat}(h1:bs.length<=10)(h2:ts.length<=10)(d:m<=10):JK [iD m,.lst (bs.map bD),.lst (ts.map iD)]=B (.sh,cD (gq m bs ts)):=by
 delta JK;show eJ rfl ?_;delta OK;erw[fS (iD m),fS (.lst (bs.map bD)),fS (.lst (ts.map iD)),L,L];show aJ (qW (k:=.sh) (hd:=.lst) (l:=ts) (f:=iD) (g:=λt=>eL (t,[0,1,m])) (.inl rfl) rfl rfl ∅ λt Z=>xR rfl (wv (iT (kds:=[(.sh,iD t),(.sh,.tup ([0,1,m].map iD))]) (e2 rfl (bd (U:=L4) (ds:=[iD m]) rfl (e1 (p:=(.sh,iD m)) rfl) rfl rfl (ue m) rfl)) #[rfl,∎]) #[_,rfl,rfl])) rfl ⋯ ?_;erw[fS (iD m),fS (.lst (bs.map bD)),fS (.lst (ts.map iD)),bw (.lst (ts.map λt=>eL (t,[0,1,m]))),L];show aJ (Mm (k:=.sh) (l:=bs) (f:=bD) (g:=λp=>jL (p.1,1+m+p.2)) rfl rfl ∅ λi b e=>M7 rfl (wv (iT (kds:=[(.sh,bD b),(.sh,iD (1+m+i))]) (e2 rfl (eX (k:=.sh) (k':=.sh) (p:=1+m) (q:=i) (eX (k:=.sh) (k':=.sh) (p:=1) (q:=m) rfl rfl) rfl)) #[rfl,∎]) #[_,rfl,rfl])) rfl ⋯ ?_;let c:((bs.zipIdx.map λp=>(p.1,1+m+p.2)).map jL)=bs.zipIdx.map λp=>jL (p.1,1+m+p.2):=by rw[QA];rfl
 let a:((ts.map λt=>(t,[0,1,m])).map eL)=ts.map λt=>eL (t,[0,1,m]):=by rw[QA];rfl
 unfold gq cD;cbv;rw[c,a];generalize bs.zipIdx.map (λp=>jL (p.1,1+m+p.2))=M;generalize ts.map (λt=>eL (t,[0,1,m]))=G;erw[fS (iD m),fS (.lst (bs.map bD)),fS (.lst (ts.map iD)),bw (.lst G),bw (.lst M)];show fN (lP (cL (eE (wv (r:=(.sh,iD 1)) rfl #[rfl,cL (gE rfl #[rfl,jH (gE rfl (wv (e1 (iS (kds:=[(.sh,iD (1+2*m))]) (e1 (eX (k:=.sh) (p:=1) (q:=2*m) rfl (I0 (k:=.sh) (k':=.sh) (x:=2) (y:=m) ⋯ ∅ rfl rfl))) #[rfl,∎])) (jK rfl #[rfl,eG rfl rfl])))])]))))
structure Cs where
 m:Nat
 bs:-Bool
 ms:-Bool
 ts:-Nat
 wh:Nat
 a:Nat
 b:Nat
structure eY(C:Cs):Prop where
 m:C.m=1\/C.m=2
 bs:C.bs.length=C.m
 ms:C.ms.length=C.m
 ts:C.ts.length=C.m+1
 wh:C.wh<C.m
 a:C.a<C.m+1
 b:C.b<8
abbrev rC(C:Cs):D:=.tup [iD C.m,.lst (C.bs.map bD),.lst (C.ms.map bD),.lst (C.ts.map iD),iD C.wh,iD C.a,iD C.b]
theorem oW:∀{l:-Nat},(∀p∈l,p<2)->Σbs:-Bool,bs.map bD=l.map iD/\bs.length=l.length
 |[],_=>#[[],rfl,rfl]
 |p::l,h=>by
  let⟨bs,e,a⟩:=oW (l:=l) λq hq=>h q (Qh _ hq);let⟨b,c⟩:=IZ (h p Qr);rwa[b::bs,#v[QE,QE,e,c],#v[QI,QI,a]]
def g8{n m c:Nat}{Q:Kd×D×Ro->Prop}(h:Eb n d)(y:n+3<=1000)(w:m<=3)(u:aa Γ_25.fn e [a0,sS d,x2,x3,x4,x5]=B (.sh,iD m))(t:0<c/\c<1000)(q:∀(ps:-Nat) d',ps.length=m->(∀p∈ps,p<c)->Eb (n+m) d'->Q (.fr k0,.lst (ps.map iD),[a0,sS d',x2,x3,x4,x5])) :
  Wp (bT Γ_25 (.comp .fz [L,L,L,B 1] (.nm 1) (.p (.rng (.lit (.int 0)) e)) .non (.io 23 (.ref 3 (.val (.p (.lit (iD c))) .nil)))) [a0,sS d,x2,x3,x4,x5]) Q:=by
 show DC (ff (oG (bA (wv u (tT (gY ∅ ∅ ∅ ∅ ∅) #[rfl,?_,?_])))))
 .change(gP 0 (m:Int)).length<=_;rw[wj];lia
 show LH (λi j Z=>Σ(ps:-Nat) (d:D),j=ps.map iD/\ps.length=i/\i<=m/\(∀p∈ps,p<c)/\Eb (n+i) d/\Z=[L,L,L,sS d]) #[[],d,rfl,rfl,QM _,λp b=>(nomatch b),h,rfl] (λi x j Z e o=>?_) λj Z o=>?_
 .let⟨ps,d,rfl,f,g,b,a,rfl⟩:=o;let⟨rfl,s⟩:=z5 e;show Ie rfl #[rfl,rfl] rfl ?_;show A7 (m:=c) rfl rfl a ∅ rfl t.1 ∅ λr d' v k=>#[_,rfl,rfl,ps++[r],d',by rw[Qy];rfl,by simp;lia,∅,λp l=>(Qp.mp l).elim (b p) λz=>by rw[Qs.mp z];show v,k,rfl]
 .let⟨ps,d,rfl,f,g,b,a,rfl⟩:=o;let f:ps.length=(gP 0 (m:Int)).length:=f;rw[wj] at f;let a:Eb (n+(gP 0 (m:Int)).length) d:=a;rw[wj] at a;rwa[rfl,q ps d f b a]
def Ee{ns:-Int}(R:ns.length<=63):ΣC,eY C/\JJ [.scr ns]=B (.sh,rC C):=by
 suffices w:Wp (JJ [.scr ns]) λr=>ΣC,eY C/\r=(.sh,rC C) by
  let⟨r,e,C,h,rfl⟩:=w;rwa[C,h,e]
 delta JJ;show qG rfl ?_;delta OJ;erw[fS (.scr ns),L,L,L,L,L];show iN (eE (zS (U:=L1) rfl (wv (e1 (p:=(.sh,.scr ns)) rfl) (vL (A9 R λd x=>#[rfl,.inl rfl,#[rfl,⋯],?_])))));erw[fS (.scr ns),sS d,L,L,L,L];show iN (zX (cL (eE (wv (r:=(.sh,iD 1)) rfl #[rfl,jH (A7 (m:=2) rfl rfl x ∅ rfl ⋯ ⋯ λo D ho g=>cF #[_,_,rfl,wv (r:=(.sh,iD (1+o))) rfl #[#[rfl,⋯],?_]])]))));obtain⟨m,K,n⟩:Σm,m=1+o/\(m=1\/m=2):=#[_,rfl,∅];rw[<- K];erw[fS (.scr ns),sS D,fS (iD m),L,L,L];show iN (g8 (m:=m) (c:=2) g ∅ ∅ rfl #[by decide,⋯] λj F H T i=>#[#[rfl,⋯],?_]);erw[fS (.scr ns),sS F,fS (iD m),bw (.lst (j.map iD)),L,L];show iN (g8 (m:=m) (c:=2) i ∅ ∅ rfl #[by decide,⋯] λv W Q z t=>#[#[rfl,⋯],?_]);erw[fS (.scr ns),sS W,fS (iD m),bw (.lst (j.map iD)),bw (.lst (v.map iD)),L];show iN (g8 (m:=m+1) (c:=256) t ∅ ∅ (eX (k:=.sh) (k':=.sh) (p:=m) (q:=1) rfl rfl) #[by decide,⋯] λu E I h3 s=>#[#[rfl,⋯],?_]);erw[fS (.scr ns),sS E,fS (iD m),bw (.lst (j.map iD)),bw (.lst (v.map iD)),bw (.lst (u.map iD))];let⟨A,O,M⟩:=oW T;let⟨S,P,y⟩:=oW z;show fN (lP (cL (eE (wv (r:=(.sh,iD m)) rfl #[rfl,cL (gE rfl #[rfl,cL (gE rfl #[rfl,cL (gE rfl #[rfl,cL (A7 (m:=m) rfl rfl s ∅ rfl ∅ ∅ λw d5 Y l=>#[rfl,cL (A7 (m:=m+1) rfl rfl l ∅ (eX (k:=.sh) (k':=.sh) (p:=m) (q:=1) rfl rfl) ∅ ∅ λa Z X f=>#[rfl,jH (A7 (m:=8) rfl rfl f ∅ rfl ⋯ ⋯ λb d7 N V=>cF (jK rfl #[rfl,eG rfl ?_]))])])])])])]))));rwa[#[m,A,S,u,w,a,b],#[n,M.trans H,y.trans Q,I,Y,X,N],by delta rC;cbv;rw[O,P];rfl]
section
variable {Γ:GG} {N:Nat} {pn:-Nat} {Z:Ro} {Q:Res->Prop} {rest:bq}
def Bf{i n:Nat}{ds:-D}{x y:KD}(a:Z[i]?=B (B #[Uk,k0,.lst ds]))(c:aa Γ.fn e Z=B x)(hk:aa Γ.fn kx Z=B y)(d:y.2=iD n)(f:n<ds.length)(b:bR .fz (dW x.1 x.2,x.2)=Uj)(w:Wp (ao Γ N rest pn (Z.set i (B #[Uk,k0,.lst (ds.set n x.2)]))) Q):Wp (ao Γ N (.cons (.put (.nm i) kx (.p e)) rest) pn Z) Q:=by
 show m9 (eE (wv c (xp (r:=(k0,.lst ds,id)) ?_ (wv hk (jI rfl rfl a (jJ (r:=(.lst,ds.set n x.2)) ?_ w))))))
 .change j5 Z[i]?=_;rw[a];rfl
 .rw[d]
  change(match jY ds.length (n:Int) with|some j=>if bR .fz (dW x.1 x.2,x.2)=Uj then B (Hd.lst,ds.set j x.2) else L|none=>L)=_
  rw[oI ∅ ∅]
  change(if bR .fz (dW x.1 x.2,x.2)=Uj then B (Hd.lst,ds.set n x.2) else L)=_
  rw[if_pos b]
end
def Jb(b:aa Γ a Z=B (k,bD p)):aa Γ (.bin .Sub (.lit (.int 1)) a) Z=B (.sh,bD (!p)):=by
 rw[Fc (Γ:=Γ) (Z:=Z) (bS 1) b]
 cases p<;>rfl
theorem Jc(d:aa Γ a Z=B (k,iD x))(c:aa Γ b Z=B (k',iD y)):aa Γ (.bin .BitXor a b) Z=B (.sh,iD (x ^^^ y)):=aK (aU (wv d (wv c (eU rfl))))
meta def o0(C:Cs):-Bool:=(Qo C.m).map λk=>C.bs.getD k Uk ^^ C.ms.getD k Uk
def oB(C:Cs)(x:Bool):-Bool:=if x=Uj then(o0 C).set C.wh (!(o0 C).getD C.wh Uk) else o0 C
def t0(C:Cs):-Nat:=(Qo (C.m+1)).map λk=>Be (C.ts.getD k 0) (C.ms.getD 0 Uk) (C.ms.getD (C.m-1) Uk) ((C.ms++[Uk]).getD k Uk)
def oT(C:Cs)(x:Bool):-Nat:=if x=Uj then(t0 C).set C.a ((t0 C).getD C.a 0 ^^^ 1*2^C.b) else t0 C
def jR{α:Type}{l:List α}{n:Nat}(f:α->D)(a:α)(h:n<l.length):(l.map f)[n]?=B (f (l.getD n a)):=by
 rw[Qc,Qt,Qi h];rfl
def l0{α:Type}{l:List α}{n:Nat}(a:α)(h:n<l.length):l[n]?=B (l.getD n a):=by
 rw[Qt,Qi h];rfl
def rD{α:Type}(f:α->D)(l:List α)(n:Nat)(a:α):(l.map f).set n (f a)=(l.set n a).map f:=by rw[List.map_set]
abbrev JN(C:Cs)(ch:D)(R O:@&Sl):Ro:=[fS (rC C),fS ch,fS (iD C.m),fS (.lst (C.bs.map bD)),fS (.lst (C.ms.map bD)),fS (.lst (C.ts.map iD)),fS (iD C.wh),fS (iD C.a),fS (iD C.b),R,O]
def Mz{Γ:GG}{N:Nat}{pn:-Nat}{Z:Ro}{Q:Res->Prop}{rest:bq}{is:-Nat}{s:IS}(h:Wp (ao Γ N (.cons s rest) pn (frzN is Z)) Q):Wp (ao Γ N (.cons (.pre is s) rest) pn Z) Q:=by
 rw[ao] at h⊢;rw[Dw];show h
def Ef{C:Cs}(h:eY C)(h1:cA .Eq ch (.str "begin")=B x)(h2:cA .Eq ch (.str "table")=B y):L6 [rC C,ch]=B (.sh,.tup [cD (gq C.m C.bs C.ts),cD (gq C.m (oB C x) (oT C y))]):=by
 let D:=h.m;let E:=h.bs;let d:=h.ms;let A:=h.ts;let w:=h.wh;let v:=h.a;let o:=h.b;let lo:(o0 C).length=C.m:=by delta o0;rw[Qa,QC]
 let j:(t0 C).length=C.m+1:=by delta t0;rw[Qa,QC]
 delta L6;show eJ rfl ?_;delta Ir;erw[fS (rC C),fS ch,L,L,L,L,L,L,L,L,L];show dQ (ds:=[iD C.m,.lst (C.bs.map bD),.lst (C.ms.map bD),.lst (C.ts.map iD),iD C.wh,iD C.a,iD C.b]) rfl #[rfl,rfl] ?_;change Wp (ao _ _ _ [] (JN C ch L L)) _;show aJ ((DT (n:=C.m) (g:=λk=>bD (C.bs.getD k Uk ^^ C.ms.getD k Uk)) rfl ∅ λi f=>xR rfl (wv (oV (cv (k:=.sh) (k':=.sh) (n:=i) (hd:=.lst) (xs:=C.bs.map bD) rfl rfl (.inl rfl) rfl (jR bD Uk ∅)) (cv (k:=.sh) (k':=.sh) (n:=i) (hd:=.lst) (xs:=C.ms.map bD) rfl rfl (.inl rfl) rfl (jR bD Uk ∅))) #[_,rfl,rfl])).trans (show _=B (.fr k0,.lst ((o0 C).map bD)) by delta o0;rw[QA];rfl)) rfl ⋯ ?_;change Wp (ao _ _ _ [] (JN C ch (bw (.lst ((o0 C).map bD))) L)) _
 suffices tail:Wp (ao Γ_27 1000 (aH Ir 3) [] (JN C ch (bw (.lst ((oB C x).map bD))) L)) λr=>Wp (eD (B r)) λz=>z=(.sh,.tup [cD (gq C.m C.bs C.ts),cD (gq C.m (oB C x) (oT C y))]) by
  show ko (c5 (k:=.sh) (k':=.sh) rfl rfl h1) (λz=>?_) λz=>fU ?_
  .show Bf (n:=C.wh) (x:=(.sh,bD (!(o0 C).getD C.wh Uk))) rfl (Jb (cv (k:=.bo 9 k0) (k':=.sh) (n:=C.wh) (hd:=.lst) (xs:=(o0 C).map bD) rfl rfl (.inl rfl) rfl (jR bD Uk ∅))) (show aa _ (.var 6) _=B (.sh,iD C.wh) from rfl) rfl (by rw[Qa,lo];show w) rfl (aL (cH ?_));rw[rD bD];let e:oB C x=(o0 C).set C.wh (!(o0 C).getD C.wh Uk):=by delta oB;rw[if_pos z]
   rw[e] at tail⊢;show tail
  .let e:oB C x=o0 C:=by delta oB;rw[if_neg (by rw[z];decide)]
   rw[e] at tail⊢;show tail
 let s:(oB C x).length<=10:=by
  delta oB;split
  .rw[Ru];lia
  .lia
 generalize oB C x=ob at *;unfold Ir aH aH aH aH;let c:∀{Z:Ro} {e:IE},aa Γ_27.fn e Z=B (.sh,.lst (C.ms.map bD))->aa Γ_27.fn (.bin .Add e (.lst (.own [] .fz) (.cons (.lit (.int 0)) .nil))) Z=B (.fr bQ,.lst ((C.ms++[Uk]).map bD)):=λt=>(vU (k:=.sh) (k':=.fr k0) (xs:=C.ms.map bD) (ys:=[bD Uk]) #[rfl,rfl,by simp;lia] t (iS (kds:=[(.sh,bD Uk)]) (e1 rfl) #[rfl,∎])).trans (by rw[Qy];rfl);show aJ ((DT (n:=C.m+1) (g:=λk=>iD (Be (C.ts.getD k 0) (C.ms.getD 0 Uk) (C.ms.getD (C.m-1) Uk) ((C.ms++[Uk]).getD k Uk))) (eX (k:=.sh) (k':=.sh) (p:=C.m) (q:=1) rfl rfl) ∅ λi f=>xR rfl (wv (bd (U:=L5) (ds:=[iD (C.ts.getD i 0),.lst (C.ms.map bD),iD C.m,bD ((C.ms++[Uk]).getD i Uk)]) rfl (e4 (cv (k:=.sh) (k':=.sh) (n:=i) (hd:=.lst) (xs:=C.ts.map iD) rfl rfl (.inl rfl) rfl (jR iD 0 ∅)) (q:=(.sh,.lst (C.ms.map bD))) (u:=(.sh,iD C.m)) rfl rfl (cv (k:=.fr bQ) (k':=.sh) (n:=i) (hd:=.lst) (xs:=(C.ms++[Uk]).map bD) (c rfl) rfl (.inl rfl) rfl (jR bD Uk (by rw[Qz,d];show f)))) rfl rfl (xM ∅ (l0 Uk ∅) (l0 Uk ∅)) rfl) #[_,rfl,rfl])).trans (show _=B (.fr k0,.lst ((t0 C).map iD)) by delta t0;rw[QA];rfl)) rfl ⋯ ?_;change Wp (ao _ _ _ [] (JN C ch (bw (.lst (ob.map bD))) (bw (.lst ((t0 C).map iD))))) _
 suffices tail:Wp (ao Γ_27 1000 (aH Ir 5) [] (JN C ch (bw (.lst (ob.map bD))) (bw (.lst ((oT C y).map iD))))) λr=>Wp (eD (B r)) λz=>z=(.sh,.tup [cD (gq C.m C.bs C.ts),cD (gq C.m ob (oT C y))]) by
  show ko (c5 (k:=.sh) (k':=.sh) rfl rfl h2) (λz=>?_) λz=>fU ?_
  .show Bf (n:=C.a) (x:=(.sh,iD ((t0 C).getD C.a 0 ^^^ 1*2^C.b))) rfl (Jc (cv (k:=.bo 10 k0) (k':=.sh) (n:=C.a) (hd:=.lst) (xs:=(t0 C).map iD) rfl rfl (.inl rfl) rfl (jR iD 0 ∅)) (Ba (k:=.sh) (k':=.sh) (x:=1) (y:=C.b) ⋯ ∅ rfl rfl)) (show aa _ (.var 7) _=B (.sh,iD C.a) from rfl) rfl (by rw[Qa,j];show v) rfl (aL (cH ?_));rw[rD iD];let e:oT C y=(t0 C).set C.a ((t0 C).getD C.a 0 ^^^ 1*2^C.b):=by delta oT;rw[if_pos z]
   rw[e] at tail⊢;show tail
  .let e:oT C y=t0 C:=by delta oT;rw[if_neg (by rw[z];decide)]
   rw[e] at tail⊢;show tail
 let l:(oT C y).length<=10:=by
  delta oT;split
  .rw[Ru];lia
  .lia
 generalize oT C y=ot at *;unfold Ir aH aH aH aH aH aH;show Mz ?_;change Wp (ao _ _ _ [] (JN C ch (fS (.lst (ob.map bD))) (fS (.lst (ot.map iD))))) _;show bN (iT (kds:=[(.sh,cD (gq C.m C.bs C.ts)),(.sh,cD (gq C.m ob ot))]) (e2 (bd (U:=JK) (ds:=[iD C.m,.lst (C.bs.map bD),.lst (C.ts.map iD)]) rfl (e3 (p:=(.sh,iD C.m)) (q:=(.sh,.lst (C.bs.map bD))) (u:=(.sh,.lst (C.ts.map iD))) rfl rfl rfl) rfl rfl (lZ ∅ ∅ ∅) rfl) (bd (U:=JK) (ds:=[iD C.m,.lst (ob.map bD),.lst (ot.map iD)]) rfl (e3 (p:=(.sh,iD C.m)) (q:=(.sh,.lst (ob.map bD))) (u:=(.sh,.lst (ot.map iD))) rfl rfl rfl) rfl rfl (lZ s l ∅) rfl)) #[rfl,∎]) rfl (eK rfl rfl)
abbrev j8(m:Nat):-Fr:=.inl 0::(Qo m).map λk=>.inr (sp 0 (1+k))
noncomputable abbrev l8(m:Nat):-Nat:=(Qo m).map (1+·)
def cN(m wh:Nat)(u:Bool)(k:Nat):St:=if(u&&k==wh)=Uj then#[sp 1 (1+k),sp 2 k,j8 m,l8 m] else#[sp 2 k,sp 1 (1+k),j8 m,l8 m]
abbrev l4(m:Nat):St:=#[sp 0 (1+2*m),sp 1 (1+2*m),j8 m,l8 m]
meta def Jd(O:-Bool)(wh:Nat)(z:Bool)(k:Nat):Nat:=if(O.getD k Uk ^^ (z&&k==wh))=Uj then 1 else 2
def PC(m:Nat)(O:-Bool)(wh:Nat)(z:Bool):-BG:=(Qo m).map λk=>(Jd O wh z k,[sp 0 (1+k)])
def Bg(m:Nat)(O:-Bool)(wh:Nat)(z u:Bool):D:=.tup [rh (PC m O wh z),sL ((Qo m).map (cN m wh u)),sL [l4 m],bX [1+m]]
noncomputable abbrev Bh:-(D×Bool×Bool×Bool×Bool):=[(.str "",Uk,Uk,Uk,Uk),(.str "order",Uk,Uk,Uk,Uj),(.str "begin",Uj,Uk,Uk,Uk),(.str "helper",Uk,Uk,Uj,Uk),(.str "table",Uk,Uj,Uk,Uk)]
def xN{C:Cs}(h:eY C){w:D×Bool×Bool×Bool×Bool}(e:w∈Bh):M4 [rC C,w.1]=B (.sh,Bg C.m C.ms C.wh w.2.2.2.1 w.2.2.2.2):=by
 let⟨m,k,j,o,f,a,b⟩:=C;let⟨i,z_,c,y_,d,x_,w_⟩:=h;delta rC;cbv at i c d⊢;generalize k.map bD=X;generalize o.map iD=Yq;generalize iD a=a;generalize iD b=b;let d:f=0\/f=1/\m=2:=∅
 obtain rfl|rfl:=i
 .obtain rfl:f=0:=∅
  let⟨g,rfl⟩:=RP.mp c;dsimp[Qf,Qw,or_false] at e
  obtain rfl|rfl|rfl|rfl|rfl:=e<;>cases g<;>symm
 .obtain⟨g,n,rfl⟩:Σx y,j=[x,y]:=by
   cases j with
   |nil=>ext c
   |cons x l=>let⟨y,rfl⟩:=RP.mp (Nat.succ.inj c);rwa[x,y,rfl]
  dsimp[Qf,Qw,or_false] at e
  obtain rfl|⟨rfl,_⟩:=d<;>obtain rfl|rfl|rfl|rfl|rfl:=e<;>cases g<;>cases n<;>symm
def Je{C:Cs}(h:eY C):M5 [rC C]=B (.sh,.bl (C.m==2||C.b.testBit 1==C.b.testBit 2)):=by
 let⟨m,f,g,i,e,a,b⟩:=C;let⟨d,z_,y_,x_,w_,v_,c⟩:=h;delta rC;cbv at d c⊢;generalize f.map bD=X;generalize g.map bD=Zq;generalize i.map iD=Yq;generalize iD e=w;generalize iD a=a;let c:b=0\/b=1\/b=2\/b=3\/b=4\/b=5\/b=6\/b=7:=∅
 obtain rfl|rfl:=d<;>obtain rfl|rfl|rfl|rfl|rfl|rfl|rfl|rfl:=c<;>symm
structure Wk(W:Wd)(m:Nat)(Bqq:Nat->-Bool)(T:Nat->-Nat)(M:Nat->Nat):Prop where
 hm:m=1\/m=2
 c:∀w,w<2->cw W w=gq m (Bqq w) (T w)
 hs:W.hs=(Qo m).map λk=>(M k,[sp 0 (1+k)])
 b:∀w,w<2->(Bqq w).length=m
 t:∀w,w<2->(T w).length=m+1
 hM:∀k,M k=1\/M k=2
section
variable {W:Wd} {m:Nat} {Bqq:Nat->-Bool} {T:Nat->-Nat} {M:Nat->Nat}
def Bi{m:Nat}{bs:-Bool}(h:bs.length=m):(gq m bs ts).f=1+m:=by
 unfold Ci.f gq;simp[h]
def Bj{m:Nat}{bs:-Bool}{ts:-Nat}(h:bs.length=m)(h2:ts.length=m+1):(gq m bs ts).n=2*m+2:=by
 delta Ci.n;rw[Bi h];change 1+m+(ts.map _).length=_;rw[Qa,h2]
 lia
def FE{m k:Nat}{ts:-Nat}(h:k<ts.length):(gq m bs ts).gates[k]?=B (ts.getD k 0,[0,1,m]):=by
 change(ts.map λt=>(t,[0,1,m]))[k]?=_;rw[Qc,l0 0 h];rfl
def FF{m k:Nat}{bs:-Bool}(h:k<bs.length):(gq m bs ts).mems[k]?=B (bs.getD k Uk,1+m+k):=by
 change(bs.zipIdx.map λp=>(p.1,1+m+p.2))[k]?=_;rw[Qc,Tq,l0 Uk h];simp
def Bk{m:Nat}{bs:-Bool}{ts:-Nat}(i:m=1\/m=2)(h:bs.length=m)(h2:ts.length=m+1):Ok (gq m bs ts):=by
 let b:=Bj h h2;let f:=Bi (ts:=ts) h;rwa[λk g e=>?_,λq hq=>?_,λo c=>?_,by change 1<=3;decide,?_,?_,by change 1<=3;decide]
 .let hk:k<ts.length:=by
   have:=(Qb.mp e).1;unfold gq at this;simpa using this
  rw[FE hk] at e;ext e;rwa[Qe 3,λp d=>?_];rw[f];dsimp[Qf,Qw,or_false] at d
  lia
 .let⟨k,hk⟩:=RX.mp hq
  let a:k<bs.length:=by
   have:=(Qb.mp hk).1;unfold gq at this;simpa using this
  rw[FF a] at hk;ext hk;rw[b];change 1+m+k<_
  lia
 .rw[show o=1+2*m from Qs.mp c,b]
  lia
 .delta gq;simp
  lia
 .delta gq;simp
  lia
theorem Wk.c0(K:Wk W m Bqq T M):W.c=gq m (Bqq 0) (T 0):=K.c 0 ⋯
theorem Wk.c1(K:Wk W m Bqq T M):W.c'=gq m (Bqq 1) (T 1):=K.c 1 ⋯
def Wk.n(K:Wk W m Bqq T M):W.c.n=2*m+2/\W.c'.n=2*m+2/\W.hs.length=m:=by
 rwa[?_,?_,#v[K.hs,Qa,QC]]
 .rw[K.c0,Bj (K.b 0 ⋯) (K.t 0 ⋯)]
 .rw[K.c1,Bj (K.b 1 ⋯) (K.t 1 ⋯)]
def Wk.f(K:Wk W m Bqq T M){w:Nat}(a:w<2):(cw W w).f=1+m:=by rw[K.c w a,Bi (K.b w a)]
def Wk.h(K:Wk W m Bqq T M){k:Nat}(hk:k<m):W.hs[k]?=B (M k,[sp 0 (1+k)]):=by
 rw[K.hs,Qc,QU hk];rfl
def Wk.ok(K:Wk W m Bqq T M):my W:=by
 let⟨n0,g,d⟩:=K.n;let f:=K.hm;rwa[?_,?_,?_,?_,∅,λk h e=>?_]
 .rw[K.c0];show Bk K.hm (K.b 0 ⋯) (K.t 0 ⋯)
 .rw[K.c1];show Bk K.hm (K.b 1 ⋯) (K.t 1 ⋯)
 .rw[K.c0,K.c1];rfl
 .rw[K.c0,K.c1];rfl
 .let hk:k<m:=by have:=(Qb.mp e).1;lia
  rw[K.h hk] at e;ext e;rwa[?_,by change 1<=3;decide,λs a=>?_]
  .change ψ3 [iD (M k),iD 1]=_
   obtain e|e:=K.hM k<;>rw[e]<;>symm
  .rw[Qs.mp a];rwa[0,1+k,⋯,show 1+k<W.c.n by lia,rfl]
def Wk.gK(K:Wk W m Bqq T M){w k:Nat}(a:w<2)(hk:k<=m):sp w (1+m+k)∈g7 W/\bl W (sp w (1+m+k))=[sp w 0,sp w 1,sp w m]/\tb W (sp w (1+m+k))=(T w).getD k 0:=by
 let g:=K.f a;let e:(cw W w).gates[k]?=B ((T w).getD k 0,[0,1,m]):=by rw[K.c w a];show FE (by rw[K.t w a];lia)
 let b:=AS a e;let d:=Fp a e;rw[g] at b d;rwa[?_,b,d];let⟨n0,l,i⟩:=K.n;let j:W.c.f=1+m:=K.f (w:=0) ⋯;let h:W.c'.f=1+m:=K.f (w:=1) ⋯;show gKs_mem.mpr ∅
def Wk.hK(K:Wk W m Bqq T M){k:Nat}(hk:k<m):sp 2 k∈g7 W/\bl W (sp 2 k)=[sp 0 (1+k)]/\tb W (sp 2 k)=M k:=by
 let⟨n0,a,b⟩:=K.n;rwa[gKs_mem.mpr ∅,IH (K.h hk),Mp (K.h hk)]
def Wk.mK(K:Wk W m Bqq T M){w k:Nat}(a:w<2)(hk:k<m):sp w (1+k)∈fq W/\aF W (sp w (1+k))=sp w (1+m+k)/\bF W (sp w (1+k))=((Bqq w).getD k Uk).toNat:=by
 let o:=K.f a;let h:(cw W w).ins=1:=by rw[K.c w a];rfl
 let g:(cw W w).mems[k]?=B ((Bqq w).getD k Uk,1+m+k):=by rw[K.c w a];show FF (by rw[K.b w a];lia)
 let d:=AT g;let e:=Fu g;rw[h] at d e;rwa[?_,d,e];let n:W.c.f=1+m:=K.f (w:=0) ⋯;let j:W.c'.f=1+m:=K.f (w:=1) ⋯;let i:W.c.ins=1:=by rw[K.c0];rfl
 let l:W.c'.ins=1:=by rw[K.c1];rfl
 show mKs_mem.mpr ∅
theorem Wk.no(K:Wk W m Bqq T M){w p:Nat}(e:w<2)(b:p<=m):sp w p∉g7 W:=λz=>by
 let d:W.c.f=1+m:=K.f (w:=0) ⋯;let a:W.c'.f=1+m:=K.f (w:=1) ⋯;have:=gKs_mem.mp z
 lia
def Wk.mo(K:Wk W m Bqq T M){w p:Nat}(h:sp w p∈fq W):w<2/\1<=p/\p<=m:=by
 let d:W.c.f=1+m:=K.f (w:=0) ⋯;let e:W.c'.f=1+m:=K.f (w:=1) ⋯;let a:W.c.ins=1:=by rw[K.c0];rfl
 let b:W.c'.ins=1:=by rw[K.c1];rfl
 have:=mKs_mem.mp h
 lia
def Wk.u(K:Wk W m Bqq T M){w p:Nat}(h:w<2/\p<2*m+2\/w=2/\p<m):sp w p∈uL W:=by
 let⟨n0,d,b⟩:=K.n;show v6 ∅ ?_;rcases h with⟨e,a⟩|⟨rfl,a⟩
 .have:w=0\/w=1:=∅
  obtain rfl|rfl:=this
  .change p<W.c.n;lia
  .change p<W.c'.n;lia
 .change p<W.hs.length;lia
end
abbrev oZ(m:Nat):-(Int×Int):=sp 0 0::sp 1 0::(Qo m).map λk=>sp 0 (1+k)
def uf{SL:-P2}{m:Nat}(e:SL[0]?=B (sp 0 0,sp 1 0))(b:m=1\/m=2):(hJ SL (j8 m)).1=oZ m/\(hJ SL (j8 m)).2.2=Wh (1+m)/\(hJ SL (j8 m)).2.1 (sp 1 0)=cx 0 (1+m)/\∀k,k<1+m->(hJ SL (j8 m)).2.1 (sp 0 k)=cx k (1+m):=by
 obtain rfl|rfl:=b
 .let a:hJ SL (j8 1)=([sp 0 0,sp 1 0,sp 0 1],up (up (up (λZ=>0) (sp 0 0) (cx 0 2)) (sp 1 0) (cx 0 2)) (sp 0 1) (cx 1 2),Wh 2):=by
   change [sp 0 1].foldl (bz (Wh 2) (cx 1 2)) ((mz SL (.inl 0)).foldl (bz (Wh 2) (cx 0 2)) ([],λZ=>0,Wh 2))=_;rw[lX e];symm
  rw[a];rwa[rfl,rfl,by symm,λk hk=>?_]
  match k,hk with
  |0,_=>kernel_rfl
  |1,_=>kernel_rfl
 .let a:hJ SL (j8 2)=([sp 0 0,sp 1 0,sp 0 1,sp 0 2],up (up (up (up (λZ=>0) (sp 0 0) (cx 0 3)) (sp 1 0) (cx 0 3)) (sp 0 1) (cx 1 3)) (sp 0 2) (cx 2 3),Wh 3):=by
   change [sp 0 2].foldl (bz (Wh 3) (cx 2 3)) ([sp 0 1].foldl (bz (Wh 3) (cx 1 3)) ((mz SL (.inl 0)).foldl (bz (Wh 3) (cx 0 3)) ([],λZ=>0,Wh 3)))=_;rw[lX e];symm
  rw[a];rwa[rfl,rfl,by symm,λk hk=>?_]
  match k,hk with
  |0,_=>kernel_rfl
  |1,_=>kernel_rfl
  |2,_=>kernel_rfl
def bkL_mem{m w p:Nat}:sp w p∈oZ m↔(w=0/\p<=m)\/(w=1/\p=0):=by
 rw[Qf,Qf,Qv];constructor
 .rintro (h|h|⟨k,hk,h⟩)
  .have:=bj h;lia
  .have:=bj h;lia
  .have:=bj h;have:=Qq.mp hk;lia
 .rintro (⟨rfl,h⟩|⟨rfl,rfl⟩)
  .match p,h with
   |0,_=>show .inl rfl
   |p+1,h=>show .inr (.inr #[p,Qq.mpr ∅,#v[RI]])
  .show .inr (.inl rfl)
def Bl{bk:-(Int×Int)}{SL Ds:-P2}{n:Nat}(e:SL[n]?=B (a,b))(h1:b∉bk)(h2:b∉g7 W)(c:b∉Ds.map (·.1)):fX W bk SL Ds n=Ds++[(b,a)]:=by
 delta fX;rw[e];show if_pos #[h1,h2,c]
def Eg{SL Ds:-P2}{n:Nat}(e:SL[n]?=B (a,b))(h:b∈g7 W):fX W bk SL Ds n=Ds:=by
 delta fX;rw[e];show if_neg λz=>z.2.1 h
def wk(m wh:Nat)(u:Bool):-P2:=((Qo m).filter λk=>!(u&&k==wh)).map λk=>(sp 1 (1+k),sp 2 k)
structure BI(SL:-P2)(m wh:Nat)(u:Bool):Prop where
 z:SL[0]?=B (sp 0 0,sp 1 0)
 k:∀k,k<m->SL[1+k]?=B (if(u&&k==wh)=Uj then(sp 1 (1+k),sp 2 k) else(sp 2 k,sp 1 (1+k)))
section
variable {W:Wd} {m:Nat} {Bqq:Nat->-Bool} {T:Nat->-Nat} {M:Nat->Nat} {SL:-P2} {wh:Nat} {u:Bool}
def MA(K:Wk W m Bqq T M)(S:BI SL m wh u):eV W (oZ m) SL (l8 m)=wk m wh u:=by
 let j:∀k,k<m->sp 1 (1+k)∉oZ m:=λk hk z=>by have:=bkL_mem.mp z;lia
 let i:∀k,k<m->sp 1 (1+k)∉g7 W:=λk hk=>K.no ⋯ ∅;let a:∀k b,k<m->(u&&k==wh)=Uk->sp 1 (1+k)∉b.map (·.1)->fX W (oZ m) SL b (1+k)=b++[(sp 1 (1+k),sp 2 k)]:=λk b hk e h=>Bl (by have:=S.k k hk;rwa [if_neg (by rw[e];decide)] at this) (j k hk) (i k hk) h;let d:∀k b,k<m->(u&&k==wh)=Uj->fX W (oZ m) SL b (1+k)=b:=λk b hk e=>Eg (by have:=S.k k hk;rwa [if_pos e] at this) (K.hK hk).1;obtain rfl|rfl:=K.hm
 .change fX W (oZ 1) SL [] (1+0)=_;cases e:u&&0==wh
  .rw[a 0 _ ⋯ e ∎];delta wk;rw[show Qo 1=[0] from rfl];dsimp[Sj,e];rfl
  .rw[d 0 _ ⋯ e];delta wk;rw[show Qo 1=[0] from rfl];dsimp[Sj,e];rfl
 .change fX W (oZ 2) SL (fX W (oZ 2) SL [] (1+0)) (1+1)=_;let g:sp 1 (1+1)≠sp 1 (1+0):=λz=>by have:=bj z;lia
  let f:Qo 2=[0,1]:=rfl
  cases e:u&&0==wh<;>cases c:u&&1==wh
  .rw[a 0 _ ⋯ e ∎,a 1 _ ⋯ c ↥g];delta wk;rw[f];dsimp[Sj,e,c];rfl
  .rw[a 0 _ ⋯ e ∎,d 1 _ ⋯ c];delta wk;rw[f];dsimp[Sj,e,c];rfl
  .rw[d 0 _ ⋯ e,a 1 _ ⋯ c ∎];delta wk;rw[f];dsimp[Sj,e,c];rfl
  .rw[d 0 _ ⋯ e,d 1 _ ⋯ c];delta wk;rw[f];dsimp[Sj,e,c];rfl
end
theorem wl{ak:-(Int×Int)}{AF:Int×Int->Nat}:∀{Ds:-P2} {z:KF},(Ds.map (·.1)).Nodup->(∀q,q∈(Ds.foldl (iY ak AF) z).1↔q∈z.1\/∃p∈Ds,p.2∈ak/\q=p.1)/\(∀q,q∉Ds.map (·.1)->(Ds.foldl (iY ak AF) z).2 q=z.2 q)/\∀p∈Ds,p.2∈ak->(Ds.foldl (iY ak AF) z).2 p.1=AF p.2
 |[],z,_=>#[λq=>∎,λZ Z=>rfl,λZ h=>nomatch h]
 |p::Ds,z,g=>by
  let⟨i,g⟩:=QK.mp (show(p.1::Ds.map (·.1)).Nodup from g);let⟨a,b,c⟩:=wl (ak:=ak) (AF:=AF) (Ds:=Ds) (z:=iY ak AF z p) g;rw[Ss];by_cases f:p.2∈ak
  .let e:iY ak AF z p=(z.1++[p.1],up z.2 p.1 (AF p.2)):=if_pos f;rw[e] at a b c⊢;rwa[λq=>?_,λq hq=>?_,λr d hk=>?_]
   .rw[a,Qp,Qs];dsimp[Qf,exists_eq_or_imp];rwa[λh=>h.elim (λh=>h.elim .inl λh=>.inr (.inl #[f,h])) λh=>.inr (.inr h),λh=>h.elim (λh=>.inl (.inl h)) λh=>h.elim (λh=>.inl (.inr h.2)) .inr]
   .let hq:q∉p.1::Ds.map (·.1):=hq;rw[Qf,not_or] at hq;rw[b q hq.2];show if_neg hq.1
   .obtain rfl|d:=Qf.mp d
    .rw[b _ i];show if_pos rfl
    .show c r d hk
  .let e:iY ak AF z p=z:=if_neg f;rw[e] at a b c⊢;rwa[λq=>?_,λq hq=>?_,λr d hk=>?_]
   .rw[a];dsimp[Qf,exists_eq_or_imp];rwa[λh=>h.elim .inl λh=>.inr (.inr h),λh=>h.elim .inl λh=>h.elim (λh=>absurd h.1 f) .inr]
   .show b q λh=>hq (Qh _ h)
   .obtain rfl|d:=Qf.mp d
    .show absurd hk f
    .show c r d hk
def yc(M:Nat->Nat)(n k:Nat):Nat:=tv (M k) [cx (1+k) n] n
section
variable {W:Wd} {m:Nat} {Bqq:Nat->-Bool} {T:Nat->-Nat} {M:Nat->Nat} {SL:-P2} {wh:Nat} {u:Bool}
def g9(m:Nat):(j8 m).length=1+m:=by simp;lia
def gv_mem{m g:Nat}:g∈l8 m↔Σk,k<m/\g=1+k:=by
 rw[Qv];rwa[λ⟨k,h,e⟩=>#[k,Qq.mp h,e.symm],λ⟨k,h,e⟩=>#[k,Qq.mpr h,e.symm]]
def FG(K:Wk W m Bqq T M)(S:BI SL m wh u)(a:∀x∈SL,x.1∈uL W/\x.2∈uL W):D9 W SL (j8 m) (l8 m):=by
 let d:=K.hm;rwa[by rw[g9];lia,by rw[Qa,QC];lia,λx b=>?_,λg c=>?_,a]
 .obtain rfl|b:=Qf.mp b
  .show(Qb.mp S.z).1
  .let⟨k,hk,rfl⟩:=Qv.mp b;have:=Qq.mp hk;show K.u ∅
 .let⟨k,hk,rfl⟩:=gv_mem.mp c;show(Qb.mp (S.k k hk)).1
def O5(K:Wk W m Bqq T M)(S:BI SL m wh u):IX W SL (j8 m) (l8 m)=wk m wh u:=by
 delta IX;rw[(uf S.z K.hm).1];show MA K S
def ds_mem{m wh:Nat}:p∈wk m wh u↔Σk,k<m/\(u&&k==wh)=Uk/\p=(sp 1 (1+k),sp 2 k):=by
 delta wk;rw[Qv];constructor
 .rintro ⟨k,hk,rfl⟩
  rw[R8,Qq,QZ] at hk;rwa[k,hk.1,hk.2,rfl]
 .rintro ⟨k,b,a,rfl⟩
  rwa[k,by rw[R8,Qq,QZ];rwa[b,a],rfl]
def MB(m wh:Nat)(u:Bool):((wk m wh u).map (·.1)).Nodup:=by
 delta wk;rw[QA];show List.Pairwise.map _ (λa b c e=>c (by have:=(bj (show sp 1 (1+a)=sp 1 (1+b) from e)).2;lia)) (R1.sublist Tz)
structure P3(m wh:Nat)(u:Bool)(M:Nat->Nat)(z:KF):Prop where
 f:∀j,j<1+m->sp 0 j∈z.1/\z.2 (sp 0 j)=cx j (1+m)
 i:sp 1 0∈z.1/\z.2 (sp 1 0)=cx 0 (1+m)
 g:∀k,k<m->(u&&k==wh)=Uk->sp 1 (1+k)∈z.1/\z.2 (sp 1 (1+k))=yc M (1+m) k
 no:∀w p,sp w p∈z.1->w<2/\p<=m/\(w=1->p=0\/(u&&p-1==wh)=Uk)
def MC(K:Wk W m Bqq T M)(S:BI SL m wh u)(R:FC W SL (j8 m) (l8 m) ws ak AF fk F):P3 m wh u M (BH W SL (j8 m) (l8 m) ak AF):=by
 let H:=K.hm;let⟨n,f2,E,v⟩:=uf S.z K.hm;let i:=R.a;delta BH;rw[O5 K S] at i⊢;let⟨a,b,c⟩:=wl (ak:=ak) (AF:=AF) (Ds:=wk m wh u) (z:=((hJ SL (j8 m)).1,(hJ SL (j8 m)).2.1)) (MB m wh u)
 let x:∀w p,sp w p∈oZ m->sp w p∉(wk m wh u).map (·.1):=λw p h z=>by
  let⟨q,hq,e⟩:=Qv.mp z;let⟨k,hk,z_,rfl⟩:=ds_mem.mp hq;have:=bj (show sp 1 (1+k)=sp w p from e);have:=bkL_mem.mp h
  lia
 rw[n] at i
 let D:∀k,k<m->(u&&k==wh)=Uk->sp 2 k∈ak/\AF (sp 2 k)=yc M (1+m) k:=λk hk f=>by
  let⟨r,o,A⟩:=K.hK hk;let t:sp 2 k∉oZ m:=λz=>by have:=bkL_mem.mp z;lia
  let d:sp 0 (1+k)∈oZ m:=bkL_mem.mpr ∅
  let g:sp 2 k∈ak:=(i.mem _).mpr (.new (.base (Qv.mpr #[_,ds_mem.mpr #[k,hk,f,rfl],rfl]) t) r λs l=>by
   rw[o,Qs] at l;rw[l];show .old d)
  rwa[g,?_];rw[i.new _ g t,o,A,g9];change tv (M k) [AF (sp 0 (1+k))] (1+m)=_;rw[i.old _ d,v (1+k) ∅];rfl
 rwa[λj C=>?_,?_,λk hk f=>?_,λw p h=>?_]
 .let d:sp 0 j∈oZ m:=bkL_mem.mpr ∅;rwa[(a _).mpr (.inl (by rw[n];show d)),(b _ (x 0 j d)).trans (v j C)]
 .let d:sp 1 0∈oZ m:=bkL_mem.mpr ∅;rwa[(a _).mpr (.inl (by rw[n];show d)),(b _ (x 1 0 d)).trans E]
 .let⟨r,o⟩:=D k hk f;let y:=ds_mem.mpr #[k,hk,f,rfl];rwa[(a _).mpr (.inr #[_,y,r,rfl]),(c _ y r).trans o]
 .rcases(a _).mp h with h|⟨q,hq,_,e⟩
  .rw[n] at h;have:=bkL_mem.mp h;rwa[by lia,∅,λe=>.inl ∅]
  .let⟨k,hk,f,rfl⟩:=ds_mem.mp hq;let⟨rfl,rfl⟩:=bj (e);rwa[by decide,∅,λZ=>.inr (by rw[RL];show f)]
def xw(M:Nat->Nat)(n w j:Nat):Nat:=if w=0 then cx j n else if j=0 then cx 0 n else yc M n (j-1)
def Bm(S:BI SL m wh u){k:Nat}(hk:k<m):q∈mz SL (.inl (1+k))↔q=sp 2 k\/q=sp 1 (1+k):=by
 rw[lX (S.k k hk)];split
 .simp[or_comm]
 .simp
def vals(K:Wk W m Bqq T M)(S:BI SL m wh Uk){ws ak fk:-(Int×Int)}{AF F:Int×Int->Nat}(R:FC W SL (j8 m) (l8 m) ws ak AF fk F)(c:∀q∈ws,Σw k,w<2/\k<=m/\q=sp w (1+m+k)) :
  (∀q∈bL SL (l8 m) ws,q∈fk)/\(∀w k,w<2->k<=m->sp w (1+m+k)∈ws->F (sp w (1+m+k))=tv ((T w).getD k 0) [xw M (1+m) w 0,xw M (1+m) w 1,xw M (1+m) w m] (1+m))/\mB SL (j8 m).length F (l8 m) (hJ SL (j8 m)).2.2=Wh (1+m):=by
 let U:=K.hm;let O:=MC K S R;let o:=R.b;generalize BH W SL (j8 m) (l8 m) ak AF=z at *;let a:∀k:Nat,(Uk&&k==wh)=Uk:=λZ=>rfl
 let u:∀w j,w<2->j<=m->sp w j∈z.1/\z.2 (sp w j)=xw M (1+m) w j:=λw j c v=>by
  have:w=0\/w=1:=∅
  obtain rfl|rfl:=this
  .show O.f j ∅
  .match j,v with
   |0,_=>show O.i
   |j+1,v=>
    have:=O.g j ∅ (a j);rw[RI j 1];rwa[this.1,this.2.trans ?_];delta xw;rw[if_neg ⋯,if_neg ∅,RL]
 let x:∀w k,w<2->k<=m->sp w (1+m+k)∈bL SL (l8 m) ws->sp w (1+m+k)∈fk:=λw k c hk hq=>by
  let⟨A,r,z_⟩:=K.gK c hk;show(o.mem _).mpr (.new (.base hq λy=>by have:=O.no _ _ y;lia) A λs p=>?_);rw[r] at p;dsimp[Qf,Qw,or_false] at p;obtain rfl|rfl|rfl:=p
  .show .old (u w 0 c ∅).1
  .show .old (u w 1 c ∅).1
  .show .old (u w m c ∅).1
 let t:∀k,k<m->sp 2 k∈fk/\F (sp 2 k)=yc M (1+m) k:=λk hk=>by
  let⟨A,r,E⟩:=K.hK hk;let I:sp 2 k∉z.1:=λy=>by have:=O.no _ _ y;lia
  let D:=O.f (1+k) ∅
  let N:sp 2 k∈fk:=(o.mem _).mpr (.new (.base (need_mem.mpr (.inr #[1+k,gv_mem.mpr #[k,hk,rfl],(Bm S hk).mpr (.inl rfl)])) I) A λs p=>by
   rw[r,Qs] at p;rw[p];show .old D.1)
  rwa[N,?_];rw[o.new _ N I,r,E,g9];change tv (M k) [F (sp 0 (1+k))] (1+m)=_;rw[o.old _ D.1,D.2];rfl
 let n:∀k,k<m->sp 1 (1+k)∈fk/\F (sp 1 (1+k))=yc M (1+m) k:=λk hk=>by
  have:=O.g k hk (a k);rwa[(o.mem _).mpr (.old this.1),(o.old _ this.1).trans this.2]
 rwa[λq hq=>?_,λw k d hk hq=>?_,?_]
 .obtain h|⟨g,H,h⟩:=need_mem.mp hq
  .let⟨w,k,c,hk,rfl⟩:=c q h;show x w k c hk hq
  .let⟨k,hk,rfl⟩:=gv_mem.mp H;rcases(Bm S hk).mp h with rfl|rfl
   .show(t k hk).1
   .show(n k hk).1
 .let⟨A,r,E⟩:=K.gK d hk;rw[o.new _ (x w k d hk (need_mem.mpr (.inl hq))) (λy=>by have:=O.no _ _ y;lia),r,E,g9];let e:∀j,j<=m->F (sp w j)=xw M (1+m) w j:=λj v=>(o.old _ (u w j d v).1).trans (u w j d v).2;change tv _ [F (sp w 0),F (sp w 1),F (sp w m)] _=_;rw[e 0 ∅,e 1 ∅,e m ∅]
 .rw[(uf S.z K.hm).2.1,g9]
  let C:∀l:-Nat,(∀g∈l,g∈l8 m)->mB SL (1+m) F l (Wh (1+m))=Wh (1+m):=by
   intro l
   induction l with
   |nil=>intro _;rfl
   |cons g l Q=>
    intro P;let⟨k,hk,rfl⟩:=gv_mem.mp (P g Qr);let e:=S.k k hk;rw[if_neg (by rw[a k];decide)] at e
    have:ua SL (Wh (1+m)) F (Wh (1+m)) (1+k)=Wh (1+m):=by
     delta ua;rw[e];change Wh (1+m) &&& (Wh (1+m) ^^^ F (sp 2 k) ^^^ F (sp 1 (1+k)))=_;rw[(t k hk).2,(n k hk).2,Nat.xor_assoc,Nat.xor_self,Nat.xor_zero,Nat.and_self]
    change mB SL (1+m) F l (ua SL (Wh (1+m)) F (Wh (1+m)) (1+k))=_;rw[this];show Q λg H=>P g (Qh _ H)
  show C _ λZ h=>h
theorem xO(K:Wk W m Bqq T M)(S:BI SL m wh Uj)(a:wh<m){ws ak fk:-(Int×Int)}(R:FC W SL (j8 m) (l8 m) ws ak AF fk F):¬∀q∈bL SL (l8 m) ws,q∈fk:=λh=>by
 let e:=K.hm;let O:=MC K S R;let d:=(R.b.mem _).mp (h (sp 1 (1+wh)) (need_mem.mpr (.inr #[1+wh,gv_mem.mpr #[wh,a,rfl],(Bm S a).mpr (.inr rfl)])))
 let c:sp 1 (1+wh)∉(BH W SL (j8 m) (l8 m) ak AF).1:=λy=>by
  have:=(O.no _ _ y).2.2 rfl;rw[RL] at this;simp at this
 show K.no ⋯ ∅ (d.inv c).2.1
end
def O6:Bool:=[2,3].all λn=>(Qo n).all λk=>(Qo (2^n)).all λb=>(cx k n).testBit b==b.testBit k
def Jf:O6=Uj:=by symm
def cb{m k b:Nat}(a:m=1\/m=2)(hk:k<1+m)(c:b<2^(1+m)):(cx k (1+m)).testBit b=b.testBit k:=by
 let h:=QB.mp Jf (1+m) (by obtain rfl|rfl:=a<;>simp)
 let h:=QB.mp h k (Qq.mpr hk);show eq_of_beq (QB.mp h b (Qq.mpr c))
def even_iff{a b n:Nat}:(a ^^^ b) &&& Wh n=0↔∀t,t<2^n->a.testBit t=b.testBit t:=by
 constructor
 .intro h t c;have:((a ^^^ b) &&& Wh n).testBit t=(0:Nat).testBit t:=by rw[h]
  rw[Tc,Sa,AH c,S4,Tt] at this;simpa using this
 .intro h;show Nat.eq_of_testBit_eq λt=>?_;rw[Tc,Sa,S4,SN];by_cases c:t<2^n
  .rw[h t c,Tv,Rk]
  .rw[decide_eq_false c,Se]
meta def iw(M:Nat->Nat)(m w t:Nat):Nat:=(t.testBit 0).toNat+2*(((if w=0 then t.testBit 1 else(M 0).testBit (t.testBit 1).toNat)).toNat+2*(if w=0 then t.testBit m else(M (m-1)).testBit (t.testBit m).toNat).toNat)
def Bn(M:Nat->Nat){m k t:Nat}(b:m=1\/m=2)(hk:k<m)(a:t<2^(1+m)):(yc M (1+m) k).testBit t=(M k).testBit (t.testBit (1+k)).toNat:=by
 delta yc;rw[t9 _ ∅ (by change 1<=3;decide) a];change(M k).testBit (((cx (1+k) (1+m)).testBit t).toNat+2*0)=_;rw[cb b ∅ a];rfl
def iW(M:Nat->Nat){m w t T:Nat}(b:m=1\/m=2)(g:w<2)(a:t<2^(1+m)):(tv T [xw M (1+m) w 0,xw M (1+m) w 1,xw M (1+m) w m] (1+m)).testBit t=T.testBit (iw M m w t):=by
 rw[t9 _ ∅ (by change 3<=3;decide) a];congr 1;change((xw M (1+m) w 0).testBit t).toNat+2*(((xw M (1+m) w 1).testBit t).toNat+2*(((xw M (1+m) w m).testBit t).toNat+2*0))=_;have:w=0\/w=1:=∅
 obtain rfl|rfl:=this
 .let e:∀j,xw M (1+m) 0 j=cx j (1+m):=λj=>if_pos rfl;rw[e,e,e,cb b ∅ a,cb b ∅ a,cb b ∅ a];rfl
 .let e:∀k,xw M (1+m) 1 (1+k)=yc M (1+m) k:=λk=>by
   delta xw;rw[if_neg ⋯,if_neg ∅,RL]
  let f:xw M (1+m) 1 0=cx 0 (1+m):=by delta xw;rw[if_neg ⋯,if_pos rfl]
  let c:=e (m-1);rw[show 1+(m-1)=m by lia] at c;let d:=Bn M b (k:=m-1) ∅ a;rw[show 1+(m-1)=m by lia] at d;rw[f,c,show xw M (1+m) 1 1=_ from e 0,cb b ∅ a,Bn M b (k:=0) ∅ a,d];rfl
section
variable {W:Wd} {m:Nat} {Bqq:Nat->-Bool} {T:Nat->-Nat} {M:Nat->Nat} {SL:-P2} {wh:Nat} {u:Bool}
abbrev mE(M:Nat->Nat)(T:Nat->-Nat)(m:Nat):Bool:=decide (∀t,t<2^(1+m)->((T 0).getD m 0).testBit (iw M m 0 t)=((T 1).getD m 0).testBit (iw M m 1 t))
abbrev wm(M:Nat->Nat)(T:Nat->-Nat)(m k:Nat):Bool:=decide (∀t,t<2^(1+m)->(M k).testBit (((T 0).getD k 0).testBit (iw M m 0 t)).toNat=((T 1).getD k 0).testBit (iw M m 1 t))
def FH(K:Wk W m Bqq T M)(S:BI SL m wh u)(d:∀x∈SL,x.1∈uL W/\x.2∈uL W)(c:wh<m):DN [bG W,bP SL,cj (l4 m)]=B (.sh,.bl (!u&&mE M T m)):=by
 let f:=K.hm;let⟨j,n,a,F,R,e⟩:=Ea K.ok (t:=l4 m) (FG K S d) (K.u ∅) (K.u ∅);show e.trans ?_;let R:FC W SL (j8 m) (l8 m) [sp 0 (1+2*m),sp 1 (1+2*m)] j n a F:=R
 cases u with
 |true=>
  have:xT SL (l4 m) [sp 0 (1+2*m),sp 1 (1+2*m)] a=Uk:=by
   show TV.mpr λh=>xO K S c R λq hq=>of_decide_eq_true (QB.mp h q hq)
  rw[show xT SL (l4 m) [(l4 m).p,(l4 m).q] a=Uk from this];rfl
 |false=>
  let⟨l,i,k⟩:=vals K S R λq hq=>by
   dsimp[Qf,Qw,or_false] at hq;obtain rfl|rfl:=hq
   .rwa[0,m,⋯,Qe _,congrArg (sp 0) ∅]
   .rwa[1,m,⋯,Qe _,congrArg (sp 1) ∅]
  rw[show xT SL (l4 m) [(l4 m).p,(l4 m).q] a=Uj from QB.mpr λq hq=>decide_eq_true (l q hq)];rw[show xU SL (l4 m) F=Wh (1+m) from k];change B (Kd.sh,D.bl (decide ((F (l4 m).p ^^^ F (l4 m).q) &&& Wh (1+m)=0)))=B (Kd.sh,D.bl (mE M T m));show congrArg B (q8 (even_iff.trans (forall_congr' λt=>forall_congr' λg=>?_)));let b:∀w,sp w (1+2*m)=sp w (1+m+m):=λw=>congrArg (sp w) ∅;change(F (sp 0 (1+2*m))).testBit t=(F (sp 1 (1+2*m))).testBit t↔_;rw[b 0,b 1,i 0 m ⋯ (Qe _) (by rw[<- b 0];simp),i 1 m ⋯ (Qe _) (by rw[<- b 1];simp),iW M f ⋯ g,iW M f ⋯ g]
def wn{k:Nat}{P:(Int×Int)->(Int×Int)->Prop}(h:P (sp 2 k) (sp 1 (1+k))/\P (sp 1 (1+k)) (sp 2 k)):P (cN m wh u k).p (cN m wh u k).q:=by
 delta cN;split
 .show h.2
 .show h.1
def FI(m wh:Nat)(u:Bool)(k:Nat):(cN m wh u k).fr=j8 m/\(cN m wh u k).gv=l8 m:=by
 delta cN
 split<;>rwa[rfl,rfl]
theorem st_mem{k:Nat}:x∈[(cN m wh u k).p,(cN m wh u k).q]↔x=sp 2 k\/x=sp 1 (1+k):=
 wn (P:=λp q=>x∈[p,q]↔x=sp 2 k\/x=sp 1 (1+k)) #[by simp,by simp[or_comm]]
def Bo(K:Wk W m Bqq T M){k:Nat}(hk:k<m)(h:Cn W kk [(cN m wh u k).p,(cN m wh u k).q] x):x=sp 2 k\/x=sp 1 (1+k)\/x=sp 0 (1+k):=by
 induction h with
 |base h _=>show(st_mem.mp h).imp id .inl
 |step _ a b _ c=>
  obtain rfl|rfl|rfl:=c
  .rw[(K.hK hk).2.1] at b;show .inr (.inr (Qs.mp b))
  .show absurd a (K.no ⋯ ∅)
  .show absurd a (K.no ⋯ ∅)
theorem rE(K:Wk W m Bqq T M){k:Nat}(hk:k<m):(cN m wh u k).p∈uL W/\(cN m wh u k).q∈uL W:=
 wn (P:=λp q=>p∈uL W/\q∈uL W) #[#[K.u ∅,K.u ∅],#[K.u ∅,K.u ∅]]
theorem Eh(K:Wk W m Bqq T M){k:Nat}(hk:k<m):Iw [bG W,cj (cN m wh u k)]=B (.sh,.bl Uj):=
 D6 K.ok (rE K hk).1 (rE K hk).2 λx a=>by
  obtain rfl|rfl|rfl:=Bo K hk a
  .show .inl (K.hK hk).1
  .show .inr (K.mK ⋯ hk).1
  .show .inr (K.mK ⋯ hk).1
theorem oX(K:Wk W m Bqq T M){k:Nat}(hk:k<m){kk:-(Int×Int)}(b:sp 0 (1+k)∈kk)(h1:sp 1 (1+k)∈kk)(h2:sp 2 k∉kk):Kn W kk [(cN m wh u k).p,(cN m wh u k).q] (sp 2 k)/\Kn W kk [(cN m wh u k).p,(cN m wh u k).q] (sp 1 (1+k)):=
 #[.new (.base (st_mem.mpr (.inl rfl)) h2) (K.hK hk).1 λs a=>by
  rw[(K.hK hk).2.1,Qs] at a;rw[a];show .old b,.old h1]
def rF{k:Nat}(h:Kn W kk [(cN m wh u k).p,(cN m wh u k).q] (sp 2 k)/\Kn W kk [(cN m wh u k).p,(cN m wh u k).q] (sp 1 (1+k))):Kn W kk [(cN m wh u k).p,(cN m wh u k).q] (cN m wh u k).p/\Kn W kk [(cN m wh u k).p,(cN m wh u k).q] (cN m wh u k).q:=by
 generalize [(cN m wh u k).p,(cN m wh u k).q]=ws at h;show wn (P:=λp q=>Kn W kk ws p/\Kn W kk ws q) #[h,h.2,h.1]
theorem Na(K:Wk W m Bqq T M)(k:Nat):sp 2 k∉fq W:=λz=>by have:=K.mo z;lia
def rG(K:Wk W m Bqq T M){k n:Nat}(hk:k<m){kk fk:-(Int×Int)}{a F:Int×Int->Nat}(b:sp 0 (1+k)∈kk)(h1:sp 1 (1+k)∈kk)(h2:sp 2 k∉kk)(R:rn W kk a [(cN m wh u k).p,(cN m wh u k).q] n fk F):F (sp 2 k)=tv (M k) [a (sp 0 (1+k))] n/\F (sp 1 (1+k))=a (sp 1 (1+k)):=by
 let c:=(R.mem _).mpr (oX (wh:=wh) (u:=u) K hk b h1 h2).1;rwa[?_,R.old _ h1];rw[R.new _ c h2,(K.hK hk).2.1,(K.hK hk).2.2];change tv (M k) [F (sp 0 (1+k))] n=_;rw[R.old _ b]
def P4{M:Nat}(h:M=1\/M=2)(b:Bool):tv M [b.toNat] 0=(M.testBit b.toNat).toNat:=by
 obtain rfl|rfl:=h<;>cases b<;>symm
theorem FJ{F:Int×Int->Nat}{k:Nat}{P:Nat->Nat->Bool}(c:∀a b,P a b=P b a):P (F (cN m wh u k).p) (F (cN m wh u k).q)=P (F (sp 2 k)) (F (sp 1 (1+k))):=
 wn (P:=λp q=>P (F p) (F q)=P (F (sp 2 k)) (F (sp 1 (1+k)))) #[rfl,c _ _]
def wo(K:Wk W m Bqq T M){k:Nat}(hk:k<m):BE [bG W,cj (cN m wh u k)]=B (.sh,.bl ((M k).testBit ((Bqq 0).getD k Uk).toNat==(Bqq 1).getD k Uk)):=by
 let⟨c,z_,b0⟩:=K.mK (w:=0) ⋯ hk;let⟨d,z_,b1⟩:=K.mK (w:=1) ⋯ hk;let f:=rF (oX (wh:=wh) (u:=u) K hk c d (Na K k));let⟨i,F,R,e⟩:=A3 K.ok (rE K hk).1 (rE K hk).2 f.1 f.2;rw[e];let⟨h,g⟩:=rG K hk c d (Na K k) R;rw[show decide (F (cN m wh u k).p=F (cN m wh u k).q)=decide (F (sp 2 k)=F (sp 1 (1+k))) from FJ (P:=λa b=>decide (a=b)) λa b=>decide_eq_decide.mpr eq_comm,h,g,b0,b1,P4 (K.hM k)];congr 3
 cases(M k).testBit ((Bqq 0).getD k Uk).toNat<;>cases(Bqq 1).getD k Uk<;>rfl
def Ei(K:Wk W m Bqq T M)(S:BI SL m wh u)(h:∀x∈SL,x.1∈uL W/\x.2∈uL W){k:Nat}(hk:k<m):Σb,BF [bG W,bP SL,cj (cN m wh u k)]=B (.sh,.bl b)/\(u=Uk->b=wm M T m k):=by
 let r:=K.hm;let⟨e1,e2⟩:=FI m wh u k
 let f:∀{d:-(Int×Int)},M8 W (cN m wh u k) d->sp 0 (1+k)∈d/\sp 1 (1+k)∈d/\sp 2 k∉d:=λ{d} Q=>by
  let s:Cn W [] [(cN m wh u k).p,(cN m wh u k).q] (sp 2 k):=.base (st_mem.mpr (.inl rfl)) ∎;rwa[(Q.mem _).mpr #[(K.mK ⋯ hk).1,.step s (K.hK hk).1 (by rw[(K.hK hk).2.1];simp) ∎],(Q.mem _).mpr #[(K.mK ⋯ hk).1,.base (st_mem.mpr (.inr rfl)) ∎],λz=>Na K k ((Q.mem _).mp z).1]
 let⟨d,I,U,n,F,V,G,Q,R,w,e⟩:=A5 K.ok (by rw[e1,e2];show FG K S h) (rE K hk).1 (rE K hk).2 λd Q=>by
  let⟨a,b,c⟩:=f Q;show rF (oX K hk a b c)
 rwa[_,e,λD=>?_];subst D;let⟨a,b,c⟩:=f Q;let R:FC W SL (j8 m) (l8 m) (d.map (aF W)) I U n F:=by rw[<- e1,<- e2];show R
 let⟨O,o,C⟩:=vals K S R λq hq=>by
  let⟨x,A,rfl⟩:=Qv.mp hq;let⟨j,i⟩:=(Q.mem x).mp A;obtain rfl|rfl|rfl:=Bo K hk i
  .show absurd j (Na K k)
  .rwa[1,k,⋯,∅,(K.mK ⋯ hk).2.1]
  .rwa[0,k,⋯,∅,(K.mK ⋯ hk).2.1]
 let H:xT SL (cN m wh Uk k) (d.map (aF W)) n=Uj:=by
  delta xT;rw[e2];show QB.mpr λq hq=>decide_eq_true (O q hq)
 let l:xU SL (cN m wh Uk k) F=Wh (1+m):=by
  delta xU;rw[e1,e2];show C
 let⟨y,N⟩:=rG K hk a b c w;rw[H,l,R5,show decide ((G (cN m wh Uk k).p ^^^ G (cN m wh Uk k).q) &&& Wh (1+m)=0)=decide ((G (sp 2 k) ^^^ G (sp 1 (1+k))) &&& Wh (1+m)=0) from FJ (P:=λa b=>decide ((a ^^^ b) &&& Wh (1+m)=0)) λa b=>by rw[Nat.xor_comm],y,N];rw[(K.mK ⋯ hk).2.1,(K.mK ⋯ hk).2.1];let v:sp 0 (1+m+k)∈d.map (aF W):=Qv.mpr #[_,a,(K.mK ⋯ hk).2.1];let E:sp 1 (1+m+k)∈d.map (aF W):=Qv.mpr #[_,b,(K.mK ⋯ hk).2.1];rw[o 0 k ⋯ ∅ v,o 1 k ⋯ ∅ E,e1,g9];show decide_eq_decide.mpr (even_iff.trans (forall_congr' λt=>forall_congr' λg=>?_));rw[iW M r ⋯ g,t9 _ ∅ (by change 1<=3;decide) g];change(M k).testBit (((tv _ _ (1+m)).testBit t).toNat+2*0)=_↔_;rw[iW M r ⋯ g];show Iff.rfl
end
abbrev rO:=D×Bool×Bool×Bool×Bool
abbrev jS(C:Cs)(w:rO):Wd:=#[gq C.m C.bs C.ts,gq C.m (oB C w.2.1) (oT C w.2.2.1),PC C.m C.ms C.wh w.2.2.2.1]
abbrev BO(C:Cs)(w:rO)(s:Nat):-Bool:=if s=0 then C.bs else oB C w.2.1
abbrev TO(C:Cs)(w:rO)(s:Nat):-Nat:=if s=0 then C.ts else oT C w.2.2.1
abbrev rH(C:Cs)(w:rO):Nat->Nat:=Jd C.ms C.wh w.2.2.2.1
abbrev Bp(C:Cs)(w:rO):-St:=(Qo C.m).map (cN C.m C.wh w.2.2.2.2)
def Jg(C:Cs)(x:Bool):(oB C x).length=C.m:=by
 let lo:(o0 C).length=C.m:=by delta o0;rw[Qa,QC]
 delta oB;split
 .rw[Ru,lo]
 .show lo
def Jh(C:Cs)(x:Bool):(oT C x).length=C.m+1:=by
 let lo:(t0 C).length=C.m+1:=by delta t0;rw[Qa,QC]
 delta oT;split
 .rw[Ru,lo]
 .show lo
def Ej{C:Cs}(h:eY C)(w:rO):Wk (jS C w) C.m (BO C w) (TO C w) (rH C w):=by
 rwa[h.m,λs a=>?_,rfl,λs a=>?_,λs a=>?_,λk=>?_]
 .have:s=0\/s=1:=∅
  obtain rfl|rfl:=this<;>rfl
 .have:s=0\/s=1:=∅
  obtain rfl|rfl:=this
  .show h.bs
  .show Jg _ _
 .have:s=0\/s=1:=∅
  obtain rfl|rfl:=this
  .show h.ts
  .show Jh _ _
 .unfold rH Jd;split
  .show .inl rfl
  .show .inr rfl
theorem FK(C:Cs)(w:rO)(a b:-St):eW (jS C w) a b=(sp 0 0,sp 1 0)::(a++b).map λt=>(t.p,t.q):=rfl
def O7{C:Cs}(h:eY C)(w:rO):BI (eW (jS C w) (Bp C w) [l4 C.m]) C.m C.wh w.2.2.2.2:=by
 rw[FK];rwa[rfl,λk hk=>?_];rw[RI,RK,Qc,Rl (by rw[Qa,QC];show hk),Qc,QU hk,RI];change B ((cN C.m C.wh w.2.2.2.2 k).p,(cN C.m C.wh w.2.2.2.2 k).q)=_;delta cN
 split<;>rfl
theorem O8{C:Cs}(h:eY C)(w:rO):∀x∈eW (jS C w) (Bp C w) [l4 C.m],x.1∈uL (jS C w)/\x.2∈uL (jS C w):=λx a=>by
 let K:=Ej h w;let c:=h.m;obtain a|a:=Qp.mp a
 .let⟨k,hk,rfl⟩:=Qv.mp a;have:k<1:=Qq.mp hk;rwa[K.u ∅,K.u ∅]
 .let⟨t,b,rfl⟩:=Qv.mp a;obtain b|b:=Qp.mp b
  .let⟨k,hk,rfl⟩:=Qv.mp b;show rE K (Qq.mp hk)
  .rw[Qs.mp b];rwa[K.u ∅,K.u ∅]
def FL{C:Cs}(h:eY C)(w:rO){t:St}(d:t.p∈uL (jS C w))(hq:t.q∈uL (jS C w))(e1:t.fr=j8 C.m)(e2:t.gv=l8 C.m)(f:1+C.m<=n):D2 (jS C w).c.n (jS C w).c'.n (jS C w).hs.length n t:=by
 let K:=Ej h w;let e:=h.m;rwa[uL_mem.mp d,uL_mem.mp hq,by rw[e1,g9];lia,λx a=>?_,λg b=>?_,by rw[e2,Qa,QC];lia]
 .rw[e1] at a;obtain rfl|a:=Qf.mp a
  .change 0<n
   lia
  .let⟨k,hk,rfl⟩:=Qv.mp a;have:=Qq.mp hk;show uL_mem.mp (K.u ∅)
 .rw[e2] at b;let⟨k,hk,rfl⟩:=gv_mem.mp b
  lia
def Ji{C:Cs}(h:eY C)(w:rO):AM (jS C w) (Bp C w) [l4 C.m] [1+C.m]:=by
 let K:=Ej h w;let j:=h.m;let d:(Bp C w).length=C.m:=by rw[Qa,QC]
 let b:(jS C w).c.ins=1:=rfl;rwa[λt a=>?_,λi t a=>?_,λn f=>?_,rfl,∅,∎]
 .let⟨k,hk,rfl⟩:=Qv.mp a;let⟨g,e⟩:=rE K (Qq.mp hk);let⟨e1,e2⟩:=FI C.m C.wh w.2.2.2.2 k;show FL h w g e e1 e2 (by rw[d,b];lia)
 .match i,a with
  |0,a=>
   ext a;show FL h w (K.u ∅) (K.u ∅) rfl rfl (by rw[d,b];lia)
  |i+1,a=>simp at a
 .rw[Qs.mp f,d,b];change 1+C.m<1+C.m+1
  lia
meta def vB(o:@&KD):Bool:=match o with|some (_,.bl b)=>b|_=>Uk
def Bq{C:Cs}(h:eY C)(w:rO):Σg:Nat->Bool,(w.2.2.2.2=Uk->∀k,k<C.m->g k=wm (rH C w) (TO C w) C.m k)/\IC [cD (gq C.m C.bs C.ts),cD (gq C.m (oB C w.2.1) (oT C w.2.2.1)),Bg C.m C.ms C.wh w.2.2.2.1 w.2.2.2.2]=B (.sh,.bl ((Qo C.m).all (λk=>(rH C w k).testBit (C.bs.getD k Uk).toNat==(oB C w.2.1).getD k Uk)&&((!w.2.2.2.2&&mE (rH C w) (TO C w) C.m)&&(Qo C.m).all g))):=by
 let K:=Ej h w;let S:=O7 h w;let c:=O8 h w;let o:=h.m
 let hk:∀t∈Bp C w,Σk,k<C.m/\t=cN C.m C.wh w.2.2.2.2 k:=λt a=>by
  let⟨k,hk,rfl⟩:=Qv.mp a;rwa[k,Qq.mp hk,rfl]
 let d:=λk (hk:k<C.m)=>Ei K S c hk;rwa[λk=>vB (BF [bG (jS C w),bP (eW (jS C w) (Bp C w) [l4 C.m]),cj (cN C.m C.wh w.2.2.2.2 k)]),λi k hk=>?_,?_]
 .let⟨b,e,j⟩:=d k hk;change vB (BF [bG (jS C w),bP (eW (jS C w) (Bp C w) [l4 C.m]),cj (cN C.m C.wh w.2.2.2.2 k)])=_;rw[e];show j i
 let e:=uc K.ok (Ji h w) (λt=>vB (BE [bG (jS C w),cj t])) (λt=>vB (DN [bG (jS C w),bP (eW (jS C w) (Bp C w) [l4 C.m]),cj t])) (λt=>vB (BF [bG (jS C w),bP (eW (jS C w) (Bp C w) [l4 C.m]),cj t])) ?_ (λt a=>?_) (λt a=>?_) (λt a=>?_) λt a=>?_
 .show e.trans ?_;rw[TL,TL];let f:∀k,k<C.m->vB (BE [bG (jS C w),cj (cN C.m C.wh w.2.2.2.2 k)])=((rH C w k).testBit (C.bs.getD k Uk).toNat==(oB C w.2.1).getD k Uk):=λk hk=>by rw[wo K hk];rfl
  let n:vB (DN [bG (jS C w),bP (eW (jS C w) (Bp C w) [l4 C.m]),cj (l4 C.m)])=(!w.2.2.2.2&&mE (rH C w) (TO C w) C.m):=by rw[FH K S c h.wh];rfl
  let l:(Qo C.m).all ((λt=>vB (BE [bG (jS C w),cj t]))∘cN C.m C.wh w.2.2.2.2)=(Qo C.m).all (λk=>(rH C w k).testBit (C.bs.getD k Uk).toNat==(oB C w.2.1).getD k Uk):=by
   show R9.mpr ?_;rw[QB,QB];show forall_congr' λk=>forall_congr' λhk=>by rw[<- f k (Qq.mp hk)];rfl
  rw[l,<- n];dsimp[Q3,List.all_nil,Tt];rfl
 .change [(eW (jS C w) (Bp C w) [l4 C.m])[1+C.m]?]=[B (sp 0 (1+2*C.m),sp 1 (1+2*C.m))];rw[FK,RI,RK,Qc,Rj (by rw[Qa,QC];show Qe _),Qa,QC,Sc];rfl
 .let⟨k,hk,rfl⟩:=hk t a;show Eh K hk
 .let⟨k,hk,rfl⟩:=hk t a;rw[wo K hk];rfl
 .rw[Qs.mp a,FH K S c h.wh];rfl
 .let⟨k,hk,rfl⟩:=hk t a;let⟨b,e,z_⟩:=d k hk;rw[e];rfl
def jT(a:-Bool)(wh:Nat)(z:Bool)(k:Nat)(v:Bool):(Jd a wh z k).testBit v.toNat=(v ^^ (a.getD k Uk ^^ (z&&k==wh))):=by
 delta Jd
 cases(a.getD k Uk ^^ (z&&k==wh))<;>cases v<;>decide
def rJ{α β:Type}{l:List α}{n:Nat}(f:α->β)(a:α)(b:β)(h:n<l.length):(l.map f).getD n b=f (l.getD n a):=by
 rw[Qt,Qc,l0 a h];rfl
def rK{m k:Nat}(h:k<m):(Qo m).getD k 0=k:=by
 rw[Qt,QU h];rfl
def Br{C:Cs}{k:Nat}(h:k<C.m):(o0 C).getD k Uk=(C.bs.getD k Uk ^^ C.ms.getD k Uk):=by
 delta o0;rw[rJ _ 0 _ (by rw[QC];show h),rK h]
def MD{C:Cs}(h:C.wh<C.m):(oB C Uj).getD C.wh Uk=!(C.bs.getD C.wh Uk ^^ C.ms.getD C.wh Uk):=by
 let lo:(o0 C).length=C.m:=by delta o0;rw[Qa,QC]
 delta oB;rw[if_pos rfl,Qt,QF ∅,Br h];rfl
def MG{C:Cs}{k:Nat}(h:k<C.m+1):(t0 C).getD k 0=Be (C.ts.getD k 0) (C.ms.getD 0 Uk) (C.ms.getD (C.m-1) Uk) ((C.ms++[Uk]).getD k Uk):=by
 delta t0;rw[rJ _ 0 _ (by rw[QC];show h),rK h]
def Ek(b i:Nat):(1*2^b).testBit i=(i==b):=by
 rw[Nat.one_mul,Nat.testBit_two_pow];show R9.mpr (by rw[decide_eq_true_eq,beq_iff_eq];show eq_comm)
def Bs{C:Cs}(h:eY C)(y:Bool){k:Nat}(hk:k<C.m+1)(i:Nat):((oT C y).getD k 0).testBit i=(((t0 C).getD k 0).testBit i ^^ (y&&k==C.a&&i==C.b)):=by
 let lo:(t0 C).length=C.m+1:=by delta t0;rw[Qa,QC]
 let c:=h.a;delta oT;ext y
 .rw[if_neg ⋯];simp
 .rw[if_pos rfl];by_cases e:k=C.a
  .subst e;rw[Qt,QF ∅];change((t0 C).getD C.a 0 ^^^ 1*2^C.b).testBit i=_;rw[Sa,Ek];simp
  .rw[Qt,QH (Ne.symm e),<- Qt,show(k==C.a)=Uk from beq_eq_false_iff_ne.mpr e];simp
def Bt(x y z:Bool):(x.toNat+2*(y.toNat+2*z.toNat)).testBit 0=x/\(x.toNat+2*(y.toNat+2*z.toNat)).testBit 1=y/\(x.toNat+2*(y.toNat+2*z.toNat)).testBit 2=z/\x.toNat+2*(y.toNat+2*z.toNat)<8:=by
 cases x<;>cases y<;>cases z<;>decide
section
variable {C:Cs}
abbrev MF(C:Cs):Nat->Nat:=Jd C.ms C.wh Uk
def P5(C:Cs)(t:Nat):iw (MF C) C.m 1 t=(t.testBit 0).toNat+2*((t.testBit 1 ^^ C.ms.getD 0 Uk).toNat+2*(t.testBit C.m ^^ C.ms.getD (C.m-1) Uk).toNat):=by
 delta iw;rw[if_neg ⋯,if_neg ⋯,jT,jT];simp
def Jj(C:Cs)(t:Nat):old (C.ms.getD 0 Uk) (C.ms.getD (C.m-1) Uk) (iw (MF C) C.m 1 t)=iw (MF C) C.m 0 t/\iw (MF C) C.m 1 t<8:=by
 rw[P5];let⟨b0,b1,b2,a⟩:=Bt (t.testBit 0) (t.testBit 1 ^^ C.ms.getD 0 Uk) (t.testBit C.m ^^ C.ms.getD (C.m-1) Uk);rwa[?_,a];unfold old iw;rw[b0,b1,b2,if_pos rfl,if_pos rfl,Bool.xor_assoc,Tv,SF,Bool.xor_assoc,Tv,SF]
 lia
def Bu{k:Nat}(h:k<C.m+1)(t:Nat):((t0 C).getD k 0).testBit (iw (MF C) C.m 1 t)=((C.ts.getD k 0).testBit (iw (MF C) C.m 0 t) ^^ (C.ms++[Uk]).getD k Uk):=by
 let⟨e,a⟩:=Jj C t;rw[MG h];delta Be;rw[Bd _ a];delta iV;rw[e]
def hit(C:Cs):Bool:=decide (∀t,t<2^(1+C.m)->iw (MF C) C.m 1 t≠C.b)
def wq{C:Cs}{y:Bool}{k:Nat}{P Q:Nat->Bool}(h:∀t,(P t=Q t)↔¬(y&&k==C.a&&iw (MF C) C.m 1 t==C.b)=Uj):decide (∀t,t<2^(1+C.m)->P t=Q t)=(!(y&&k==C.a)||hit C):=by
 delta hit;cases e:y&&k==C.a
 .rw[decide_eq_true λt Z=>(h t).mpr (by rw[e,Rk];show Qx)];rfl
 .rw[Ry,Ts];show decide_eq_decide.mpr (forall_congr' λt=>forall_congr' λZ=>(h t).trans ?_);rw[e,R5,beq_iff_eq]
def El(h:eY C)(y:Bool)(d:D)(x u:Bool):mE (rH C (d,x,y,Uk,u)) (TO C (d,x,y,Uk,u)) C.m=(!(y&&C.m==C.a)||hit C):=by
 show wq λt=>?_;change((C.ts.getD C.m 0).testBit (iw (MF C) C.m 0 t)=((oT C y).getD C.m 0).testBit (iw (MF C) C.m 1 t))↔_
 let l:(C.ms++[Uk]).getD C.m Uk=Uk:=by
  rw[Qt,Rj (by rw[h.ms];show Qe _),h.ms,Sc];rfl
 rw[Bs h y ∅,Bu ∅,l,SF]
 cases(C.ts.getD C.m 0).testBit (iw (MF C) C.m 0 t)<;>cases(y&&C.m==C.a&&iw (MF C) C.m 1 t==C.b)<;>decide
def l5(h:eY C)(y:Bool)(d:D)(x u:Bool){k:Nat}(hk:k<C.m):wm (rH C (d,x,y,Uk,u)) (TO C (d,x,y,Uk,u)) C.m k=(!(y&&k==C.a)||hit C):=by
 show wq λt=>?_;change((MF C k).testBit ((C.ts.getD k 0).testBit (iw (MF C) C.m 0 t)).toNat=((oT C y).getD k 0).testBit (iw (MF C) C.m 1 t))↔_
 let l:(C.ms++[Uk]).getD k Uk=C.ms.getD k Uk:=by
  rw[Qt,Rl (by rw[h.ms];show hk),<- Qt]
 rw[Bs h y ∅,Bu ∅,l,jT,Rk,SF]
 cases(C.ts.getD k 0).testBit (iw (MF C) C.m 0 t)<;>cases C.ms.getD k Uk<;>cases(y&&k==C.a&&iw (MF C) C.m 1 t==C.b)<;>decide
def Jk(h:eY C):hit C=!(C.m==2||C.b.testBit 1==C.b.testBit 2):=by
 let⟨m,n,f,o,k,a,b⟩:=C;let⟨j,z_,c,y_,x_,w_,g⟩:=h;cbv at j c g;let e:hit #[m,n,f,o,k,a,b]=hit #[m,[],f,[],0,0,b]:=rfl;rw[e];obtain rfl|rfl:=j
 .let⟨d,rfl⟩:=RP.mp c;show(by nofun:∀(b:Fin 8) (d:Bool),hit #[1,[],[d],[],0,0,b]=!((1:Nat)==2||b.val.testBit 1==b.val.testBit 2)) #[b,g] d
 .obtain⟨d,i,rfl⟩:Σx y,f=[x,y]:=by
   cases f with
   |nil=>ext c
   |cons x l=>let⟨y,rfl⟩:=RP.mp (Nat.succ.inj c);rwa[x,y,rfl]
  show(by nofun:∀(b:Fin 8) (d i:Bool),hit #[2,[],[d,i],[],0,0,b]=!((2:Nat)==2||b.val.testBit 1==b.val.testBit 2)) #[b,g] d i
def nA(h:eY C)(d:D)(y u:Bool):(Qo C.m).all (λk=>(rH C (d,Uk,y,Uk,u) k).testBit (C.bs.getD k Uk).toNat==(oB C Uk).getD k Uk)=Uj:=by
 show QB.mpr λk hk=>?_;let hk:=Qq.mp hk;change((MF C k).testBit (C.bs.getD k Uk).toNat==(o0 C).getD k Uk)=Uj;rw[jT,Br hk];simp
theorem nC{C:Cs}{f:Nat->Bool}(h:eY C)(e:f C.wh=Uk):(Qo C.m).all f=Uk:=TV.mpr λz=>by
 have:=QB.mp z C.wh (Qq.mpr h.wh);rw[e] at this;ext this
def Jl(C:Cs)(w:rO):Bool:=!(w.2.1||w.2.2.2.1||w.2.2.2.2)&&(!w.2.2.1||hit C)
def ug(h:eY C){w:rO}(i:w∈Bh):IC [cD (gq C.m C.bs C.ts),cD (gq C.m (oB C w.2.1) (oT C w.2.2.1)),Bg C.m C.ms C.wh w.2.2.2.1 w.2.2.2.2]=B (.sh,.bl (Jl C w)):=by
 let⟨g,c,e⟩:=Bq h w;rw[e];let j:=h.a
 let b:∀(d:D) (y:Bool) (g:Nat->Bool),(∀k,k<C.m->g k=wm (rH C (d,Uk,y,Uk,Uk)) (TO C (d,Uk,y,Uk,Uk)) C.m k)->(mE (rH C (d,Uk,y,Uk,Uk)) (TO C (d,Uk,y,Uk,Uk)) C.m&&(Qo C.m).all g)=(!y||hit C):=λd y g c=>by
  rw[El h];show R9.mpr ?_;rw[Qd,QB];cases f:hit C
  .rw[SR,SR];ext y
   .rwa[λZ=>rfl,λZ=>#[rfl,λk hk=>by rw[c k (Qq.mp hk),l5 h _ _ _ _ (Qq.mp hk)];rfl]]
   .rwa[λz=>?_,λz=>by cases z];by_cases e:C.m=C.a
    .rw[e] at z;simp at z
    .let hk:C.a<C.m:=∅
     have:=z.2 C.a (Qq.mpr hk);rw[c _ hk,l5 h _ _ _ _ hk,f] at this;simp at this
  .rw[S5,S5];rwa[λZ=>rfl,λZ=>#[rfl,λk hk=>by rw[c k (Qq.mp hk),l5 h _ _ _ _ (Qq.mp hk),f,S5]]]
 dsimp[Qf,Qw,or_false] at i;obtain rfl|rfl|rfl|rfl|rfl:=i
 .have:=b _ Uk g (c rfl);rw[nA h,show(!(Uk:Bool)&&mE (rH C (.str "",Uk,Uk,Uk,Uk)) (TO C (.str "",Uk,Uk,Uk,Uk)) C.m)=mE (rH C (.str "",Uk,Uk,Uk,Uk)) (TO C (.str "",Uk,Uk,Uk,Uk)) C.m from rfl,this];rfl
 .change B (Kd.sh,D.bl (_&&((!Uj&&_)&&_)))=_;rw[Ry,Rk,Rk,Se];rfl
 .rw[nC h,Rk]
  .rfl
  .change((MF C C.wh).testBit (C.bs.getD C.wh Uk).toNat==(oB C Uj).getD C.wh Uk)=Uk;rw[jT,MD h.wh]
   cases C.bs.getD C.wh Uk<;>cases C.ms.getD C.wh Uk<;>rfl
 .rw[nC h,Rk]
  .rfl
  .change((Jd C.ms C.wh Uj C.wh).testBit (C.bs.getD C.wh Uk).toNat==(o0 C).getD C.wh Uk)=Uk;rw[jT,Br h.wh,show(Uj&&C.wh==C.wh)=Uj by simp]
   cases C.bs.getD C.wh Uk<;>cases C.ms.getD C.wh Uk<;>rfl
 .have:=b _ Uj g (c rfl);rw[nA h,show(!(Uk:Bool)&&mE (rH C (.str "table",Uk,Uj,Uk,Uk)) (TO C (.str "table",Uk,Uj,Uk,Uk)) C.m)=mE (rH C (.str "table",Uk,Uj,Uk,Uk)) (TO C (.str "table",Uk,Uj,Uk,Uk)) C.m from rfl,this];rfl
end
def Em{n:Nat}{ds:-D}(h:∀d∈ds,eZ n d=Uj):eZ (n+1) (.lst ds)=Uj:=by
 change(decide (1<=n+1)&&ll (n+1-1) ds)=Uj;rw[decide_eq_true ∅,SO,kK h];rfl
def cP{n:Nat}{ds:-D}(h:∀d∈ds,eZ n d=Uj):eZ (n+1) (.tup ds)=Uj:=by
 change(decide (1<=n+1)&&ll (n+1-1) ds)=Uj;rw[decide_eq_true ∅,SO,kK h];rfl
theorem df{n:Nat}{α:Type}{l:List α}{f:α->D}(h:∀a,eZ n (f a)=Uj):eZ (n+1) (.lst (l.map f))=Uj:=Em λd b=>by
 let⟨a,z_,rfl⟩:=Qv.mp b;show h a
def cQ:eZ n (.int k)=Uj:=by delta eZ;rfl
theorem oY{n:Nat}(p:Int×Int):eZ (n+1) (pD p)=Uj:=cP λd a=>by
 dsimp[Qf,Qw,or_false] at a
 obtain rfl|rfl:=a<;>show cQ
def Jm{n:Nat}(x:Fr):eZ (n+1) (it x)=Uj:=by
 ext x
 .show cQ
 .show oY _
theorem Bv(t:St):eZ 88 (cj t)=Uj:=cP (n:=87) λd b=>by
 dsimp[Qf,Qw,or_false] at b;obtain rfl|rfl|rfl|rfl:=b
 .show oY (n:=86) _
 .show oY (n:=86) _
 .show df (n:=86) λa=>Jm (n:=85) a
 .show df (n:=86) λa=>cQ
theorem Jn(h:BG):eZ 88 (v3 h)=Uj:=cP (n:=87) λd b=>by
 dsimp[Qf,Qw,or_false] at b;obtain rfl|rfl:=b
 .show cQ
 .show cP (n:=86) λd b=>by
   let⟨a,z_,rfl⟩:=Qv.mp b;show oY (n:=85) _
theorem En(m:Nat)(c:-Bool)(wh:Nat)(z u:Bool):eZ 90 (Bg m c wh z u)=Uj:=cP (n:=89) λd b=>by
 dsimp[Qf,Qw,or_false] at b;obtain rfl|rfl|rfl|rfl:=b
 .show df (n:=88) λa=>Jn a
 .show df (n:=88) λt=>Bv t
 .show df (n:=88) λt=>Bv t
 .show df (n:=88) λa=>cQ
theorem MH(c:Ci):eZ 89 (cD c)=Uj:=cP (n:=88) λd b=>by
 dsimp[Qf,Qw,or_false] at b;obtain rfl|rfl|rfl|rfl:=b
 .show cQ
 .show df (n:=87) λm=>cP (n:=86) λd b=>by
   dsimp[Qf,Qw,or_false] at b
   obtain rfl|rfl:=b<;>show cQ
 .show df (n:=87) λg=>cP (n:=86) λd b=>by
   dsimp[Qf,Qw,or_false] at b;obtain rfl|rfl:=b
   .show cQ
   .show cP (n:=85) λd b=>by
     let⟨a,z_,rfl⟩:=Qv.mp b;show cQ
 .show df (n:=87) λa=>cQ
theorem Eo(c b:Ci):eZ 90 (.tup [cD c,cD b])=Uj:=cP (n:=89) λd a=>by
 dsimp[Qf,Qw,or_false] at a
 obtain rfl|rfl:=a<;>show MH _
theorem wt(h:eZ 90 d=Uj):cA .NotEq d d=B Uk:=(if_pos #[h,h]).trans (by rw[qH h];rfl)
def Bw{w:rO}(h:w∈Bh):cA .Eq w.1 (.str "begin")=B w.2.1/\cA .Eq w.1 (.str "table")=B w.2.2.1:=by
 dsimp[Qf,Qw,or_false] at h
 obtain rfl|rfl|rfl|rfl|rfl:=h<;>rwa[by symm,by symm]
def Jo(c:eY C){w:rO}(h:w∈Bh)(h1:aa Γ_30.fn (.var 1) Z=B (.sh,rC C))(h2:aa Γ_30.fn (.var 2) Z=B (.sh,w.1)):aa Γ_30.fn (.bool .Or (.cons (.cmp .Eq (.var 2) (.lit (.str ""))) (.cons (.bool .And (.cons (.cmp .Eq (.var 2) (.lit (.str "table"))) (.cons (.not (.fn 30 (.cons (.var 1) .nil))) .nil))) .nil))) Z=B (.sh,.bl (Jl C w)):=by
 let a:=λ{x y:Bool} (e:cA .Eq w.1 (.str "")=B x) (f:cA .Eq w.1 (.str "table")=B y)=>DS (Γ:=Γ_30.fn) (Z:=Z) (k:=.sh) (gJ (c5 h2 (show aa Γ_30.fn (.lit (.str "")) Z=B (.sh,.str "") from rfl) e)) λY=>fj (cI (k:=.sh) (gJ (c5 h2 (show aa Γ_30.fn (.lit (.str "table")) Z=B (.sh,.str "table") from rfl) f)) λY=>fj (Fe (k:=.sh) (d:=.bl (C.m==2||C.b.testBit 1==C.b.testBit 2)) (bd (n:=30) (U:=M5) (ds:=[rC C]) rfl (e1 h1) rfl rfl (Je c) rfl) rfl));dsimp[Qf,Qw,or_false] at h;obtain rfl|rfl|rfl|rfl|rfl:=h
 .show a (x:=Uj) (y:=Uk) (by symm) (by symm)
 .show a (x:=Uk) (y:=Uk) (by symm) (by symm)
 .show a (x:=Uk) (y:=Uk) (by symm) (by symm)
 .show a (x:=Uk) (y:=Uk) (by symm) (by symm)
 .rw[a (x:=Uk) (y:=Uj) (by symm) (by symm),<- Jk c];rfl
abbrev Ep(ns:-Int)(C:Cs)(x2 R x4 U O x7:@&Sl):Ro:=[fS (.scr ns),fS (rC C),x2,R,x4,U,O,x7]
def Bx(ns:-Int)(K:ns.length<=63):L8 [.scr ns]=B (.sh,.bl Uj):=by
 let⟨C,n,r⟩:=Ee K;delta L8;show eJ rfl ?_;delta OO;erw[fS (.scr ns),L,L,L,L,L,L,L];show aJ (bd (U:=JJ) (ds:=[.scr ns]) rfl (e1 (p:=(.sh,.scr ns)) rfl) rfl rfl r rfl) rfl ⋯ ?_;change Wp (ao _ _ _ [] (Ep ns C L L L L L L)) _;show gG (ff (km (wv (iS (kds:=[(.sh,.str ""),(.sh,.str "order"),(.sh,.str "begin"),(.sh,.str "helper"),(.sh,.str "table"),(.sh,.str "")]) rfl #[rfl,∎]) (fL rfl #[λY Z=>Σs f g b a c,Z=Ep ns C s f g b a c,#[_,_,_,_,_,_,rfl],λi d Z t o=>?_,λZ o=>?_]))))
 .let⟨s,f,g,b,a,c,rfl⟩:=o;let t:([(.str ""),(.str "order"),(.str "begin"),(.str "helper"),(.str "table"),(.str "")]:-D)[i]?=B d:=t
  obtain⟨w,l,rfl⟩:∃w∈Bh,w.1=d:=by
   let y:=QD t;dsimp[Qf,Qw,or_false] at y;obtain rfl|rfl|rfl|rfl|rfl|rfl:=y
   .rwa[_,Qr,rfl]
   .rwa[_,Qh _ Qr,rfl]
   .rwa[_,Qh _ (Qh _ Qr),rfl]
   .rwa[_,Qh _ (Qh _ (Qh _ Qr)),rfl]
   .rwa[_,Qh _ (Qh _ (Qh _ (Qh _ Qr))),rfl]
   .rwa[_,Qr,rfl]
  let⟨E,w2⟩:=Bw l;let F:=Ef n E w2;let hq:=xN n l;let hk:=ug n l;let H:=En C.m C.ms C.wh w.2.2.2.1 w.2.2.2.2;let A:=Eo (gq C.m C.bs C.ts) (gq C.m (oB C w.2.1) (oT C w.2.2.1));let I:=λ{Z:Ro}=>Jo n l (Z:=Z);rwa[[(2,w.1)],rfl,rfl,?_];change Wp (ao _ _ _ [] (Ep ns C (fS w.1) L L L L L)) _;generalize w.1=ch at *;generalize Jl C w=v at *;generalize Bg C.m C.ms C.wh w.2.2.2.1 w.2.2.2.2=pa at *;generalize cD (gq C.m (oB C w.2.1) (oT C w.2.2.1))=c2 at *;generalize cD (gq C.m C.bs C.ts)=c1 at *;show aJ (I rfl rfl) rfl ⋯ ?_;change Wp (ao _ _ _ [] (Ep ns C (fS ch) (fS (.bl v)) L L L L)) _;let j:∀{f g b a c:@&Sl},aa Γ_30.fn (.fn 28 (.cons (.var 1) (.cons (.var 2) .nil))) (Ep ns C (fS ch) f g b a c)=B (.sh,.tup [c1,c2]):=bd (U:=L6) (ds:=[rC C,ch]) rfl (e2 (p:=(.sh,rC C)) (q:=(.sh,ch)) rfl rfl) rfl rfl F rfl;let h:∀{f g b a c:@&Sl},aa Γ_30.fn (.fn 29 (.cons (.var 1) (.cons (.var 2) .nil))) (Ep ns C (fS ch) f g b a c)=B (.sh,pa):=bd (U:=M4) (ds:=[rC C,ch]) rfl (e2 (p:=(.sh,rC C)) (q:=(.sh,ch)) rfl rfl) rfl rfl hq rfl;show dQ (ds:=[c1,c2]) j #[rfl,rfl] ?_;change Wp (ao _ _ _ [] (Ep ns C (fS ch) (fS (.bl v)) (fS c1) (fS c2) L L)) _;show aJ h rfl ⋯ ?_;change Wp (ao _ _ _ [] (Ep ns C (fS ch) (fS (.bl v)) (fS c1) (fS c2) (fS pa) L)) _;show aJ (bd (U:=IC) (ds:=[c1,c2,pa]) rfl (e3 (p:=(.sh,c1)) (q:=(.sh,c2)) (u:=(.sh,pa)) rfl rfl rfl) rfl rfl hk rfl) rfl ⋯ ?_;change Wp (ao _ _ _ [] (Ep ns C (fS ch) (fS (.bl v)) (fS c1) (fS c2) (fS pa) (fS (.bl v)))) _
  show eI (z:=Uk||(Uk||false)) (x:=(.sh,.bl Uk)) (oN (dL (x:=Uj) (vV (d:=.bl v) (k:=.sh) rfl rfl)) λY=>oN (c5 (k:=.sh) (k':=.sh) (d:=.bl v) (d':=.bl v) rfl rfl (by cases v<;>symm)) λY=>gI (c5 (k:=.sh) (d:=pa) rfl h (wt H))) (λe=>by ext e) λY=>?_
  show eI (z:=Uk) (x:=(.sh,.bl Uk)) (c5 (d:=.tup [c1,c2]) (iT (kds:=[(.sh,c1),(.sh,c2)]) (e2 rfl rfl) #[rfl,∎]) j (wt A)) (λe=>by ext e) λY=>aL #[_,.inl rfl,_,_,_,_,_,_,rfl]
 .let⟨s,f,g,b,a,c,rfl⟩:=o;show bN rfl rfl (eK rfl rfl)
abbrev Jp:Pos:=match At with|.FunctionDef _ _ _ _ _ _ _ _ _ p=>p|_=>#[0,0,0,0]
noncomputable abbrev sv(x:String)(t:Tok):Um:=.str (Str.ofString x) t
noncomputable abbrev E(P:Params)(x:String)(t:Tok)(v:Um):DictEntry:=#[PyData.keyHash P (Str.ofString x),.str (Str.ofString x) t,v]
abbrev fO(x:String)(st:Uw)(m:Um)(c:Up):Obj:=#[.type "function",L,.func (Rb (Str.ofString x) (Str.ofString x) (cy st) (aE st) (ab st) .none .none .none m L (.ref c) .none),([].toArray)]
abbrev fQ(x y:String)(st:Uw)(m:Um)(c:Up):Obj:=#[.type "function",L,.func (Rb (Str.ofString x) (Str.ofString y) (cy st) (aE st) (ab st) .none .none .none m L (.ref c) .none),([].toArray)]
abbrev mL:Um:=sv "law_gatepapers_k47_codes_by_helpers" 438
abbrev cO(x:String)(t:Nat)(l n:Int)(r:Up)(b:Bool)(q:Up)(A Bqq C:Um)(s:Up)(u:Nat):Obj:=#[.type "code",L,.fields [sv x t,sv x (t+1),sv "/claim/cut.py" (t+2),.int l 0,.int n 0,.int 0 0,.int 0 0,.int 3 0,.ref r,.bool b,.int 181 0,.ref q,A,Bqq,C,.ref s,.int u 0,.int l 0,sv "/claim/cut.py" (u+1)].toArray,([].toArray)]
abbrev JO:Um:=sv "gatepapers.bits" 187
abbrev Nb:Um:=sv "gatepapers.circuits" 222
abbrev JP:Um:=sv "gatepapers.columns" 239
abbrev l9:Um:=sv "gatepapers.papers" 334
abbrev By:Um:=sv "gatepapers.spots" 265
def KK(P:Params):P9:=[(3,#[(.type "dict"),L,(.dict [E P "__name__" 165 mL,E P "__doc__" 166 .none,E P "__package__" 167 .none,E P "__loader__" 168 (.builtin "__main__.__loader__#opaque"),E P "__spec__" 169 .none,E P "__annotations__" 170 (.ref 6),E P "__builtins__" 171 (.ref 4),E P "__file__" 173 (sv "/claim/cut.py" 172),E P "__cached__" 174 .none,E P "is_whole" 195 (.ref 21),E P "is_below" 203 (.ref 28),E P "bits_of" 209 (.ref 33),E P "MOST_PLACES" 213 (.int 3 212),E P "is_table" 221 (.ref 40),E P "is_tuple" 231 (.ref 47),E P "places_in" 238 (.ref 54),E P "all_trials" 247 (.ref 61),E P "column_of" 258 (.ref 68),E P "column_told" 264 (.ref 73),E P "is_spot" 274 (.ref 80),E P "Ground" 333 (.ref 114),E P "MOST_FREE" 337 (.int 8 336),E P "looked" 343 (.ref 123),E P "is_paper" 349 (.ref 128),E P "is_helper" 355 (.ref 133),E P "is_statement" 361 (.ref 138),E P "hangs_on_no_in" 367 (.ref 143),E P "holds_first" 376 (.ref 150),E P "holds_now" 392 (.ref 157),E P "holds_next" 398 (.ref 162),E P "trials_by" 404 (.ref 167),E P "bits_by_free" 420 (.ref 174),E P "bits_by_given" 437 (.ref 181),E P "_law_mixed" 448 (.ref 188),E P "_law_state" 454 (.ref 193),E P "_law_take" 463 (.ref 200),E P "_law_places" 470 (.ref 207),E P "_law_masked" 484 (.ref 214),E P "_law_case" 490 (.ref 219),E P "_law_circuit" 496 (.ref 224),E P "_law_pair" 502 (.ref 229),E P "_law_paper" 508 (.ref 234),E P "_law_met" 517 (.ref 241),E P "law" 531 (.ref 248)].toArray 44),([].toArray)]),
 (21,fO "is_whole" s0 JO 20),
 (20,cO "is_whole" 189 2 1 15 Uj 16 .none (.ref 17) (.ref 18) 19 193),
 (28,fO "is_below" s1 JO 27),
 (27,cO "is_below" 196 4 2 22 Uj 23 .none (.ref 24) (.ref 25) 26 201),
 (33,fO "bits_of" s2 JO 32),
 (32,cO "bits_of" 204 6 2 29 Uj 30 .none .none .none 31 207),
 (40,fO "is_table" s3 (sv "gatepapers.tables" 210) 39),
 (39,cO "is_table" 214 10 2 34 Uj 35 .none (.ref 36) (.ref 37) 38 219),
 (47,fO "is_tuple" s4 Nb 46),
 (46,cO "is_tuple" 224 17 2 41 Uj 42 .none (.ref 43) (.ref 44) 45 229),
 (54,fO "places_in" s5 Nb 53),
 (53,cO "places_in" 232 19 1 48 Uj 49 .none (.ref 50) (.ref 51) 52 236),
 (61,fO "all_trials" s6 JP 60),
 (60,cO "all_trials" 241 22 1 55 Uj 56 .none (.ref 57) (.ref 58) 59 245),
 (68,fO "column_of" s7 JP 67),
 (67,cO "column_of" 248 24 2 62 Uj 63 .none (.ref 64) (.ref 65) 66 256),
 (73,fO "column_told" s8 JP 72),
 (72,cO "column_told" 259 32 3 69 Uj 70 .none .none .none 71 262),
 (80,fO "is_spot" s9 By 79),
 (79,cO "is_spot" 267 38 2 74 Uj 75 .none (.ref 76) (.ref 77) 78 272),
 (123,fO "looked" Pi l9 122),
 (122,cO "looked" 338 81 3 119 Uj 120 .none .none .none 121 341),
 (128,fO "is_paper" Pj l9 127),
 (127,cO "is_paper" 344 91 3 124 Uj 125 .none .none .none 126 347),
 (133,fO "is_helper" Pl l9 132),
 (132,cO "is_helper" 350 99 2 129 Uj 130 .none .none .none 131 353),
 (138,fO "is_statement" s13 l9 137),
 (137,cO "is_statement" 356 103 3 134 Uj 135 .none .none .none 136 359),
 (143,fO "hangs_on_no_in" Pm l9 142),
 (142,cO "hangs_on_no_in" 362 110 2 139 Uj 140 .none .none .none 141 365),
 (150,fO "holds_first" Pn l9 149),
 (149,cO "holds_first" 368 112 2 144 Uj 145 .none (.ref 146) (.ref 147) 148 374),
 (157,fO "holds_now" Po l9 156),
 (156,cO "holds_now" 377 115 3 151 Uj 152 .none (.ref 153) (.ref 154) 155 390),
 (162,fO "holds_next" ng l9 161),
 (161,cO "holds_next" 393 122 3 158 Uj 159 .none .none .none 160 396),
 (167,fO "trials_by" Pp l9 166),
 (166,cO "trials_by" 399 132 5 163 Uj 164 .none .none .none 165 402),
 (174,fO "bits_by_free" Pq l9 173),
 (173,cO "bits_by_free" 405 146 2 168 Uj 169 .none (.ref 170) (.ref 171) 172 418),
 (181,fO "bits_by_given" tY l9 180),
 (180,cO "bits_by_given" 421 159 5 175 Uj 176 .none (.ref 177) (.ref 178) 179 435),
 (188,fO "_law_mixed" Ps mL 187),
 (187,cO "_law_mixed" 440 172 2 182 Uj 183 .none (.ref 184) (.ref 185) 186 446),
 (193,fO "_law_state" Pt mL 192),
 (192,cO "_law_state" 449 176 1 189 Uj 190 .none .none .none 191 452),
 (200,fO "_law_take" sY mL 199),
 (199,cO "_law_take" 455 181 2 194 Uj 195 .none (.ref 196) (.ref 197) 198 461),
 (207,fO "_law_places" Jy mL 206),
 (206,cO "_law_places" 464 190 1 201 Uj 202 .none (.ref 203) (.ref 204) 205 468),
 (214,fO "_law_masked" JD mL 213),
 (213,cO "_law_masked" 471 192 4 208 Uj 209 .none (.ref 210) (.ref 211) 212 482),
 (219,fO "_law_case" Pu mL 218),
 (218,cO "_law_case" 485 199 1 215 Uj 216 .none .none .none 217 488),
 (224,fO "_law_circuit" Pv mL 223),
 (223,cO "_law_circuit" 491 206 3 220 Uj 221 .none .none .none 222 494),
 (229,fO "_law_pair" Pw mL 228),
 (228,cO "_law_pair" 497 210 2 225 Uj 226 .none .none .none 227 500),
 (234,fO "_law_paper" Px mL 233),
 (233,cO "_law_paper" 503 219 2 230 Uj 231 .none .none .none 232 506),
 (241,fO "_law_met" BD mL 240),
 (240,cO "_law_met" 509 231 1 235 Uj 236 .none (.ref 237) (.ref 238) 239 515),
 (248,fO "law" At mL 247),
 (247,cO "law" 518 234 1 242 Uj 243 .none (.ref 244) (.ref 245) 246 529),
 (99,fQ "put_circuit" "Ground.put_circuit" LV By 98),
 (98,#[(.type "code"),L,(.fields [(sv "put_circuit" 299),(sv "Ground.put_circuit" 300),(sv "/claim/cut.py" 301),(.int 51 0),(.int 3 0),(.int 0 0),(.int 0 0),(.int 3 0),(.ref 95),(.bool Uj),(.int 181 0),(.ref 96),.none,.none,.none,(.ref 97),(.int 302 0),(.int 51 0),(sv "/claim/cut.py" 303)].toArray),([].toArray)]),
 (106,fQ "all_below" "Ground.all_below" Au By 105),
 (105,#[(.type "code"),L,(.fields [(sv "all_below" 305),(sv "Ground.all_below" 306),(sv "/claim/cut.py" 307),(.int 59 0),(.int 3 0),(.int 0 0),(.int 0 0),(.int 3 0),(.ref 100),(.bool Uj),(.int 181 0),(.ref 101),.none,(.ref 102),(.ref 103),(.ref 104),(.int 314 0),(.int 59 0),(sv "/claim/cut.py" 315)].toArray),([].toArray)]),
 (111,fQ "reckoned" "Ground.reckoned" Av By 110),
 (110,#[(.type "code"),L,(.fields [(sv "reckoned" 317),(sv "Ground.reckoned" 318),(sv "/claim/cut.py" 319),(.int 70 0),(.int 4 0),(.int 0 0),(.int 0 0),(.int 3 0),(.ref 107),(.bool Uj),(.int 181 0),(.ref 108),.none,.none,.none,(.ref 109),(.int 320 0),(.int 70 0),(sv "/claim/cut.py" 321)].toArray),([].toArray)]),
 (114,#[.type "type",L,.cls #[Str.ofString "Ground",[.type "object"],[.ref 114,.type "object"],113,Str.ofString "Ground",Uj,[],[],Uk,L,Uk],[L,L,(B (sv "Ground" 275)),(B (sv "Ground" 283)),(B (.builtin "object.__new__")),(B (.bool Uj))].toArray]),
 (113,#[(.type "dict"),L,(.dict [E P "__module__" 282 By,E P "__firstlineno__" 286 (.int 40 285),E P "__init__" 298 (.ref 94),E P "put_circuit" 304 (.ref 99),E P "all_below" 316 (.ref 106),E P "reckoned" 322 (.ref 111),E P "__static_attributes__" 326 (.ref 112),E P "__dict__" 328 (.ref 115),E P "__weakref__" 330 (.ref 116),E P "__doc__" 331 .none].toArray 4),([].toArray)]),
 (94,fQ "__init__" "Ground.__init__" vT By 93),
 (93,#[(.type "code"),L,(.fields [(sv "__init__" 287),(sv "Ground.__init__" 288),(sv "/claim/cut.py" 289),(.int 42 0),(.int 4 0),(.int 0 0),(.int 0 0),(.int 3 0),(.ref 88),(.bool Uj),(.int 181 0),(.ref 89),.none,(.ref 90),(.ref 91),(.ref 92),(.int 296 0),(.int 42 0),(sv "/claim/cut.py" 297)].toArray),([].toArray)])]
def HH:PySem.W.Hook:=PySem.W.kHook KK [3,21,20,28,27,33,32,40,39,47,46,54,53,61,60,68,67,73,72,80,79,123,122,128,127,133,132,138,137,143,142,150,149,157,156,162,161,167,166,174,173,181,180,188,187,193,192,200,199,207,206,214,213,219,218,224,223,229,228,234,233,241,240,248,247,99,98,106,105,111,110,114,113,94,93] (λZ=>rfl)
meta def qv:Uu:=PySem.W.view PySem.Challenge.pw_gatepapers_k47_codes_by_helpers [41]
meta def lo:-Str:=(["__name__","is_whole","is_below","bits_of","MOST_PLACES","is_table","is_tuple","places_in","all_trials","column_of","column_told","is_spot","Ground","MOST_FREE","looked","is_paper","is_helper","is_statement","hangs_on_no_in","holds_first","holds_now","holds_next","trials_by","bits_by_free","bits_by_given","_law_mixed","_law_state","_law_take","_law_places","_law_masked","_law_case","_law_circuit","_law_pair","_law_paper","_law_met"]:-String).map Str.ofString
theorem left:PySem.W.LeftO (PySem.Challenge.rw_gatepapers_k47_codes_by_helpers).row.toRowW.prog qv lo (λs=>PySem.W.xlAt qv [] s&&PySem.W.recOk (PySem.W.RowW.records (PySem.Challenge.rw_gatepapers_k47_codes_by_helpers).row.toRowW) s) (PySem.W.Hook.obs HH) (PySem.W.Hook.val HH) 20000:=λw=>by symm
theorem wP{P:Params}{h:Uz}{mg:Str->@&Um}(X:(KK P).In h)(G:h.Ns UB mg){x:Str}{v:Um}(e:QX (KK P) UB x=B (B v)):mg x=B v:=PySem.W.mg_of X G e
theorem fm{P:Params}(x:String)(st:Uw)(f:Up)(m:Um)(c:Up)(h:(KK P).lookup f=B (fO x st m c):=by symm)(k:Sd (KK P) (.ref c) (Str.ofString x)=Uj:=by symm)(j:Q7 (KK P) (.ref f)=Uj:=by symm):Fun (KK P) (Str.ofString x) (Str.ofString x) st f (Rb (Str.ofString x) (Str.ofString x) (cy st) (aE st) (ab st) .none .none .none m L (.ref c) .none):=k4 h k j
abbrev Pk(P:Params)(mg:Str->@&Um)(i:Nat)(x:Str)(st:Uw)(f:Up)(fd:UH)(N:-Str)(n:Nat)(b:bq):Prop:=Fun (KK P) x x st f fd/\a6 N (N.take n) (ab st)/\mg x=B (.ref f)/\Binds (KK P) fd (N.take n) []/\(x==("__debug__":Str)||rL x)=Uk/\fns.fns[i]?=B x/\qA fns an 60 N st=B b
section
variable {P:Params} {mg:Str->@&Um}
theorem iZ{h:Uz}(X:(KK P).In h)(G:h.Ns UB mg)(i:Nat)(x:String)(st:Uw)(f c:Up)(m:Um)(N:-Str)(n:Nat)(b:bq)(h1:(KK P).lookup f=B (fO x st m c):=by symm)(h2:Sd (KK P) (.ref c) (Str.ofString x)=Uj:=by symm)(e:Q7 (KK P) (.ref f)=Uj:=by symm)(o:QX (KK P) UB (Str.ofString x)=B (B (.ref f)):=by symm)(j:∀(kV d g:Um) (an:@&Up) (a k:Um) (us:-Um),us.length=(N.take n).length->bindArgs (Rb (Str.ofString x) (Str.ofString x) (cy st) (aE st) (ab st) .none kV d g an a k) #[us,[]]=pure ((N.take n).zip us):=by walk_at "bnd")(S:a6 N (N.take n) (ab st):=by walk_at "fsc")(l:qA fns an 60 N st=B b:=by rfl)(hd:(Str.ofString x==("__debug__":Str)||rL (Str.ofString x))=Uk:=by rfl)(hi:fns.fns[i]?=B (Str.ofString x):=by rfl):Pk P mg i (Str.ofString x) st f (Rb (Str.ofString x) (Str.ofString x) (cy st) (aE st) (ab st) .none .none .none m L (.ref c) .none) N n b:=#[fm x st f m c h1 h2 e,S,wP X G o,(fm x st f m c h1 h2 e).binds j,hd,hi,l]
variable {l:PySem.W.OpenLaw} {w:Ux} {base:Uz} {Γ:GG} {k i n:Nat} {x:Str} {st:Uw} {f:Up} {fd:UH} {N:-Str} {b:bq} (T:TabF l.prog w (KK P) mg base (ba fns Γ) k)
include T
theorem aI(ψ:Fn)(q:Pk P mg i x st f fd N n b)(e:∀ds,Le (ψ ds) (bO Γ 1000 (N.take n).length N.length b ds):=by show λZ=>Le.refl _):TabF l.prog w (KK P) mg base (ba fns (Γ.addI i ψ)) (k+1):=T.addI q.1 q.2.1 q.2.2.1 q.2.2.2.1 q.2.2.2.2.1 q.2.2.2.2.2.1 q.2.2.2.2.2.2 e
theorem aM(ψ:Fm)(q:Pk P mg i x st f fd N n b)(e:∀ds,Le (ψ ds) (oy Γ 1000 (N.take n).length N.length [0] b ds):=by show λZ=>Le.refl _):TabF l.prog w (KK P) mg base (ba fns (Γ.addM i ψ)) (k+1):=T.addM q.1 q.2.1 q.2.2.1 q.2.2.2.1 q.2.2.2.2.1 q.2.2.2.2.2.1 q.2.2.2.2.2.2 e
end
def Jq{l:PySem.W.OpenLaw}{w:Ux}{P:Params}{h:Uz}{mg:Str->@&Um}{fa:Up}(X:(KK P).In h)(G:h.Ns UB mg)(hn:mg "law" = B (.ref fa)):Σfd:UH,(∀(s:Uq) (v:Um),BindsTo s fd #[[v],[]] [("_law_script",v)])/\∀base:Uz,(KK P).In base->base.Ns UB mg->FnOk l.prog w (KK P) mg base i9 37 fa fd ["_law_script"] (nZ (KK P) L8):=by
 let e:=hn.symm.trans (wP X G (v:=.ref 248) (by symm));ext e;let N:=fm (P:=P) "holds_next" ng 162 l9 161;let hd:=N.binds (ps:=["ground","statements","statement"]) λJ J J J J J=>LD (λJ J J=>rfl);let I:=fm (P:=P) "bits_by_given" tY 181 l9 180;let hs:=I.binds (ps:=["ground","statements","given","bits","whole"]) λJ J J J J J=>Pg (λJ J J J J=>rfl);let o:=fm (P:=P) "_law_met" BD 241 mL 240;let hg:=o.binds (ps:=["_law_case_here"]) λJ J J J J J=>MX (λJ=>rfl);let u:=fm (P:=P) "law" At 248 mL 247;let h7:=u.binds (ps:=["_law_script"]) λJ J J J J J=>MX (λJ=>rfl);let j:=k4 (K:=KK P) (x:="put_circuit") (qual:="Ground.put_circuit") (st:=LV) (f:=99) (show(KK P).lookup 99=B (fQ "put_circuit" "Ground.put_circuit" LV By 98) by symm) (by symm) (by symm);let hj:=j.binds (ps:=["self","which","circuit"]) λJ J J J J J=>LD (λJ J J=>rfl);let k:=k4 (K:=KK P) (x:="all_below") (qual:="Ground.all_below") (st:=Au) (f:=106) (show(KK P).lookup 106=B (fQ "all_below" "Ground.all_below" Au By 105) by symm) (by symm) (by symm);let hr:=k.binds (ps:=["self","known","wanted"]) λJ J J J J J=>LD (λJ J J=>rfl);let p:=k4 (K:=KK P) (x:="reckoned") (qual:="Ground.reckoned") (st:=Av) (f:=111) (show(KK P).lookup 111=B (fQ "reckoned" "Ground.reckoned" Av By 110) by symm) (by symm) (by symm);let ht:=p.binds (ps:=["self","known","wanted","whole"]) λJ J J J J J=>MY (λJ J J J=>rfl);let y:=k4 (K:=KK P) (x:="__init__") (qual:="Ground.__init__") (st:=vT) (f:=94) (show(KK P).lookup 94=B (fQ "__init__" "Ground.__init__" vT By 93) by symm) (by symm) (by symm);let T:=y.binds (ps:=["self","one","other","helpers"]) λJ J J J J J=>MY (λJ J J J=>rfl);rwa[Rb "law" "law" (cy At) (aE At) (ab At) .none .none .none mL L (.ref 247) .none,λs v=>.of_eq rfl,λbase J J=>?_];let A:Cls (KK P) 114:=#[by symm,by symm,by symm,by symm];let hC:QX (KK P) UB "Ground" = B (B (.ref 114)):=by symm
 let cf:∀c fs C,([("Ground",["gates","begins","afters"])]:-(Str×-Str)).lookup c=B fs->QX (KK P) UB c=B (B (.ref C))->Cls (KK P) C/\∀a∈fs,NoAttr (KK P) C a:=λc fs C R h=>by
  dsimp[Rf] at R;ext R R
  .ext1 e;let e:=eq_of_beq e;subst e;ext R;cases hC.symm.trans h;rwa[A,λa ha=>by (dsimp[Qf,Qw,or_false] at ha;obtain rfl|rfl|rfl:=ha<;>(change Q6 (KK P) (.ref 114) _=B L;symm))]
  .ext R
 let T0:TabF l.prog w (KK P) mg base (ba fns Γ0) 0:=#[λx U b=>by (have b:(a9 x fns.fns).bind Γ0.fn=B U:=b;cases q:a9 x fns.fns<;>rw[q] at b<;>ext b),cf,λx U b=>by (have b:(a9 x fns.fns).bind (λi=>(Γ0.fm i).map λU=>λK=>xg K U)=B U:=b;cases q:a9 x fns.fns<;>rw[q] at b<;>ext b),(λx b=>by
  dsimp[aV,Qf,Qw,or_false] at b;obtain rfl|rfl|rfl|rfl|rfl|rfl|rfl|rfl|rfl|rfl|rfl|rfl|rfl|rfl|rfl|rfl|rfl|rfl|rfl|rfl|rfl:=b
  all_goals show PySem.W.mg_none_of X G (by symm)),λx d b=>by
  let b:Rf x fns.cs=B d:=b;dsimp[fns,Rf] at b;ext b b
  .ext1 e;let e:=eq_of_beq e;subst e;ext b;rwa[_,.int 3,wP X G (v:=(.int 3 212)) (by symm),#[_,rfl],λH S=>(by delta Rp;rfl),⋯]
  .ext b b
   .ext1 e;let e:=eq_of_beq e;subst e;ext b;rwa[_,.int 8,wP X G (v:=(.int 8 336)) (by symm),#[_,rfl],λH S=>(by delta Rp;rfl),⋯]
   .cases b]
 let T1:=aI T0 ψ0 (iZ X G 0 "is_whole" s0 21 20 JO ["thing"] 1 b0);let T2:=aI T1 ψ1 (iZ X G 1 "is_below" s1 28 27 JO ["thing","bound"] 2 b1);let T3:=aI T2 ψ2 (iZ X G 2 "bits_of" s2 33 32 JO ["number","width"] 2 b2);let T4:=aI T3 ψ3 (iZ X G 3 "is_table" s3 40 39 (sv "gatepapers.tables" 210) ["thing","many"] 2 b3);let T5:=aI T4 ψ4 (iZ X G 4 "is_tuple" s4 47 46 Nb ["thing","many"] 2 b4);let T6:=aI T5 ψ5 (iZ X G 5 "places_in" s5 54 53 Nb ["circuit"] 1 b5);let T7:=aI T6 ψ6 (iZ X G 6 "all_trials" s6 61 60 JP ["many"] 1 b6);let T8:=aI T7 ψ7 (iZ X G 7 "column_of" s7 68 67 JP ["k","many","half","column","wide"] 2 b7);let T9:=aI T8 ψ8 (iZ X G 8 "column_told" s8 73 72 JP ["table","columns","whole","found","column"] 3 b8);let hu:=aI T9 ψ9 (iZ X G 9 "is_spot" s9 80 79 By ["thing","sizes"] 2 b9);let he:=aI hu LX (iZ X G 12 "is_helper" Pl 133 132 l9 ["thing","sizes"] 2 Ot);let hb:=aI he JG (iZ X G 13 "is_statement" s13 138 137 l9 ["thing","sizes","below","free","given"] 3 Ou);let t:=aI hb LY (iZ X G 11 "is_paper" Pj 128 127 l9 ["one","other","thing","helpers","held","claims","ends","sizes","ahead","many"] 3 Os);let hi:=t.addHX (z:="Ground.all_below") (C:=114) (i:=33) (ψ:=Iv) (oC k OV t λX O g=>xC X O g) (by symm) A #[by symm,by symm,by symm] hr (by symm) rfl λJ=>Le.refl _;let m:=aI hi Iw (iZ X G 14 "hangs_on_no_in" Pm 143 142 l9 ["ground","statement"] 2 Ov);let hv:=m.addHX (z:="Ground.reckoned") (C:=114) (i:=34) (ψ:=Ax) (oC p OX m λX O g=>Ay X O g) (by symm) A #[by symm,by symm,by symm] ht (by symm) rfl λJ=>Le.refl _;let Z:=aI hv BE (iZ X G 15 "holds_first" Pn 150 149 l9 ["ground","statement","found"] 2 Ox);let h6:=aI Z Ix (iZ X G 19 "bits_by_free" Pq 174 173 l9 ["statements","free","whole","bits","kept","k","thing","column","spots","spot"] 2 OC);let hh:=h6.addB (i:=20) (ψ:=JH) I OE (wP X G (v:=.ref 181) (by symm)) hs rfl rfl (λX O g=>xD X O g) λJ=>Le.refl _;let hz:=aI hh DM (iZ X G 18 "trials_by" Pp 167 166 l9 ["ground","statements","free","given","wanted","whole","bits","kept","known","needed","number","found","first","second"] 5 OB);let hl:=aI hz DN (iZ X G 16 "holds_now" Po 157 156 l9 ["ground","statements","statement","one","other","free","given","trials","found","kept"] 3 Oy);let F:=hl.addB (i:=17) (ψ:=BF) N OA (wP X G (v:=.ref 162) (by symm)) hd rfl rfl (λX O g=>Az X O g) λJ=>Le.refl _;let r:ph (KK P) 114 "put_circuit" 99:=#[by symm,by symm,by symm];let hm:=vH (M:=1000) (n:=60) (an:=an) (pn:=[0]) j OT F OS;let D:=F.up;let Y:=D.addCX (i:=35) (ψ:=L0) (es:=[]) (r0:=.own [] .fz) (Ak y OZ D λX O g hX=>tZ hC A r hm hj X O g hX) #[by symm,by symm,by symm,by symm] A hC (wP X G (v:=.ref 114) (by symm)) T rfl rfl λJ=>Le.refl _;let h0:=aI Y IC (iZ X G 10 "looked" Pi 123 122 l9 ["one","other","paper","helpers","held","claims","ends","ground","statements","wanted"] 3 Oq);let hw:=aI h0 JI (iZ X G 21 "_law_mixed" Ps 188 187 mL ["_law_cell","_law_k","_law_number"] 2 OF);let h4:=aI hw L1 (iZ X G 22 "_law_state" Pt 193 192 mL ["_law_script","_law_total","_law_cell"] 1 OG);let h2:=aM h4 L3 (iZ X G 23 "_law_take" sY 200 199 mL ["_law_state_here","_law_many","_law_number"] 2 LS);let h3:=aI h2 L4 (iZ X G 24 "_law_places" Jy 207 206 mL ["_law_many"] 1 OH);let hy:=aI h3 L5 (iZ X G 25 "_law_masked" JD 214 213 mL ["_law_table","_law_mask","_law_many","_law_last","_law_made","_law_at","_law_bits","_law_old"] 4 OI);let h1:=aI hy JJ (iZ X G 26 "_law_case" Pu 219 218 mL ["_law_script","_law_state_here","_law_many","_law_begins","_law_mask","_law_tables"] 1 OJ);let V:=aI h1 JK (iZ X G 27 "_law_circuit" Pv 224 223 mL ["_law_many","_law_begins","_law_tables","_law_gates","_law_memories"] 3 OK);let ho:=aI V L6 (iZ X G 28 "_law_pair" Pw 229 228 mL ["_law_case_here","_law_changed","_law_many","_law_begins","_law_mask","_law_tables","_law_which","_law_at","_law_bit","_law_others","_law_made"] 2 Ir);let hf:=aI ho M4 (iZ X G 29 "_law_paper" Px 234 233 mL ["_law_case_here","_law_changed","_law_many","_law_begins","_law_mask","_law_tables","_law_which","_law_helpers","_law_k","_law_free","_law_given","_law_kept","_law_out"] 2 Py);let h5:=hf.addB (i:=30) (ψ:=M5) o ON (wP X G (v:=.ref 241) (by symm)) hg rfl rfl (λX O g=>DQ X O g) λJ=>Le.refl _;show(vG (n:=60) (an:=an) u OQ h5 OP).imp λvs H Q E s=>oA (λJ=>Le.refl _) s
theorem O9{l:PySem.W.OpenLaw}{YP:Ux->Uz->Prop}{d:DefRec}{K:Params->P9}(i:l.most=B 63)(b:d.params.defaults=[])(c:∀(w:Ux) (h:Uz),YP w h->(K w.params).In h)(F:∀(w:Ux) (mg:Str->@&Um) (e:Up) (h:Uz),(K w.params).In h->h.Ns UB mg->mg d.name=B (.ref e)->
   Σfd:UH,(∀(s:Uq) (u:Um),BindsTo s fd #[[u],[]] [("_law_script",u)])/\∀base:Uz,(K w.params).In base->base.Ns UB mg->FnOk l.prog w (K w.params) mg base i9 37 e fd ["_law_script"] (nZ (K w.params) L8)) :
  PySem.W.WalkO q loose XP YP l.row.toRowW d [] (λf j=>PySem.call f j):=
 L2.Cc (n:=63) (k:=37) (x:="_law_script") (CX:=λZ=>i9) (sp:=λw=>nZ (K w.params) L8) i ⋯ b #[rfl,⋯,⋯,rfl] c F (λZ Z a ns m Z g=>HR g (Bx ns m)) λZ Z Z Z Z z=>z
end K47
open PySem PySem.W PyProof.Rows
set_option maxRecDepth 100000 in
set_option maxHeartbeats 0 in
theorem PySem.Challenge.cw_gatepapers_k47_codes_by_helpers_holds : PySem.Challenge.rw_gatepapers_k47_codes_by_helpers.Holds := by
 show holds_law W0w λsaid=>?_;show holds_open (d:=#["law",L2.cy K47.At,L2.aE K47.At,L2.ab K47.At,K47.Jp]) (kwd:=[]) (q:=K47.qv) (loose:=K47.lo) (XP:=XL K47.qv []) (YP:=Hook.says K47.HH) K47.left (Hook.of K47.HH) (Hook.keeps K47.HH) (λs e=>xl_of s (QP.mp e).1) XL.keeps (by symm) (by symm) (by symm) (λs e=>recFacts_of (QP.mp e).2) (by symm) said (by symm) #[rfl,rfl,rfl,rfl,rfl,by symm] ?hw ?hc
 case hw=>w_witness2
 case hc=>
  show K47.O9 (l:=PySem.Challenge.rw_gatepapers_k47_codes_by_helpers) rfl rfl (λw h Yq=>PySem.W.kIn_of Yq) ?F;intro w mg fa h KX G hmg;show K47.Jq KX G hmg
end
