import PyProof.Rows.All
import Wide.All
import OpenK.AllK
import PySem.Challenge.RW_gatepapers_k28_memories
set_option Elab.async false
set_option linter.all false
set_option maxRecDepth 100000
set_option autoImplicit true
set_option relaxedAutoImplicit true
set_option genInjectivity false
set_option genSizeOf false
set_option bootstrap.genMatcherCode false
set_option genSizeOfSpec false
set_option maxHeartbeats 4000000
noncomputable section
open PySem.W renaming Frag->Om,keepIn->Pg,fnOf->Pl,emptyDict->Po,nsIn->Ps,instObj->Pz,findIn->PF,kitOne->PP,codeIn->Qn,kia_one->QA,hasDictIn->QP,plainGet->QU,takerIn->Q7,cellsFrom_some->Rf,lookIn->Ri,callWith_K0->RC,callWith_K->RH,plainOver->RS,handedIn->RX,makesIn->R9
open List renaming length_map->On,getElem?_map->Op,getElem?_eq_getElem->Ot,mem_map->Oy,map_append->Oz,getElem?_eq_some_iff->OA,mem_append_right->OB,size_toArray->OC,mem_cons->OD,map_map->OE,length_append->OF,mem_cons_of_mem->OH,map_cons->OI,mem_of_getElem?->OK,mem_cons_self->OL,length_cons->OM,getElem?_set_ne->ON,getElem?_set_self->OO,length_take->OP,mem_append->OQ,take_length->OR,mem_filterMap->OT,lookup_cons->OU,mem_singleton->OV,nodup_cons->OX,append_nil->OZ,not_mem_nil->O0,drop_eq_getElem_cons->O2,findIdx?_cons->O3,mem_append_left->O5,zipWith->O6,getElem?_eq_none->O7,range->O9,replicate->Pb,getElem?_append_right->Pf,filterMap_cons->Pi,getElem?_append_left->Pj,all_cons->Pm,take_add_one->Pp,length->Pq,getD_eq_getElem?_getD->Pu,all_eq_true->Pw,filterMap_append->Py,find?_cons->PC,cons_append->PH,lookup->PK,getElem?_eq_none_iff->PM,length_filterMap_le->PQ,map_congr_left->PU,getElem?_replicate->PV,length_set->PX,zip_cons_cons->PY,take_of_length_le->P0,append_assoc->P2,findIdx?_map->P3,length_range->P4,mem_range->P5,take_append_drop->P6,drop_length->P8,replicate_succ->Qb,getElem?_range->Qc,nil_append->Qd,findIdx?_eq_none_iff->Qg,sublist_append_right->Qh,map_nil->Ql,getElem?_cons_succ->Qo,filter_cons_of_pos->Qp,filter_cons_of_neg->Qq,take_sublist->Qs,ext_getElem?->Qu,nodup_append->Qv,pairwise_map->Qw,drop_of_length_le->Qy,forIn_cons->QC,length_zip->QD,forIn_nil->QG,map->QH,set_cons_succ->QI,any_cons->QO,getElem?_take_of_lt->QW,length_drop->QX,sublist_append_left->Q0,filterMap_cons_some->Q1,filterMap_cons_none->Q2,map_zipWith->Q3,length_eq_zero_iff->Q4,getElem?_cons_zero->Q5,mem_filter->Q6,of_mem_zip->Q8,length_nil->Q9,foldl_cons->Ra,range_succ->Re,length_replicate->Rj,length_singleton->Rl,nodup_nil->Rm,getElem?_zipWith->Rq,getElem?_mapIdx->Rr,mem_of_mem_take->Rv,map_take->Rz,map_drop->RB,mem_map_of_mem->RD,length_zipWith->RE,reverse_append->RF,getElem?_drop->RL,all_nil->RO,mem_replicate->RP,length_mapIdx->RQ,any_eq_false->RR,reverse_cons->RU,map_id->RV,getElem_inj->RW,getElem_mem->RZ,any_eq_true->R0,map_reverse->R1,map_fst_zip->R3,map_snd_zip->R4,zipWith_map->R6,nodup_range->R7,perm_middle->R8
open Bool renaming and_eq_true->Oo,false_eq_true->O8,false_ne_true->Px,or_eq_true->PL,not_true->QM,not_eq_true'->QR,and_eq_true_iff->Rx,or_false->Ry,true->Se,false->Sf
open PySem.Heap renaming get?_push_of_some->Oq,lt_size->Os,get?_push_size->OJ,size_push->Pn,get?_update_other->Qx,get?_update_self->Rk
open Nat renaming lt_of_lt_of_le->Ov,le_refl->Ox,ne_of_lt->OG,zero_le->OS,le_trans->OW,one_shiftLeft->OY,lt_of_le_of_lt->O1,two_pow_pos->O4,lt_irrefl->Pa,le_add_right->Pd,lt_succ_self->Pv,ne_of_gt->PB,pow_le_pow_right->PD,mod_eq_of_lt->PJ,pow_lt_pow_right->PN,testBit_lt_two_pow->P1,testBit_two_pow_sub_one->P7,add_assoc->P9,le_succ->Qa,min_eq_left->Qe,not_lt_zero->Qf,le_of_lt->Qk,add_sub_cancel_left->Qr,lt_succ_of_lt->Qt,testBit_eq_decide_div_mod_eq->Qz,lt_trans->QB,and_two_pow_sub_one_eq_mod->QE,add_le_add_left->QF,xor_lt_two_pow->QJ,and_lt_two_pow->QK,mul_lt_mul_of_pos_right->QL,le_of_succ_le->QQ,or_lt_two_pow->QS,le_of_eq->QV,shiftLeft_eq->QZ,testBit_xor->Rc,add_le_add_right->Rs,eq_of_testBit_eq->Rt,mod_lt->Ru,min_self->RK,pow_succ->RM,le_succ_of_le->RT,lt_of_not_le->R5
open Option renaming bind_some->Pe,getD_none->QY,map_eq_some_iff->Rg,isSome_some->RI,getD_some->RY,map_some->Sa,some->Sb,none->Sd
open Int renaming toNat_natCast->Ph,natCast_add->PZ,emod_nonneg->Qi,emod_lt_of_pos->Qm,fdiv_eq_ediv_of_nonneg->QN,toNat_of_nonneg->RG,sub_zero->RJ,zero_add->RN
open Array renaming length_toList->PR,forIn_toList->Qj,getElem?_eq_getElem->QT,getElem?_eq_none->Rh,getElem?_toList->Rn
open PySem renaming Value->Sh,Expr->Si,Addr->Sj,Shared->Sk,wpAny_bind->Sm,wpAny_pure->Sn,model->So,wpAny->Sq,Program->Sr,World->Ss,Stmt->Su,Around->Sv,Heap->Sw,starEach->Sy,mainGlobals->Sz,Scope->SA,wpAny_holding->SB,cellsFrom->SC,assignEach->SD,NameKind->SF,FuncData->SG,behindInMarks->SH,CmpOp->SI,Operator->SJ,wpAny_passesOwn->SK,wpAny_truthy_bool->SL,rawInt->SM,wpAny_pyIter_list->SN,wpAny_call_entry->SO,wpAny_newObj_type->SQ
local macro_rules|`(tactic|let $d:letDecl)=>`(tactic|have $d:letDecl)|`(tactic|show $e)=>`(tactic|refine $e)|`(tactic|nofun)=>`(tactic|decide +kernel)|`(tactic|ext $[$x:ident]*)=>`(tactic|rename_i $[$x:ident]*)
theorem W0w:PySem.Challenge.rw_gatepapers_k28_memories.wellSaid=true:=by kernel_rfl
namespace PySem
open Sem (wp)
section
variable {prog:Sr} {w:Ss} {K:Type} [DecidableEq K] (knd:KeyKind prog w K)
inductive Its2 (h:Heap):Nat->List (K ⊕ List K)->List Value->Prop
 |nil {m:Nat}:Its2 h m [] []
 |key {m:Nat} {k:K} {v:Sh} {xs:List (K ⊕ List K)} {vs:List Sh}:m%2=0->knd.is k v=Se->Its2 h (m / 2) xs vs->Its2 h m (.inl k::xs) (v::vs)
 |tup {m:Nat} {ks:List K} {b:Sj} {xs:List (K ⊕ List K)} {vs:List Sh}:m%2=1->IsTupleKey knd h ks b->Its2 h (m / 2) xs vs->Its2 h m (.inr ks::xs) (.ref b::vs)
def IsDeep(m:Nat)(h:Sw)(xs:List (K ⊕ List K))(a:Sj):Prop:=∃o q n,h.get? a=Sb o/\o.cls=.type "tuple"/\o.data=.seq q n/\Its2 knd h m xs q.toList
noncomputable def dI:K ⊕ List K->Int
 |.inl k=>knd.hash k
 |.inr ks=>tupleKeyHash knd ks
noncomputable def cN:K ⊕ List K->Nat
 |.inl _=>1
 |.inr ks=>ks.length+1
def kM(xs:List (K ⊕ List K)):Int:=reduceHash (Builtin.Tuple.tupleHashOf (xs.map (dI knd)))
variable {knd}
theorem Its2.inj(g:Its2 knd h m x vs)(a:Its2 knd h m y vs):x=y:=by
 induction g generalizing y with
 |nil=>cases a;rfl
 |key e f _ c=>
  cases a with
  |key _ b d=>rw[knd.inj _ _ _ f b,c d]
  |tup e2 _ _=>lia
 |tup e f _ c=>
  cases a with
  |key e2 _ _=>lia
  |tup _ b d=>rw[f.inj b,c d]
theorem Its2.keeps(k:∀d b,IsTupleKey knd h d b->IsTupleKey knd h' d b)(f:Its2 knd h m x vs):Its2 knd h' m x vs:=by
 induction f with
 |nil=>show .nil
 |key e c _ a=>show .key e c a
 |tup e c _ a=>show .tup e (k _ _ c) a
theorem IsDeep.ty{s:Sk}(x:IsDeep knd m s.heap xs a):s.TypeIs (.ref a) "tuple":=by
 unfold IsDeep at x;rcases x with⟨o,_,_,g,c,_⟩;show⟨o,g,c⟩
theorem IsDeep.one(p:IsDeep knd m h x a)(q:IsDeep knd m h y a):x=y:=by
 unfold IsDeep at p q;rcases p with⟨o,i,n,g,_,d,r⟩;rcases q with⟨j,f,n2,c,_,b,e⟩;cases g.symm.trans c;cases d.symm.trans b;show r.inj e
theorem IsDeep.stay{h h':Sw}{o:Obj}{es k}(x:IsDeep knd m h xs a)(g:h.get? d=Sb o)(e:o.data=.dict es k)(q:Heap.SameBut d h h'):IsDeep knd m h' xs a:=by
 unfold IsDeep at x⊢;rcases x with⟨l,i,n,f,c,j,r⟩;show⟨l,i,n,?_,c,j,r.keeps λp b z=>z.keeps g e q⟩;show(q.2 a λz=>?_).trans f;rw[z,g] at f;cases f;rw[e] at j;cases j
variable {A:Sv} {E:Sh->Sk->Prop} {s:Sk}
theorem ig{xs:List (K ⊕ List K)}{Q:Int->Sk->Prop}(U:A.units+8<cLine)(hk:IsDeep knd m s.heap xs a)(h:Q (kM knd xs) { s with toks:=s.toks+((xs.map cN).sum+1) }) :
  Sq (So prog w) A (pyHash (.ref a)) Q E s:=by
 let D:=hk.ty;let P:=F.slot_tuple_hash.lookup;rcases hk with⟨o,S,n,g,c,d,r⟩
 let B:∀(j:List Sh) (b:Array Int) (z:Sk) (v:Sh),(∃f left p,xs=f++left/\Its2 knd s.heap p left (v::j)/\b.toList=f.map (dI knd)/\z={ s with toks:=s.toks+(f.map cN).sum })->
   ∃i k,(∀(A:Sv) (R:Int->Sk->Prop),A.units<cLine->R i { z with toks:=z.toks+k }->Sq (So prog w) A (pyHash v) R E z)/\∃f left p,xs=f++left/\Its2 knd s.heap p left j/\(b.push i).toList=f.map (dI knd)/\{ z with toks:=z.toks+k }={ s with toks:=s.toks+(f.map cN).sum }:=by
  rintro j b z v ⟨f,left,p,e,N,C,rfl⟩
  cases N with
  |@key _ k _ l _ _ O t=>
   show⟨knd.hash k,1,λA R _ q=>knd.pyHash O q,f++[.inl k],l,p / 2,by simp[e],t,by simp[C,dI],by simp[cN,P9]⟩
  |@tup _ I _ l _ _ O t=>
   show⟨tupleKeyHash knd I,I.length+1,λA R u q=>wpAny_pyHash_tuple u O q,f++[.inr I],l,p / 2,by simp[e],t,by simp[C,dI],by simp[cN,P9]⟩
 unfold pyHash
 first|unfold pyHashByItsType|skip
 first|show Sm (wpAny_cRoomFor_or (.inr (by lia)) ?_)|skip
 show Sm (wpAny_specialOf D P ((if_neg (show ¬(Sb (Value.builtin "tuple.__hash__")==Sb Value.none)=Se by rw[beq_builtin_none];show Px)).symm▸Sm (wpAny_specialOf D P (Sm (wpAny_callSpecialIfBoundUnlessNone?_slot D F.slot_tuple_hash (SO F.slot_tuple_hash D F.entry_tuple_hash (show Sq _ _ (Builtin.Tuple.tupleItemsOf (.ref a) >>= _) _ _ s from Sm (wpAny_tupleItemsOf g d (Sm ?_))) (F.args_tuple_hash_1 _)))))));rw[<- Qj];show wpAny_forIn_list _ (λj (b:Array Int) z=>∃f left p,xs=f++left/\Its2 knd s.heap p left j/\b.toList=f.map (dI knd)/\z={ s with toks:=s.toks+(f.map cN).sum }) _ (λv j b z H=>?_) (λb z H=>?_) _ _ ⟨[],xs,m,rfl,r,rfl,rfl⟩
 ·obtain⟨i,k,L,x⟩:=B j b z v H
  show Sm (L _ _ (by first|lia|(change _+1<_;lia)) (by first|show Sn x|show Sm (Sn (Sn x))))
 ·obtain⟨f,left,p,e,N,C,rfl⟩:=H;cases N;let T:f=xs:=by rw[e,OZ]
  subst T;change Sq _ _ (retInt (Builtin.Tuple.tupleHashOf b.toList)) _ _ _;rw[C];show wpAny_ret_mkInt ?_;unfold kM reduceHash at h;generalize Builtin.Tuple.tupleHashOf (f.map (dI knd))=y at h⊢
  change Sq _ _ (if(decide (-(2:Int)^63<=y)&&decide (y<2^63))=Se then _ else _) Q E _
  split
  ·ext M;rw[if_pos M] at h;show Sn (by simpa[P9] using h)
  ·ext M;rw[if_neg M] at h;show Sm (wpAny_rule (Sn (by simpa[P9] using h)))
theorem Its2.two{h:Sw}{us vs:List Sh}(p:Its2 knd h m x us)(q:Its2 knd h m y vs)(z:(u,v)::rest=us.zip vs) :
  ∃(i j:K ⊕ List K) (b c:List (K ⊕ List K)) (us2 a:List Sh),x=i::b/\y=j::c/\us=u::us2/\vs=v::a/\Its2 knd h (m / 2) b us2/\Its2 knd h (m / 2) c a/\rest=us2.zip a/\
   ∀(A:Sv) (E:Sh->Sk->Prop) (s:Sk) (Q:Bool->Sk->Prop),s.heap=h->A.units<cLine->Q (decide (i=j)) s->Sq (So prog w) A (eqBool u v) Q E s:=by
 cases p with
 |nil=>cases z
 |@key _ k1 r b us2 e l d=>
  cases q with
  |nil=>cases z
  |@key _ o t c a e2 g f=>
   cases z;show⟨_,_,_,_,_,_,rfl,rfl,rfl,rfl,d,f,rfl,λA E s Q k u n=>knd.eqBool l g (by simpa using n)⟩
  |tup e2 _ _=>lia
 |@tup _ k1 b1 b us2 e l d=>
  cases q with
  |nil=>cases z
  |key e2 _ _=>lia
  |@tup _ o b2 c a e2 g f=>
   cases z;show⟨_,_,_,_,_,_,rfl,rfl,rfl,rfl,d,f,rfl,λA E s Q k u n=>wpAny_eqBool_tuple u (k▸l) (k▸g) (by simpa using n)⟩
theorem Its2.ends{us vs:List Sh}(p:Its2 knd h m x us)(q:Its2 knd h m y vs)(z:us.zip vs=[]):(us.length==vs.length)=decide (x=y):=by
 cases p<;>cases q<;>first|rfl|(simp at z;done)|simp
theorem nI{P:Fin->Sk->Prop}(hu:A.units+4<cLine)(W:IsDeep knd m s.heap x a)(O:IsDeep knd m s.heap y b)(h:P (.done (.ret (.bool (decide (x=y))))) s) :
  Sq (So prog w) A (Builtin.«tuple.__eq__» ⟨[.ref a,.ref b],[]⟩) P E s:=by
 let Z:=O.ty;rcases W with⟨o,I,n,g,c,d,p⟩;rcases O with⟨o2,K,n2,S,c2,X,q⟩;show(show Sq _ _ (isInstance (.ref b) (.type "tuple") >>= _) _ _ s from Sm (wpAny_isInstance Z isSubtype_tuple_tuple ?_));simp only[QM,O8,if_false];show Sm (wpAny_tupleItemsOf g d (Sm (wpAny_tupleItemsOf S X (Sm ?_))));show wpAny_forIn_list _ (λl r z=>r.1=Sd/\z=s/\∃t C D k f,l=List.zip k f/\Its2 knd s.heap t C k/\Its2 knd s.heap t D f/\decide (C=D)=decide (x=y)/\(k.length==f.length)=(I.size==K.size))
  _ (λU l r z F=>?_) (λr z F=>?_) _ _ ⟨rfl,rfl,m,x,y,I.toList,K.toList,rfl,p,q,rfl,by simp⟩
 ·obtain⟨u,v⟩:=U;obtain⟨Q,rfl,t,C,D,k,f,e,N,H,B,hl⟩:=F;obtain⟨i,j,T,y2,us2,L,rfl,rfl,rfl,rfl,R,V,rfl,M⟩:=N.two H e;show Sm (M _ _ _ _ rfl (by lia) ?_)
  cases hk:decide (i=j) with
  |true=>
   let hk:=of_decide_eq_true hk;subst hk;simp only[QM,O8,if_false];show Sn ⟨rfl,rfl,t / 2,T,y2,us2,L,rfl,R,V,B▸by simp,by simpa using hl⟩
  |false=>
   let hk:=of_decide_eq_false hk;simp only[Bool.not_false,if_true];let Y:decide (x=y)=Sf:=B▸by simp[hk]
   show Sm (Sn (Sn (Sn (Y▸h))))
 ·obtain⟨r1,r2⟩:=r;obtain⟨Q,rfl,t,C,D,k,f,e,N,H,B,hl⟩:=F;cases(Q);show Sn ?_;change P (.done (.ret (.bool (I.size==K.size)))) z;rw[<- hl,N.ends H e.symm,B];show h
theorem ii{Q:Bool->Sk->Prop}(k:A.units+8<cLine)(d:IsDeep knd m s.heap x a)(f:IsDeep knd m s.heap y b)(h:Q (decide (x=y)) s) :
  Sq (So prog w) A (eqBool (.ref a) (.ref b)) Q E s:=by
 unfold eqBool
 try with_reducible show SB ?_
 show(?_);split
 ·ext i;cases eq_of_beq i;cases d.one f;show Sm (wpAny_rule (Sn (by simpa using h)))
 ·let c:=nI (E:=E) (A:=A.in1) (P:=λg j=>∃v,g=Fin.done (Flow.ret v)/\v≠.notImplemented/\Sq (So prog w) A (truthOfDropped v) Q E j) (by change A.units+1+4<cLine;lia) d f ⟨_,rfl,(λe=>nomatch e),SL h⟩
  show Sm (wpAny_richCompare_same_room d.ty f.ty F.slot_tuple_eq (SO F.slot_tuple_eq d.ty F.entry_tuple_eq c (F.args_tuple_eq_2 _ _)) (by lia))
theorem pf{n:Nat}{o:Obj}{e:Array Sh}{Q:Bool->Sk->Prop}(g:s.heap.get? a=Sb o)(c:o.cls=.type "tuple")(d:o.data=.seq e ep)(hi:∀v∈e.toList,∀R:Bool->Sk->Prop,R Se s->Sq (So prog w) A (eqIsQuiet n v) R E s)(q:Q Se s) :
  Sq (So prog w) A (eqIsQuiet (n+1) (.ref a)) Q E s:=by
 let i:s.TypeIs (.ref a) "tuple":=⟨o,g,c⟩;unfold eqIsQuiet;show Sm (wpAny_specialOf i F.slot_tuple_eq.lookup (Sm (wpAny_isInstance i isSubtype_tuple_tuple ?_)));simp only[QM,O8,if_false];show Sm (wpAny_seqItems g d (Sm (?_)));rw[<- Qj];show wpAny_forIn_list _ (λb r z=>r.1=Sd/\z=s/\∀v∈b,v∈e.toList) _ (λv b r z f=>?_) (λr z f=>?_) _ _ ⟨rfl,rfl,λv j=>j⟩
 ·obtain⟨h,rfl,hm⟩:=f;show Sm (hi v (hm v OL) _ ?_);simp only[QM,O8,if_false];show Sn ⟨rfl,rfl,λu k=>hm u (OH _ k)⟩
 ·obtain⟨l,m⟩:=r;obtain⟨h,rfl,_⟩:=f;cases(h);show Sn q
theorem Its2.items{vs:List Sh}(p:Its2 knd h m x vs):∀v∈vs,(∃k,knd.is k v=Se)\/∃f b,v=.ref b/\IsTupleKey knd h f b:=by
 induction p with
 |nil=>intro v a;cases a
 |key _ d _ c=>intro v a;show(OD.mp a).elim (λe=>.inl ⟨_,e▸d⟩) (c v)
 |tup _ d _ c=>intro v a;show(OD.mp a).elim (λe=>.inr ⟨_,_,e,d⟩) (c v)
theorem rH{Q:Bool->Sk->Prop}(hk:IsDeep knd m s.heap xs a)(h:Q Se s):Sq (So prog w) A (eqIsQuiet 8 (.ref a)) Q E s:=by
 rcases hk with⟨o,p,n,g,c,d,r⟩;show pf g c d (λv f R q=>?_) h;rcases r.items v f with⟨k,e⟩|⟨x,b,rfl,y,i,n2,l,j,t,u⟩
 ·rw[eqIsQuiet_byValue _ (knd.byValue _ _ e)];show Sn q
 ·show pf l j t (λv f R q=>?_) q;rw[eqIsQuiet_byValue _ (u.byValue v f)];show Sn q
end
def eh{prog:Sr}{w:Ss}{K:Type}[DecidableEq K](m:Nat)(knd:KeyKind prog w K):HeapKind prog w (List (K ⊕ List K)) where
 is:=IsDeep knd m
 hash:=kM knd
 draws:=λxs=>(xs.map cN).sum+1
 room:=λA=>A.units+8<cLine
 inj:=λp q=>p.one q
 keeps:=λx g e q=>x.stay g e q
 pyHash:=λB hk h=>ig B hk h
 eqBool:=λB W O h=>ii B W O h
 quiet:=λhk h=>rH hk h
end PySem
open PySem PySem.Spec
namespace L2
open PyProof.Rows
abbrev ay:=Sum Int Str
noncomputable def mE:ay->Sh->Bool
 |.inl k,v=>Value.isInt k v
 |.inr x,v=>Value.isStrOf x v
noncomputable def Ls(w:Ss):ay->Int
 |.inl k=>hashInt k
 |.inr x=>hashStr w x
theorem bt:∀{k:ay} {v:Sh},mE k v=Se->(∃i t,k=Sum.inl i/\v=Value.int i t)\/(∃x t,k=Sum.inr x/\v=Value.str x t)
 |.inl i,v,h=>by
  obtain⟨t,e⟩:=Value.isInt_shape (k:=i) (v:=v) h;show .inl ⟨i,t,rfl,e⟩
 |.inr x,v,h=>by
  obtain⟨t,e⟩:=Value.isStrOf_shape (x:=x) (v:=v) h;show .inr ⟨x,t,rfl,e⟩
theorem vY(i:Int)(t:Tok):mE (.inl i) (.int i t)=Se:=by simp[mE,Value.isInt]
theorem vZ(x:Str)(t:Tok):mE (.inr x) (.str x t)=Se:=by simp[mE,Value.isStrOf]
theorem Eb(a b:Int):decide ((Sum.inl a:ay)=Sum.inl b)=(a==b):=by
 by_cases e:a=b
 ·subst e;simp
 ·let h:¬(Sum.inl a:ay)=Sum.inl b:=λq=>e (Sum.inl.inj q);rw[decide_eq_false h];show(beq_eq_false_iff_ne.mpr e).symm
theorem Ec(a b:Str):decide ((Sum.inr a:ay)=Sum.inr b)=decide (a=b):=by
 by_cases e:a=b
 ·subst e;simp
 ·let h:¬(Sum.inr a:ay)=Sum.inr b:=λq=>e (Sum.inr.inj q);rw[decide_eq_false h,decide_eq_false e]
theorem Ed(a:Int)(b:Str):decide ((Sum.inl a:ay)=Sum.inr b)=Sf:=decide_eq_false (λq=>nomatch q)
theorem Ee(a:Str)(b:Int):decide ((Sum.inr a:ay)=Sum.inl b)=Sf:=decide_eq_false (λq=>nomatch q)
def aF(prog:Sr)(w:Ss):PySem.KeyKind prog w ay where
 is:=mE
 hash:=Ls w
 inj:=λv a b O B=>by
  rcases bt O with⟨i,t,rfl,rfl⟩|⟨x,t,rfl,rfl⟩
  ·rcases bt B with⟨j,u,rfl,e⟩|⟨y,u,rfl,e⟩
   ·injection e with e1 _;rw[e1]
   ·show nomatch e
  ·rcases bt B with⟨j,u,rfl,e⟩|⟨y,u,rfl,e⟩
   ·show nomatch e
   ·injection e with e1 _;rw[e1]
 byValue:=λk v h=>by
  rcases bt h with⟨i,t,rfl,rfl⟩|⟨x,t,rfl,rfl⟩<;>rfl
 pyHash:=λq h=>by
  rcases bt q with⟨i,t,rfl,rfl⟩|⟨x,t,rfl,rfl⟩
  ·show wpAny_pyHash_int h
  ·show wpAny_pyHash_str h
 eqBool:=λW q h=>by
  rcases bt W with⟨i,t,rfl,rfl⟩|⟨x,t,rfl,rfl⟩
  ·rcases bt q with⟨j,u,rfl,rfl⟩|⟨y,u,rfl,rfl⟩
   ·rw[Eb] at h;show wpAny_eqBool_int h
   ·rw[Ed] at h;show SeqAt.EqAt.int_str i t y u _ _ _ _ h
  ·rcases bt q with⟨j,u,rfl,rfl⟩|⟨y,u,rfl,rfl⟩
   ·rw[Ee] at h;show SeqAt.EqAt.str_int x t j u _ _ _ _ h
   ·rw[Ec] at h;show wpAny_eqBool_str h
 «strs»:=λk x t v h=>by
  rcases bt h with⟨i,u,rfl,e⟩|⟨y,u,rfl,e⟩
  ·show nomatch e
  ·injection e with e1 _;subst e1
   cases v<;>rfl
theorem ph(prog:Sr)(w:Ss)(i:Int)(t:Tok):(aF prog w).is (.inl i) (.int i t)=Se:=vY i t
theorem pi(prog:Sr)(w:Ss)(x:Str)(t:Tok):(aF prog w).is (.inr x) (.str x t)=Se:=vZ x t
inductive V where
 |non|bl (b:Bool)|int (i:Int)|str (x:Str)|byt (b:Array UInt8)|flt (b:UInt64)|ref (a:Sj)|ty (n:String)
 deriving DecidableEq
def RelV:V->Sh->Prop
 |.non,u=>u=Value.none
 |.bl b,u=>u=Value.bool b
 |.int i,u=>∃t,u=Value.int i t
 |.str x,u=>∃t,u=Value.str x t
 |.byt b,u=>∃t,u=Value.bytes b t
 |.flt b,u=>∃t,u=Value.float b t
 |.ref a,u=>u=Value.ref a
 |.ty n,u=>u=Value.type n
abbrev Vals:List V->List Sh->Prop:=Paired RelV
theorem Vals.length{xs:List V}{us:List Sh}(r:Vals xs us):xs.length=us.length:=Paired.length r
theorem Vals.get:∀{xs:List V} {us:List Sh} {i:Nat} {x:V},Vals xs us->xs[i]?=Sb x->∃u,us[i]?=Sb u/\RelV x u
 |_,_,_,_,.nil,e=>by simp at e
 |_,_,0,_,.cons r _,e=>by simp at e;subst e;show⟨_,rfl,r⟩
 |_,_,i+1,x,.cons _ t,e=>by
  obtain⟨u,b,a⟩:=Vals.get (i:=i) (x:=x) t (by simpa using e);show⟨u,by simpa using b,a⟩
theorem Vals.set(r:RelV x u):∀{xs:List V} {us:List Sh} (i:Nat),Vals xs us->Vals (xs.set i x) (us.set i u)
 |_,_,_,.nil=>.nil
 |_,_,0,.cons _ t=>.cons r t
 |_,_,i+1,.cons q t=>.cons q (Vals.set r i t)
theorem Vals.append:∀{xs ys:List V} {us a:List Sh},Vals xs us->Vals ys a->Vals (xs++ys) (us++a)
 |_,_,_,_,.nil,s=>s
 |_,_,_,_,.cons r t,s=>.cons r (Vals.append t s)
theorem Vals.take:∀{xs:List V} {us:List Sh} (n:Nat),Vals xs us->Vals (xs.take n) (us.take n)
 |_,_,0,_=>.nil
 |_,_,_+1,.nil=>.nil
 |_,_,n+1,.cons r t=>.cons r (Vals.take n t)
theorem Vals.drop:∀{xs:List V} {us:List Sh} (n:Nat),Vals xs us->Vals (xs.drop n) (us.drop n)
 |_,_,0,r=>r
 |_,_,_+1,.nil=>.nil
 |_,_,n+1,.cons _ t=>Vals.drop n t
theorem Vals.none_of:∀{xs:List V} {us:List Sh} {i:Nat},Vals xs us->xs[i]?=Sd->us[i]?=Sd:=λ{xs us i} r e=>by
 let b:=r.length;let a:xs.length<=i:=PM.mp e;show PM.mpr (by lia)
def RelO:Option V->Option Sh->Prop
 |some v,Sb u=>RelV v u
 |none,Sd=>True
 |_,_=>False
def KV{κ:Type}:List (κ×V)->List (κ×Sh)->Prop:=Paired λ(p:κ×V) (q:κ×Sh)=>p.1=q.1/\RelV p.2 q.2
noncomputable def kV:ay->V
 |.inl i=>.int i
 |.inr x=>.str x
inductive HO where
 |lst (xs:List V)
 |tup (xs:List V)
 |dK (kvs:List (ay×V))|dT (m ep:Nat) (kvs:List (List (ay ⊕ List ay)×V))
 |ins (C dx:Sj) (fs:List (Str×V))
 |own (x:Sj)
 |frz (o:Obj) (u:HO)
 |tbl (ps:Array Sh)
 |ext (B:Sw->Prop)
abbrev Hp:=Sj->Option HO
noncomputable def upd(H:Hp)(a:Sj)(o:HO):Hp:=λb=>if b=a then Sb o else H b
theorem ah:upd H a o a=Sb o:=by unfold upd;rw[if_pos rfl]
theorem ac{H:Hp}(h:b≠a):upd H a o b=H b:=by unfold upd;rw[if_neg h]
theorem xh{H:Hp}{a b:Sj}{o u:HO}(h:H a=Sb o)(h':H b=Sb u)(d:o≠u):a≠b:=by
 intro e;subst e;rw[h] at h';show d (Option.some.inj h')
theorem aB{H:Hp}{a b:Sj}{o:HO}(h:H a=Sb o)(h':H b=Sd):a≠b:=by
 intro e;subst e;rw[h] at h';cases h'
def TkIts(H:Hp):Nat->List (ay ⊕ List ay)->List V->Prop
 |_,[],vs=>vs=[]
 |m,.inl k::xs,vs=>∃r,vs=kV k::r/\m%2=0/\TkIts H (m / 2) xs r
 |m,.inr ks::xs,vs=>∃b r,vs=.ref b::r/\m%2=1/\H b=Sb (.tup (ks.map kV))/\TkIts H (m / 2) xs r
def TkAt(H:Hp)(m:Nat)(q:List (ay ⊕ List ay))(b:Sj):Prop:=∃vs,H b=Sb (.tup vs)/\TkIts H m q vs
theorem TkIts.keep{H H':Hp}(c:∀b xs,H b=Sb (.tup xs)->H' b=Sb (.tup xs)):∀{m:Nat} {a:List (ay ⊕ List ay)} {vs:List V},TkIts H m a vs->TkIts H' m a vs
 |_,[],_,h=>h
 |m,.inl k::xs,vs,h=>by obtain⟨r,e,z,t⟩:=h;show⟨r,e,z,t.keep c⟩
 |m,.inr a::xs,vs,h=>by obtain⟨b,r,e,z,g,t⟩:=h;show⟨b,r,e,z,c _ _ g,t.keep c⟩
theorem TkAt.keep{H H':Hp}{b:Sj}(x:TkAt H m ks b)(a:∀b xs,H b=Sb (.tup xs)->H' b=Sb (.tup xs)):TkAt H' m ks b:=by
 obtain⟨c,g,r⟩:=x;show⟨c,a _ _ g,r.keep a⟩
section
variable (P:Sr) (w:Ss)
def ObjOk(H:Hp)(h:Sw)(a:Sj):HO->Prop
 |.lst xs=>xs.length<=sizeLine/\∃(O:List Sh) (n:Nat),Vals xs O/\h.get? a=Sb { cls:=.type "list",data:=.seq O.toArray n }
 |.tup xs=>xs.length<=sizeLine/\∃O:List Sh,Vals xs O/\IsTup h a O.toArray
 |.dK kvs=>kvs.length<=sizeLine/\(a==sysModules)=Sf/\∃vs,KV kvs vs/\h.DictOf (aF P w) a vs
 |.dT m ep kvs=>kvs.length<=sizeLine/\(a==sysModules)=Sf/\∃xs:List (List (ay ⊕ List ay)×Sj×Sh),
   Paired (λ(p:List (ay ⊕ List ay)×V) (q:List (ay ⊕ List ay)×Sj×Sh)=>p.1=q.1/\TkAt H m p.1 q.2.1/\RelV p.2 q.2.2) kvs xs/\
   ∃o es,h.get? a=Sb o/\o.ExactDict/\o.data=.dict es ep/\es.toList=xs.map (entryOfKey (eh m (aF P w)))/\(xs.map (·.1)).Nodup
 |.ins C dx fs=>H dx=Sb (.own a)/\fs.length<=1000/\dx≠a/\h.get? a=Sb (Pz C dx)/\
   ∃mA,h.Ns1 dx mA/\(∀f,RelO (fs.lookup f) (mA f))/\PySem.Within mA (fs.map (·.1))
 |.own _=>∃o,h.get? a=Sb o
 |.frz o u=>h.get? a=Sb o/\ObjOk H h a u
 |.tbl ps=>h.get? a=Sb { cls:=.none,data:=.fields ps }
 |.ext B=>B h/\(∃o,h.get? a=Sb o)/\∀h1 h2:Sw,B h1->(∀o,h1.get? a=Sb o->h2.get? a=Sb o)->B h2
def HOk(H:Hp)(h:Sw):Prop:=∀a o,H a=Sb o->ObjOk P w H h a o
end
section
variable {P:Sr} {w:Ss} {H H':Hp} {h h':Sw} {a:Sj} {o:HO}
theorem ObjOk.lt(x:ObjOk P w H h a o):a<h.objs.size:=by
 cases o with
 |lst c=>obtain⟨_,_,_,_,e⟩:=x;show Os e
 |tup c=>obtain⟨_,_,_,p⟩:=x;show p.lt
 |dK b=>obtain⟨_,_,_,_,o,_,_,e,_⟩:=x;show Os e
 |dT m d b=>obtain⟨_,_,_,_,o,_,e,_⟩:=x;show Os e
 |ins C g j=>obtain⟨_,_,_,e,_⟩:=x;show Os e
 |own y=>obtain⟨_,e⟩:=x;show Os e
 |frz i u=>obtain⟨e,_⟩:=x;show Os e
 |tbl f=>show Os (x)
 |ext B=>obtain⟨_,⟨_,e⟩,_⟩:=x;show Os e
theorem Paired.mapP{α β:Type}{F G:α->β->Prop}:∀{l₁:List α} {c:List β},Paired F l₁ c->(∀a b,F a b->G a b)->Paired G l₁ c
 |_,_,.nil,_=>.nil
 |_,_,.cons r t,f=>.cons (f _ _ r) (Paired.mapP t f)
theorem ObjOk.stay(x:ObjOk P w H h a o)(k:∀b u,(b=a\/H b=Sb (.own a))->h.get? b=Sb u->h'.get? b=Sb u)
  (ho:∀b,H b=Sb (.own a)->H' b=Sb (.own a)) (ht:∀b i,H b=Sb (.tup i)->H' b=Sb (.tup i)):ObjOk P w H' h' a o:=by
 induction o with
 |lst i=>obtain⟨z,g,n,r,e⟩:=x;show⟨z,g,n,r,k _ _ (.inl rfl) e⟩
 |tup i=>obtain⟨z,g,r,f,e,c⟩:=x;show⟨z,g,r,f,k _ _ (.inl rfl) e,c⟩
 |dK s=>obtain⟨z,y,E,r,f,j,l,e,c⟩:=x;show⟨z,y,E,r,f,j,l,k _ _ (.inl rfl) e,c⟩
 |dT m l s=>
  obtain⟨z,y,i,r,f,j,e,c⟩:=x;show⟨z,y,i,Paired.mapP r λp q z=>⟨z.1,z.2.1.keep ht,z.2.2⟩,f,j,k _ _ (.inl rfl) e,c⟩
 |ins C K L=>
  obtain⟨d,z,I,e,F,⟨v,j,l,e2,c⟩,r⟩:=x;show⟨ho _ d,z,I,k _ _ (.inl rfl) e,F,⟨v,j,l,k _ _ (.inr d) e2,c⟩,r⟩
 |own y=>obtain⟨f,e⟩:=x;show⟨f,k _ _ (.inl rfl) e⟩
 |frz f u D=>obtain⟨e,q⟩:=x;show⟨k _ _ (.inl rfl) e,D q⟩
 |tbl A=>
  let e:h.get? a=Sb { cls:=.none,data:=.fields A }:=x;show k a _ (.inl rfl) e
 |ext B=>obtain⟨p,⟨o,e⟩,t⟩:=x;show⟨t _ _ p λo q=>k _ _ (.inl rfl) q,⟨o,k _ _ (.inl rfl) e⟩,t⟩
theorem HOk.lt(x:HOk P w H h)(e:H a=Sb o):a<h.objs.size:=(x a o e).lt
theorem HOk.fresh(x:HOk P w H h)(e:h.objs.size<=a):H a=Sd:=by
 cases q:H a with
 |none=>rfl
 |some u=>show absurd (Ov (x.lt q) e) (Pa _)
theorem HOk.kept(x:HOk P w H h)(k:∀b u,h.get? b=Sb u->h'.get? b=Sb u):HOk P w H h':=λa o e=>
 (x a o e).stay (λb u _ q=>k b u q) (λ_ q=>q) λ_ _ q=>q
theorem HOk.laid(x:HOk P w H h)(k:∀b u,h.get? b=Sb u->h'.get? b=Sb u)(g:h.objs.size<=a)(d:ObjOk P w (upd H a o) h' a o):HOk P w (upd H a o) h':=λb u e=>by
 let hn:=x.fresh g;by_cases f:b=a
 ·subst f;rw[ah] at e;cases e;show d
 ·rw[ac f] at e;show(x b u e).stay (λc v _ q=>k c v q) (λc q=>by rw[ac (aB q hn)];show q) λc i q=>by rw[ac (aB q hn)];show q
end
def Rd(H:Hp)(a:Sj)(u:HO):Prop:=H a=Sb u\/∃o,H a=Sb (.frz o u)
theorem Rd.ok(r:Rd H a u)(x:HOk P w H h):ObjOk P w H h a u:=by
 rcases r with r|⟨o,r⟩
 ·show x a u r
 ·obtain⟨_,q⟩:=x a _ r;show q
def HY:Option HO->Prop
 |some (.lst _)=>True
 |some (.dK _)=>True
 |some (.dT _ _ _)=>True
 |some (.ins _ _ _)=>True
 |some (.ext _)=>True
 |_=>False
section
variable {P:Sr} {w:Ss} {H:Hp} {h h':Sw} {x e:Sj} {o':HO}
theorem HOk.write(p:HOk P w H h)(i:HY (H x))(o:e=x\/H e=Sb (.own x))(k:∀b u,b≠e->h.get? b=Sb u->h'.get? b=Sb u)(m:∃u,h'.get? e=Sb u)
  (new:ObjOk P w (upd H x o') h' x o'):HOk P w (upd H x o') h':=λb u q=>by
 let d:∀c y,H c=Sb (.own y)->c≠x:=λc y r z=>by subst z;rw[r] at i;show i
 let f:∀c l,H c=Sb (.tup l)->c≠x:=λc l r z=>by subst z;rw[r] at i;show i
 by_cases g:b=x
 ·subst g;rw[ah] at q;cases q;show new
 ·rw[ac g] at q;by_cases a:b=e
  ·let n:H b=Sb (.own x):=by
    rcases o with z|z
    ·show absurd (a.trans z) g
    ·rw[a];show z
   rw[q] at n;cases n;obtain⟨v,s⟩:=m;show⟨v,by rw[a];show s⟩
  ·show(p b u q).stay (λc v j r=>k c v ?_ r) (λc r=>by rw[ac (d c b r)];show r) λc l r=>by rw[ac (f c l r)];show r
   rcases j with rfl|j
   ·show a
   ·rintro rfl
    rcases o with z|z
    ·show d c b j z
    ·rw[j] at z;cases z;show g rfl
end
structure Un(fs ex:List Addr)(H H':Hp)(h h':Heap):Prop where
 keep:∀b o,h.get? b=Sb o->H b=Sd->b∉fs->b∉ex->h'.get? b=Sb o
 slot:∀b o,h.get? b=Sb o->H b=Sd->b∈fs->b∉ex->∃sl,h'.get? b=Sb { o with slots:=sl }
 free:∀b o,h.get? b=Sb o->H b=Sd->b∉ex->H' b=Sd
 there:∀b o,h.get? b=Sb o->b∉ex->∃o',h'.get? b=Sb o'
 tups:∀b xs,H b=Sb (.tup xs)->H' b=Sb (.tup xs)
 frzs:∀b o u,H b=Sb (.frz o u)->H' b=Sb (.frz o u)
 tbls:∀b ps,H b=Sb (.tbl ps)->∃more,H' b=Sb (.tbl (ps++more))
section
variable {fs fs' ex ex':List Sj} {H H1 H2:Hp} {h h1 h2 h':Sw} {a x e:Sj} {o:HO}
theorem Un.any(u:Un fs ex H H1 h h1)(q:h.get? b=Sb ob)(n:H b=Sd)(a:b∉ex):∃d,h1.get? b=Sb { ob with slots:=d }:=by
 by_cases c:b∈fs
 ·show u.slot b ob q n c a
 ·show⟨ob.slots,u.keep b ob q n c a⟩
theorem Un.kept(k:∀b u,h.get? b=Sb u->h'.get? b=Sb u):Un fs ex H H h h':=
 ⟨λb a q _ _ _=>k b a q,λb a q _ _ _=>⟨a.slots,k b a q⟩,λ_ _ _ n _=>n,λb a q _=>⟨a,k b a q⟩,λ_ _ q=>q,λ_ _ _ q=>q,λ_ c q=>⟨#[],by rw[q];simp⟩⟩
theorem Un.refl:Un fs ex H H h h:=Un.kept λ_ _ q=>q
theorem Un.laid(k:∀b u,h.get? b=Sb u->h'.get? b=Sb u)(c:h.objs.size<=a)(hn:H a=Sd):Un fs ex H (upd H a o) h h' where
 keep:=λb u q _ _ _=>k b u q
 slot:=λb u q _ _ _=>⟨u.slots,k b u q⟩
 free:=λb u q n _=>by rw[ac (OG (Ov (Os q) c))];show n
 there:=λb u q _=>⟨u,k b u q⟩
 tups:=λb d q=>by rw[ac (aB q hn)];show q
 frzs:=λb u d q=>by rw[ac (aB q hn)];show q
 tbls:=λb e q=>⟨#[],by rw[ac (aB q hn),q];simp⟩
theorem Un.write(c:HY (H x))(i:e=x\/H e=Sb (.own x))(k:∀b u,b≠e->h.get? b=Sb u->h'.get? b=Sb u)(d:∃u,h'.get? e=Sb u):Un fs ex H (upd H x o) h h':=by
 let f:∀b,H b=Sd->b≠x:=λb n z=>by subst z;rw[n] at c;show c
 let g:∀b,H b=Sd->b≠e:=λb n z=>by
  subst z;rcases i with r|r
  ·show f b n r
  ·rw[n] at r;cases r
 let hm:∀b u,H b=Sb u->¬HY (Sb u)->b≠x:=λb u q j z=>by subst z;rw[q] at c;show j c
 show⟨λb u q n _ _=>k b u (g b n) q,λb u q n _ _=>⟨u.slots,k b u (g b n) q⟩,λb u q n _=>by rw[ac (f b n)];show n,λb u q _=>?_,
  λb l q=>by rw[ac (hm b _ q λz=>z)];show q,λb u l q=>by rw[ac (hm b _ q λz=>z)];show q,λb m q=>⟨#[],by rw[ac (hm b _ q λz=>z),q];simp⟩⟩
 by_cases a:b=e
 ·subst a;show d
 ·show⟨u,k b u a q⟩
end
noncomputable def KM(h:Sw)(H:Hp):List Sj:=(O9 h.objs.size).filter λa=>(H a).isSome
def nJ(h:Sw)(H:Hp):Sw:=PySem.W.hideAll h (KM h H)
theorem v3(h:Sw)(H:Hp):(nJ h H).objs.size=h.objs.size:=PySem.W.hideAll_size _ _
theorem xi{h:Sw}{H:Hp}(e:h.get? b=Sb o)(n:H b=Sd):(nJ h H).get? b=Sb o:=
 PySem.W.hideAll_get _ e λhm=>by
  let q:(H b).isSome=Se:=(Q6.mp hm).2;rw[n] at q;simp at q
theorem AC{h:Sw}{H:Hp}(e:(nJ h H).get? b=Sb o):h.get? b=Sb o/\H b=Sd:=by
 let a:h.get? b=Sb o:=PySem.W.of_hideAll (KM h H) e;show⟨a,?_⟩
 cases q:H b with
 |none=>rfl
 |some x=>
  let hm:b∈KM h H:=Q6.mpr ⟨P5.mpr (Os a),by simp[q]⟩;let z:(nJ h H).get? b=Sd:=PySem.W.hideAll_none (KM h H) hm;rw[z] at e;cases e
structure Mod(K:Om)(mg:Str->Option Value)(base:Heap):Prop where
 kin:K.In base
 glob:base.Ns Sz mg
 blt:∃mb,base.Ns builtinsNs mb/\∀x:Str,x≠"__name__"->mb x=bootBuiltins x
 nolimit:base.NoLimit
structure Cx where
 prog:Sr
 w:Ss
 K:Om
 mg:Str->Option Sh
 base:Sw
 A:Sv
 N:List Str
 s₀:Sk
 H₀:Hp
 env:Env
 outer:List Env
 stack:List Env
 ex:List Sj
 fn:Str->Bool
 calm:Bool
 pn:List (Sj×Obj)
 xe:Sh->Sk->Prop
noncomputable def xg(l:List Env):List Sj:=l.filterMap (·.frame)
abbrev Cx.fs(X:Cx):List Sj:=xg X.outer
def KN(sc:SA)(x:Str):Prop:=sc.names.lookup x=Sb .local\/sc.names.lookup x=Sb .cell\/sc.names.lookup x=Sb .free
def Ef(sc:SA)(x:Str):Prop:=sc.names.lookup x=Sb .local\/sc.names.lookup x=Sb .cell
def Lu(q:Env)(h:Sw)(m:Str->Option Sh)(x:Str)(u:Sh):Prop:=
 (q.kindOf x=Sb .local/\m x=Sb u)\/((q.kindOf x=Sb .cell\/q.kindOf x=Sb .free)/\∃c,q.cells.lookup x=Sb c/\h.IsCell c (Sb u))
structure Cx.Ok(X:Cx):Prop where
 mod:Mod X.K X.mg X.base
 kind:X.env.scope.kind=.function
 glob:X.env.globals=Sz
 blt:X.env.builtins=builtinsNs
 above:X.s₀.heap.objs.size<=X.env.locals
 inj:∀x y c,X.env.cells.lookup x=Sb c->X.env.cells.lookup y=Sb c->x=y
 has:∀x,(X.env.kindOf x=Sb .cell\/X.env.kindOf x=Sb .free)->∃c,X.env.cells.lookup x=Sb c
 cab:∀x c,X.fn x=Se->X.env.cells.lookup x=Sb c->X.s₀.heap.objs.size<=c
 hd:X.calm=Se->X.A.handled=Sd
 frames:X.A.frames=Sb X.stack
 stk:X.stack=X.outer\/(X.stack=X.env::X.outer/\X.env.frame=Sb X.env.locals)
 exf:∀b∈X.ex,b≠X.env.locals/\∀x c,X.env.cells.lookup x=Sb c->c≠b
 bs:∀b o,X.base.get? b=Sb o->X.s₀.heap.get? b=Sb o/\X.H₀ b=Sd
 bsz:X.base.objs.size<=X.s₀.heap.objs.size
 noex:∀b o,X.base.get? b=Sb o->b∉X.ex
 exfs:∀b∈X.ex,b∉X.fs
 funs:X.s₀.heap.FunFrames X.base X.outer
 frf:∀b∈X.fs,X.H₀ b=Sd
structure Inv(X:Cx)(pins:List (Addr×Obj))(U:List (Option V))(H:Hp)(s:Shared):Prop where
 ok:X.Ok
 os:s.os=X.s₀.os
 bare:AllBare s.gens
 base:Un X.fs X.ex X.H₀ H X.s₀.heap s.heap
 loc:∃m,s.heap.Ns X.env.locals m/\∀(i:Nat) (x:Str) (v:V),X.N[i]?=Sb x->U[i]?=Sb (Sb v)->KN X.env.scope x->∃u,RelV v u/\Lu X.env s.heap m x u
 cell:∀x c,X.env.cells.lookup x=Sb c->∃v,s.heap.IsCell c v
 free:H X.env.locals=Sd
 freeC:∀x c,X.env.cells.lookup x=Sb c->H c=Sd
 pin:∀p∈X.pn++pins,s.heap.get? p.1=Sb p.2/\H p.1=Sd/\p.1≠X.env.locals/\p.1∉X.fs/\∀v,p.2.data≠.cell v
 hok:HOk X.prog X.w H s.heap
 len:U.length=X.N.length
section
variable {X:Cx} {pins:List (Sj×Obj)} {U:List (Option V)} {H H':Hp} {s:Sk} {h':Sw}
theorem Cx.Ok.nofr(a:X.Ok)(e:X.base.get? b=Sb o):b∉X.fs:=λc=>by
 have:=(a.funs.mem c).1;rw[e] at this;cases this
theorem Inv.bs(I:Inv X pins U H s):∀b o,X.base.get? b=Sb o->s.heap.get? b=Sb o/\H b=Sd:=λb o e=>
 ⟨I.base.keep b o (I.ok.bs b o e).1 (I.ok.bs b o e).2 (I.ok.nofr e) (I.ok.noex b o e),I.base.free b o (I.ok.bs b o e).1 (I.ok.bs b o e).2 (I.ok.noex b o e)⟩
theorem Inv.bk(I:Inv X pins U H s):∀b o,X.base.get? b=Sb o->s.heap.get? b=Sb o:=λb o e=>(I.bs b o e).1
theorem Inv.mod(I:Inv X pins U H s):Mod X.K X.mg X.base:=I.ok.mod
theorem Inv.kIn(I:Inv X pins U H s):X.K.In s.heap:=I.ok.mod.kin.keeps I.bk
theorem Inv.lt(I:Inv X pins U H s):X.env.locals<s.heap.objs.size:=let ⟨_,hn,_⟩:=I.loc;hn.lt
theorem Inv.sz(I:Inv X pins U H s):X.s₀.heap.objs.size<=s.heap.objs.size:=OW I.ok.above (Qk I.lt)
theorem Inv.nofs(I:Inv X pins U H s)(h:s.heap.objs.size<=a):a∉X.fs:=λc=>by
 obtain⟨_,o,b,_⟩:=I.ok.funs.mem c;show absurd (Ov (Os b) (OW I.sz h)) (Pa _)
theorem Inv.cne(I:Inv X pins U H s):∀x c,X.env.cells.lookup x=Sb c->c≠X.env.locals:=λx c e z=>by
 obtain⟨v,o,d,f⟩:=I.cell x c e;obtain⟨m,⟨g,h,i,a,b,_⟩,_⟩:=I.loc;rw[z,a] at d;cases d;rw[b] at f;cases f
theorem Inv.funs(I:Inv X pins U H s):s.heap.FunFrames X.base X.outer:=by
 let c:∀(l:List Env),(∀b∈xg l,b∈X.fs)->X.s₀.heap.FunFrames X.base l->s.heap.FunFrames X.base l:=by
  intro l
  induction l with
  |nil=>intro _ _;trivial
  |cons i r k=>
   intro f hl;obtain⟨hk,⟨L,o,d,hn,g,h⟩,j⟩:=hl;let hL:L∈X.fs:=f L (by unfold xg;rw[Pi,d];show OL);obtain⟨m,e⟩:=I.base.slot L o g (I.ok.frf L hL) hL λz=>I.ok.exfs L z hL;show⟨hk,⟨L,_,d,hn,e,h⟩,k (λb a=>f b (by unfold xg;rw[Pi,d];show OH _ a)) j⟩
 show c X.outer (λ_ a=>a) I.ok.funs
theorem Inv.stack(I:Inv X pins U H s):s.heap.FunFrames X.base X.stack:=by
 rcases I.ok.stk with e|⟨e,a⟩
 ·rw[e];show I.funs
 ·rw[e];obtain⟨m,hn,_⟩:=I.loc;show .cons (by rw[I.ok.kind];decide) a hn ?_ I.funs;show Heap.get?_none_of_le (OW I.ok.bsz I.ok.above)
theorem Inv.stkSub(I:Inv X pins U H s):∀b∈xg X.stack,b∈X.env.locals::X.fs:=λb a=>by
 rcases I.ok.stk with e|⟨e,c⟩
 ·rw[e] at a;show OH _ a
 ·rw[e] at a;unfold xg at a;rw[Pi,c] at a;show a
theorem Inv.stkFree(I:Inv X pins U H s):∀b∈xg X.stack,H b=Sd:=λb a=>by
 rcases OD.mp (I.stkSub b a) with e|a
 ·rw[e];show I.free
 ·obtain⟨_,o,c,_⟩:=I.ok.funs.mem a;show I.base.free b o c (I.ok.frf b a) λz=>I.ok.exfs b z a
theorem Inv.step{t':Nat}{ch:List Sj}(I:Inv X pins U H s)(h:∀b∈ch,(b∈X.ex\/X.s₀.heap.objs.size<=b)/\b≠X.env.locals/\(∀x c,X.env.cells.lookup x=Sb c->c≠b)/\∀p∈X.pn++pins,p.1≠b)(g:∀b o,b≠X.env.locals->b∉X.fs->b∉ch->s.heap.get? b=Sb o->H b=Sd->h'.get? b=Sb o)(A:∀b o,b≠X.env.locals->b∈X.fs->b∉ch->s.heap.get? b=Sb o->H b=Sd->∃Q,h'.get? b=Sb { o with slots:=Q })(f:∀b o,b∉ch->s.heap.get? b=Sb o->H b=Sd->H' b=Sd)(B:∀b o,b∉ch->s.heap.get? b=Sb o->∃o',h'.get? b=Sb o')(M:∀b xs,H b=Sb (.tup xs)->H' b=Sb (.tup xs))(L:∀b o u,H b=Sb (.frz o u)->H' b=Sb (.frz o u))(E:∀b ps,H b=Sb (.tbl ps)->∃K,H' b=Sb (.tbl (ps++K)))(W:∀m,s.heap.Ns X.env.locals m->h'.Ns X.env.locals m)(O:HOk X.prog X.w H' h')(hg:AllBare g') :
  Inv X pins U H' { s with heap:=h',gens:=g',drawn:=d',toks:=t' }:=by
 let F:∀b o,X.s₀.heap.get? b=Sb o->b≠X.env.locals:=λb o e=>OG (Ov (Os e) I.ok.above)
 let y:∀b o,X.s₀.heap.get? b=Sb o->b∉X.ex->b∉ch:=λb o e a C=>by
  rcases(h b C).1 with z|z
  ·show a z
  ·show absurd (Ov (Os e) z) (Pa _)
 let j:∀x c,X.env.cells.lookup x=Sb c->∀v,s.heap.IsCell c v->h'.IsCell c v:=λx c e v ⟨o,D,N⟩=>by
  let t:c∉ch:=λz=>(h c z).2.2.1 x c e rfl;by_cases R:c∈X.fs
  ·obtain⟨Q,q⟩:=A c o (I.cne x c e) R t D (I.freeC x c e);show⟨_,q,N⟩
  ·show⟨o,g c o (I.cne x c e) R t D (I.freeC x c e),N⟩
 show⟨I.ok,I.os,hg,⟨λb o e n C a=>?_,λb o e n C a=>?_,λb o e n a=>?_,λb o e a=>?_,λb xs e=>M b xs (I.base.tups b xs e),λb o xs e=>L b o xs (I.base.frzs b o xs e),λb ps e=>?_⟩,?_,λx c e=>?_,?_,λx c e=>?_,λp S=>?_,O,I.len⟩
 ·show g b o (F b o e) C (y b o e a) (I.base.keep b o e n C a) (I.base.free b o e n a)
 ·obtain⟨Q,e1⟩:=I.base.slot b o e n C a;obtain⟨P,e2⟩:=A b _ (F b o e) C (y b o e a) e1 (I.base.free b o e n a);show⟨P,e2⟩
 ·obtain⟨o',e1⟩:=I.base.there b o e a;show f b o' (y b o e a) e1 (I.base.free b o e n a)
 ·obtain⟨o',e1⟩:=I.base.there b o e a;show B b o' (y b o e a) e1
 ·obtain⟨Y,e1⟩:=I.base.tbls b ps e;obtain⟨Z,e2⟩:=E b _ e1;show⟨Y++Z,by rw[e2,Array.append_assoc]⟩
 ·obtain⟨m,hn,hl⟩:=I.loc;show⟨m,W m hn,λi x v e1 e2 e3=>?_⟩;obtain⟨u,r,l⟩:=hl i x v e1 e2 e3;show⟨u,r,?_⟩;rcases l with l|⟨k,c,e,z⟩
  ·show .inl l
  ·show .inr ⟨k,c,e,j x c e _ z⟩
 ·obtain⟨v,z⟩:=I.cell x c e;show⟨v,j x c e v z⟩
 ·obtain⟨m,⟨o,_,_,D,_⟩,_⟩:=I.loc;show f _ o (λz=>(h _ z).2.1 rfl) D I.free
 ·obtain⟨v,o,D,N⟩:=I.cell x c e;show f c o (λz=>(h c z).2.2.1 x c e rfl) D (I.freeC x c e)
 ·obtain⟨e,n,V,T,d⟩:=I.pin p S;let t:p.1∉ch:=λz=>(h p.1 z).2.2.2 p S rfl;show⟨g p.1 p.2 V T t e n,f p.1 p.2 t e n,V,T,d⟩
theorem Inv.un{t':Nat}(I:Inv X pins U H s)(u:Un X.fs [] H H' s.heap h')(d:HOk X.prog X.w H' h'):Inv X pins U H' { s with heap:=h',toks:=t' }:=by
 obtain⟨m,⟨o,p,k,h,r⟩,_⟩:=id I.loc;obtain⟨j,hL⟩:=u.any h I.free (by simp)
 show I.step (ch:=[]) (λ_ z=>nomatch z) (λb o _ c _ e n=>u.keep b o e n c (by simp)) (λb o _ c _ e n=>u.slot b o e n c (by simp)) (λb o _ e n=>u.free b o e n (by simp)) (λb o _ e=>u.there b o e (by simp)) u.tups u.frzs u.tbls (λq hm=>by
  obtain⟨l,g,f,a,i⟩:=hm;rw[h] at a;cases a;show⟨_,g,f,hL,i⟩) d I.bare
theorem Inv.call{t':Nat}{ch:List Sj}(I:Inv X pins U H s)(u:Un (xg X.stack) ch H H' s.heap h')(g:HOk X.prog X.w H' h')(l:AllBare g')(d:∀b∈ch,(b∈X.ex\/X.s₀.heap.objs.size<=b)/\b≠X.env.locals/\(∀x c,X.env.cells.lookup x=Sb c->c≠b)/\∀p∈X.pn++pins,p.1≠b) :
  Inv X pins U H' { s with heap:=h',gens:=g',drawn:=d',toks:=t' }:=by
 obtain⟨m,⟨o,A,v,j,r⟩,_⟩:=id I.loc;obtain⟨t,hL⟩:=u.any j I.free λz=>(d _ z).2.1 rfl
 show I.step (ch:=ch) d (λb o hL k a e n=>u.keep b o e n (λz=>(OD.mp (I.stkSub b z)).elim hL k) a) (λb o _ _ a e n=>u.any e n a) (λb o a e n=>u.free b o e n a) (λb o a e=>u.there b o e a) u.tups u.frzs u.tbls (λB hm=>by
  obtain⟨y,i,h,f,q⟩:=hm;rw[j] at f;cases f;show⟨_,i,h,hL,q⟩) g l
theorem Inv.turned{t':Nat}{it:Sj}(I:Inv X pins U H s)(k:∀b o,b≠it->s.heap.get? b=Sb o->h'.get? b=Sb o)(hn:H it=Sd)(hL:it≠X.env.locals)
  (h1:it∈X.ex\/X.s₀.heap.objs.size<=it) (h2:∀x c,X.env.cells.lookup x=Sb c->c≠it) (h3:∀p∈X.pn++pins,p.1≠it):Inv X pins U H { s with heap:=h',toks:=t' }:=by
 let d:∀b u,H b=Sb u->b≠it:=λb u e z=>by rw[z,hn] at e;cases e
 show I.step (ch:=[it]) (λb g=>?_) (λb o _ _ a e _=>k b o (λz=>a (by simp[z])) e) (λb o _ _ a e _=>⟨o.slots,k b o (λz=>a (by simp[z])) e⟩) (λ_ _ _ _ n=>n)
  (λb o a e=>⟨o,k b o (λz=>a (by simp[z])) e⟩) (λ_ _ e=>e) (λ_ _ _ e=>e) (λb j e=>⟨#[],by rw[e];simp⟩) (λm hm=>?_) (λb u e=>?_) I.bare
 ·let e:b=it:=by simpa using g
  subst e;show⟨h1,hL,h2,h3⟩
 ·obtain⟨o,i,h,f,r⟩:=hm;show⟨o,i,h,k _ o (Ne.symm hL) f,r⟩
 ·show(I.hok b u e).stay (λc v a q=>k c v ?_ q) (λ_ q=>q) λ_ _ q=>q;rcases a with z|z
  ·rw[z];show d b u e
  ·show d c _ z
theorem Inv.tok(I:Inv X pins U H s)(t:Nat):Inv X pins U H { s with toks:=t }:=I.un (t':=t) Un.refl I.hok
theorem Inv.kept{t':Nat}(I:Inv X pins U H s)(k:∀b u,s.heap.get? b=Sb u->h'.get? b=Sb u):Inv X pins U H { s with heap:=h',toks:=t' }:=I.un (Un.kept k) (I.hok.kept k)
theorem Inv.laid{t':Nat}(I:Inv X pins U H s)(k:∀b u,s.heap.get? b=Sb u->h'.get? b=Sb u)(c:s.heap.objs.size<=a)(d:ObjOk X.prog X.w (upd H a o) h' a o) :
  Inv X pins U (upd H a o) { s with heap:=h',toks:=t' }:=I.un (Un.laid k c (I.hok.fresh c)) (I.hok.laid k c d)
theorem Inv.write{x e:Sj}{t':Nat}(I:Inv X pins U H s)(d:HY (H x))(f:e=x\/H e=Sb (.own x))(k:∀b u,b≠e->s.heap.get? b=Sb u->h'.get? b=Sb u)(a:∃u,h'.get? e=Sb u)(c:ObjOk X.prog X.w (upd H x o) h' x o):Inv X pins U (upd H x o) { s with heap:=h',toks:=t' }:=I.un (Un.write d f k a) (I.hok.write d f k a c)
theorem Inv.pins_of{a:List (Sj×Obj)}(I:Inv X pins U H s)(h:∀p∈a,s.heap.get? p.1=Sb p.2/\H p.1=Sd/\p.1≠X.env.locals/\p.1∉X.fs/\∀v,p.2.data≠.cell v):Inv X a U H s:=
 ⟨I.ok,I.os,I.bare,I.base,I.loc,I.cell,I.free,I.freeC,λp b=>(OQ.mp b).elim (λz=>I.pin p (O5 _ z)) (h p),I.hok,I.len⟩
theorem pj{N:List Str}(c:N.Nodup){i j:Nat}(a:N[i]?=Sb x)(b:N[j]?=Sb x):i=j:=by
 obtain⟨e,e1⟩:=OA.mp a;obtain⟨d,e2⟩:=OA.mp b;show(RW c).mp (e1.trans e2.symm)
theorem i8{i:Nat}{Q:Unit->Sk->Prop}(I:Inv X pins U H s)(hN:X.N.Nodup)(hi:X.N[i]?=Sb x)(t:Ef X.env.scope x)(r:RelV v u)(h:∀s',Inv X pins (U.set i (Sb v)) H s'->(∃a,Heap.SameBut a s.heap s'.heap/\(a=X.env.locals\/X.env.cells.lookup x=Sb a))->Q () s')(hf:X.fn x=Se\/X.env.scope.names.lookup x=Sb .local:=by first|show .inl rfl|show .inr rfl|assumption):Sq M A (storeName X.env x u) Q E s:=by
 obtain⟨m,hn,hl⟩:=id I.loc;let O:(X.env.scope.kind==.class||(X.env.scope.kind==.module&&X.env.locals != X.env.globals))=Sf:=by rw[I.ok.kind];rfl
 let T:i<U.length:=by rw[I.len];show(OA.mp hi).1
 let K:=I.cne
 let g:∀{a:Sj} {L:Sw},(∃o,s.heap.get? a=Sb o/\H a=Sd)->Heap.SameBut a s.heap L->HOk X.prog X.w H L:=λ{a L} ha f b ob e=>by
  obtain⟨_,_,B⟩:=ha;show(I.hok b ob e).stay (λc W l q=>(f.2 c ?_).trans q) (λ_ q=>q) λ_ _ q=>q
  rintro rfl
  rcases l with rfl|l
  ·rw[B] at e;cases e
  ·rw[B] at l;cases l
 rcases t with hk|hk
 ·show wpAny_storeName_local hk hn (λL hd f=>?_) O;obtain⟨oL,_,_,he,_⟩:=id hn;show h _ ⟨I.ok,I.os,I.bare,⟨λb o e n F t=>?_,λb o e n F t=>?_,I.base.free,λb o e t=>?_,I.base.tups,I.base.frzs,I.base.tbls⟩,⟨_,hd,λj y v' e1 e2 e3=>?_⟩,λy c e=>?_,I.free,I.freeC,λp hp=>?_,g ⟨oL,he,I.free⟩ f,by simpa using I.len⟩ ⟨_,f,.inl rfl⟩
  ·show(f.2 b (OG (Ov (Os e) I.ok.above))).trans (I.base.keep b o e n F t)
  ·obtain⟨sl,e1⟩:=I.base.slot b o e n F t;show⟨sl,(f.2 b (OG (Ov (Os e) I.ok.above))).trans e1⟩
  ·obtain⟨o',e1⟩:=I.base.there b o e t;show⟨o',(f.2 b (OG (Ov (Os e) I.ok.above))).trans e1⟩
  ·by_cases C:j=i
   ·subst C;rw[hi] at e1;cases e1;rw[OO T] at e2;cases e2;show⟨u,r,.inl ⟨hk,by simp⟩⟩
   ·rw[ON (Ne.symm C)] at e2;obtain⟨u',r',q⟩:=hl j y v' e1 e2 e3;show⟨u',r',?_⟩;rcases q with⟨k,e⟩|⟨k,c,e,z⟩
    ·show .inl ⟨k,?_⟩;have:y≠x:=λe=>C (pj hN e1 (e▸hi));simp[this,e]
    ·show .inr ⟨k,c,e,z.sameBut f (K y c e)⟩
  ·obtain⟨W,z⟩:=I.cell y c e;show⟨W,z.sameBut f (K y c e)⟩
  ·obtain⟨e,n,Z,nf,d⟩:=I.pin p hp;show⟨(f.2 p.1 Z).trans e,n,Z,nf,d⟩
 ·let D:X.fn x=Se:=by
   rcases hf with z|z
   ·show z
   ·rw[z] at hk;cases hk
  obtain⟨c,l⟩:=I.ok.has x (.inl hk);obtain⟨W,z⟩:=I.cell x c l;show wpAny_storeName_cell I.ok.kind hk l z (λL P f=>?_);obtain⟨oc,R,V⟩:=id z;show h { s with heap:=L } ⟨I.ok,I.os,I.bare,⟨λb o e n F t=>?_,λb o e n F t=>?_,I.base.free,λb o e t=>?_,I.base.tups,I.base.frzs,I.base.tbls⟩,⟨m,hn.sameBut f (Ne.symm (K x c l)),λj y v' e1 e2 e3=>?_⟩,λy Y e=>?_,I.free,I.freeC,λp hp=>?_,g ⟨oc,R,I.freeC x c l⟩ f,by simpa using I.len⟩ ⟨c,f,.inr l⟩
  ·show(f.2 b (OG (Ov (Os e) (I.ok.cab x c D l)))).trans (I.base.keep b o e n F t)
  ·obtain⟨sl,e1⟩:=I.base.slot b o e n F t;show⟨sl,(f.2 b (OG (Ov (Os e) (I.ok.cab x c D l)))).trans e1⟩
  ·obtain⟨o',e1⟩:=I.base.there b o e t;show⟨o',(f.2 b (OG (Ov (Os e) (I.ok.cab x c D l)))).trans e1⟩
  ·by_cases C:j=i
   ·subst C;rw[hi] at e1;cases e1;rw[OO T] at e2;cases e2;show⟨u,r,.inr ⟨.inl hk,c,l,P⟩⟩
   ·rw[ON (Ne.symm C)] at e2;obtain⟨u',r',q⟩:=hl j y v' e1 e2 e3;show⟨u',r',?_⟩;rcases q with q|⟨k,Y,e,z'⟩
    ·show .inl q
    ·show .inr ⟨k,Y,e,z'.sameBut f ?_⟩
     rintro rfl
     show C (pj hN e1 (I.ok.inj _ _ _ e l▸hi))
  ·by_cases S:Y=c
   ·subst S;show⟨_,P⟩
   ·obtain⟨w2,z2⟩:=I.cell y Y e;show⟨w2,z2.sameBut f S⟩
  ·obtain⟨e,n,Z,nf,d⟩:=I.pin p hp;show⟨(f.2 p.1 ?_).trans e,n,Z,nf,d⟩;intro q;rw[q,R] at e;let q':oc=p.2:=Option.some.inj e;show d W (by rw[<- q'];show V)
theorem pp{i:Nat}{Q:Unit->Sk->Prop}(I:Inv X pins U H s)(c:X.N.Nodup)(hi:X.N[i]?=Sb x)(b:Ef X.env.scope x)(r:RelV v u)(h:∀s',Inv X pins (U.set i (Sb v)) H s'->Q () s')(d:X.fn x=Se\/X.env.scope.names.lookup x=Sb .local:=by first|show .inl rfl|show .inr rfl|assumption):Sq M A (storeName X.env x u) Q E s:=
 i8 I c hi b r (λs' a _=>h s' a) d
theorem Inv.call'{s':Sk}{ch:List Sj}(I:Inv X pins U H s)(d:s'.os=s.os)(u:Un (xg X.stack) ch H H' s.heap s'.heap)(a:HOk X.prog X.w H' s'.heap)(g:AllBare s'.gens)
  (hch:∀b∈ch,(b∈X.ex\/X.s₀.heap.objs.size<=b)/\b≠X.env.locals/\(∀x c,X.env.cells.lookup x=Sb c->c≠b)/\∀p∈X.pn++pins,p.1≠b):Inv X pins U H' s':=by
 obtain⟨h,g',d',t',f⟩:=s';let e:f=s.os:=d;subst e;show I.call (g':=g') (t':=t') (d':=d') u a g hch
end
abbrev XK:=Sh->Option Sj->Hp->Prop
abbrev St:=List (Option V)
abbrev VK:=V->Hp->Prop
abbrev TE:=St->Hp->VK->Prop
abbrev TT:=St->Hp->(Bool->Hp->Prop)->Prop
abbrev TA:=St->Hp->(List V->Hp->Prop)->Prop
structure i9 where
 nx:St->Hp->Prop
 rt:VK
 bk:St->Hp->Prop:=λ_ _=>False
 ct:St->Hp->Prop:=λ_ _=>False
abbrev TS:=i9->St->Hp->Prop
def EP(X:Cx)(pins:List (Sj×Obj))(U:St)(Q:VK)(u:Sh)(s':Sk):Prop:=∃v H',Inv X pins U H' s'/\RelV v u/\Q v H'
def TP(X:Cx)(pins:List (Sj×Obj))(U:St)(Q:Bool->Hp->Prop)(b:Bool)(s':Sk):Prop:=∃H',Inv X pins U H' s'/\Q b H'
def AP(X:Cx)(pins:List (Sj×Obj))(U:St)(Q:List V->Hp->Prop)(us:List Sh)(s':Sk):Prop:=∃vs H',Inv X pins U H' s'/\Vals vs us/\Q vs H'
def SP(X:Cx)(pins:List (Sj×Obj))(D:i9)(f:Flow)(s':Sk):Prop:=
 match f with
 |.next=>∃U' H',Inv X pins U' H' s'/\D.nx U' H'
 |.brk=>∃U' H',Inv X pins U' H' s'/\D.bk U' H'
 |.cont=>∃U' H',Inv X pins U' H' s'/\D.ct U' H'
 |.ret u=>∃v U' H',Inv X pins U' H' s'/\RelV v u/\D.rt v H'
def PE(X:Cx)(e:Si)(t:TE):Prop:=
 ∀(pins:List (Sj×Obj)) (s:Sk) (U:St) (H:Hp) (Q:VK),Inv X pins U H s->t U H Q->Sq (So X.prog X.w) X.A (eval e X.env) (EP X pins U Q) X.xe s
def PT(X:Cx)(e:Si)(t:TT):Prop:=
 ∀(pins:List (Sj×Obj)) (s:Sk) (U:St) (H:Hp) (Q:Bool->Hp->Prop),Inv X pins U H s->t U H Q->Sq (So X.prog X.w) X.A (isTrue e X.env (eval e X.env)) (TP X pins U Q) X.xe s
def PW(X:Cx)(e:Si)(t:TT):Prop:=
 ∀(q:Sem Sh) (pins:List (Sj×Obj)) (s:Sk) (U:St) (H:Hp) (Q:Bool->Hp->Prop),Inv X pins U H s->t U H Q->Sq (So X.prog X.w) X.A (isTrue e X.env q) (TP X pins U Q) X.xe s
def PA(X:Cx)(es:List Si)(t:TA):Prop:=
 ∀(pos:Pos) (pins:List (Sj×Obj)) (s:Sk) (U:St) (H:Hp) (Q:List V->Hp->Prop),Inv X pins U H s->t U H Q->Sq (So X.prog X.w) X.A (spliced (backTo pos (Sy es X.env))) (AP X pins U Q) X.xe s
def PS(X:Cx)(st:Su)(t:TS):Prop:=
 ∀(pins:List (Sj×Obj)) (s:Sk) (U:St) (H:Hp) (D:i9),Inv X pins U H s->t D U H->Sq (So X.prog X.w) X.A (exec st X.env) (SP X pins D) X.xe s
def PSs(X:Cx)(st:List Su)(t:TS):Prop:=
 ∀(pins:List (Sj×Obj)) (s:Sk) (U:St) (H:Hp) (D:i9),Inv X pins U H s->t D U H->Sq (So X.prog X.w) X.A (execs st X.env) (SP X pins D) X.xe s
theorem bd{α:Type}{t:Sem α}{Q b:α->Sk->Prop}{M:Model}{A:Sv}{E:Sh->Sk->Prop}{s:Sk}(h:Sq M A t Q E s)(c:∀a s,Q a s->b a s):Sq M A t b E s:=wpAny_mono h c λ_ _ x=>x
section
variable {X:Cx}
def Lv(i:Nat):TE:=λU H Q=>∃v,U[i]?=Sb (Sb v)/\Q v H
def tC(v:V):TE:=λ_ H Q=>Q v H
theorem rJ{i:Nat}(j:X.N[i]?=Sb x)(k:KN X.env.scope x)(hd:(x==("__debug__":Str))=Sf:=by decide)(f:(x==("__classdict__":Str))=Sf:=by decide):PE X (.Name x pos) (Lv i):=by
 intro d s U H Q I h;obtain⟨v,e,h⟩:=h;obtain⟨m,hn,hl⟩:=I.loc;obtain⟨u,r,l⟩:=hl i x v j e k;let b:EP X d U Q u s:=⟨v,H,I,r,h⟩;rcases l with⟨hk,hm⟩|⟨hk,c,g,a⟩
 ·show wpAny_Name (wpAny_loadName_local I.ok.kind hk hn hm b) hd
 ·rcases hk with hk|hk
  ·show wpAny_Name (wpAny_loadName_cell I.ok.kind hk g a b) hd
  ·show wpAny_Name (wpAny_loadName_free I.ok.kind hk g a b f) hd
theorem Eg{i j pos}:PE X (.Constant (.int i) j pos) (tC (.int i)):=λ_ _ _ H _ I h=>wpAny_Constant_int ⟨.int i,H,I.tok _,⟨_,rfl⟩,h⟩
theorem HZ{b j pos}:PE X (.Constant (.bool b) j pos) (tC (.bl b)):=λ_ _ _ H _ I h=>Constant_bool ⟨.bl b,H,I,rfl,h⟩
theorem Eh{j pos}:PE X (.Constant .none j pos) (tC .non):=λ_ _ _ H _ I h=>Constant_none ⟨.non,H,I,rfl,h⟩
theorem Ei{x j pos}:PE X (.Constant (.str x) j pos) (tC (.str x)):=λ_ _ _ H _ I h=>Calls.Constant_str ⟨.str x,H,I.tok _,⟨_,rfl⟩,h⟩
def Gl(X:Cx)(x:Str):Prop:=X.env.kindOf x=Sb .globalImplicit
theorem ij{Q:Sh->Sk->Prop}(I:Inv X pins U H s)(a:Gl X x)(hm:X.mg x=Sb u)(h:Q u s)(hd:(x==("__debug__":Str))=Sf:=by decide):Sq (So X.prog X.w) X.A (eval (.Name x pos) X.env) Q E s:=
 Calls.Name_function_global I.ok.kind a (Calls.loadGlobal_global (by rw[I.ok.glob];show I.mod.glob.keeps I.bk) hm h) hd
theorem dJ{Q:Sh->Sk->Prop}(I:Inv X pins U H s)(b:Gl X x)(hm:X.mg x=Sd)(c:bootBuiltins x=Sb u)(h:Q u s)(hn:x≠"__name__":=by decide)(hd:(x==("__debug__":Str))=Sf:=by decide):Sq (So X.prog X.w) X.A (eval (.Name x pos) X.env) Q E s:=by
 obtain⟨e,d,a⟩:=I.mod.blt;show Calls.Name_function_global I.ok.kind b (Calls.loadGlobal_builtin (by rw[I.ok.glob];show I.mod.glob.keeps I.bk) hm (by rw[I.ok.blt];show d.keeps I.bk) ((a x hn).trans c) h) hd
theorem AD(a:Gl X x)(hm:X.mg x=Sb u)(r:RelV v u)(hd:(x==("__debug__":Str))=Sf:=by decide):PE X (.Name x pos) (tC v):=
 λ_ _ _ H _ I h=>ij I a hm ⟨v,H,I,r,h⟩ hd
theorem AE(a:Gl X x)(hm:X.mg x=Sd)(b:bootBuiltins x=Sb u)(r:RelV v u)(hn:x≠"__name__":=by decide)(hd:(x==("__debug__":Str))=Sf:=by decide):PE X (.Name x pos) (tC v):=
 λ_ _ _ H _ I h=>dJ I a hm b ⟨v,H,I,r,h⟩ hn hd
variable {a b:Si} {ta tb:TE} {pos:Pos}
variable {tA tB':TT} {rest:List Si}
def Lw(t u:TT):TT:=λU H Q=>t U H λc H1=>if c=Se then u U H1 Q else Q Sf H1
def N1(t u:TT):TT:=λU H Q=>t U H λc H1=>if c=Se then Q Se H1 else u U H1 Q
def Ly(t:TT):TT:=λU H Q=>t U H λc H1=>Q (!c) H1
theorem AF(d:PT X a tA):PW X (.BoolOp .And [a] pos) tA:=by
 intro f b s U H Q I h;show isTrue_and (bd (d b s U H Q I h) λc s1 e=>?_)
 cases c with
 |true=>show isTrue_and_nil e
 |false=>show e
theorem Ej(d:PT X a tA):PW X (.BoolOp .Or [a] pos) tA:=by
 intro f b s U H Q I h;show isTrue_or (bd (d b s U H Q I h) λc s1 e=>?_)
 cases c with
 |false=>show isTrue_or_nil e
 |true=>show e
theorem xj(i:PT X a tA)(j:PW X (.BoolOp .And (b::rest) pos) tB'):PW X (.BoolOp .And (a::b::rest) pos) (Lw tA tB'):=by
 intro k d s U H Q I h;show isTrue_and (bd (i d s U H _ I h) λc s1 g=>?_);obtain⟨f,e,q1⟩:=g
 cases c with
 |true=>show j k d s1 U f Q e q1
 |false=>show⟨f,e,q1⟩
theorem C5(i:PT X a tA)(j:PW X (.BoolOp .Or (b::rest) pos) tB'):PW X (.BoolOp .Or (a::b::rest) pos) (N1 tA tB'):=by
 intro k d s U H Q I h;show isTrue_or (bd (i d s U H _ I h) λc s1 g=>?_);obtain⟨f,e,q1⟩:=g
 cases c with
 |true=>show⟨f,e,q1⟩
 |false=>show j k d s1 U f Q e q1
theorem Ek(d:PT X a tA):PT X (.UnaryOp .Not a pos) (Ly tA):=by
 intro b s U H Q I h;show isTrue_not (d b s U H (λc e=>Q (!c) e) I h)
def H9(ta tb:TE):TE:=λU H Q=>ta U H λx H1=>∃c,x=.bl c/\if c=Se then tb U H1 Q else Q (.bl Sf) H1
def Lz(ta tb:TE):TE:=λU H Q=>ta U H λx H1=>∃c,x=.bl c/\if c=Se then Q (.bl Se) H1 else tb U H1 Q
theorem El{op}(h:PE X a t):PE X (.BoolOp op [a] pos) t:=λb s U H Q I c=>BoolOp_one (h b s U H Q I c)
theorem xk(i:PE X a ta)(j:PE X (.BoolOp .And (b::rest) pos) tb):PE X (.BoolOp .And (a::b::rest) pos) (H9 ta tb):=by
 intro d s U H Q I h;show BoolOp_and (bd (i d s U H _ I h) λv s1 g=>?_);obtain⟨x,f,e,k,q1⟩:=g;obtain⟨c,rfl,q1⟩:=q1;cases k;show SL ?_
 cases c with
 |true=>show j d s1 U f Q e q1
 |false=>show⟨.bl Sf,f,e,rfl,q1⟩
theorem C6(i:PE X a ta)(j:PE X (.BoolOp .Or (b::rest) pos) tb):PE X (.BoolOp .Or (a::b::rest) pos) (Lz ta tb):=by
 intro d s U H Q I h;show BoolOp_or (bd (i d s U H _ I h) λv s1 g=>?_);obtain⟨x,f,e,k,q1⟩:=g;obtain⟨c,rfl,q1⟩:=q1;cases k;show SL ?_
 cases c with
 |false=>show j d s1 U f Q e q1
 |true=>show⟨.bl Se,f,e,rfl,q1⟩
def N2(t:TT)(ta tb:TE):TE:=λU H Q=>t U H λc H1=>if c=Se then ta U H1 Q else tb U H1 Q
theorem pq{c:Si}(i:PT X c tA)(k:PE X a ta)(l:PE X b tb):PE X (.IfExp c a b pos) (N2 tA ta tb):=by
 intro e s U H Q I h;show wpAny_IfExp (bd (i e s U H _ I h) λd s1 j=>?_);obtain⟨g,f,q1⟩:=j
 cases d with
 |true=>show k e s1 U g Q f q1
 |false=>show l e s1 U g Q f q1
end
def SqL(K:Om)(H:Hp)(a:Sj)(xs:List V):Prop:=
 Rd H a (.lst xs)\/
  ∃(o:Obj) (q:Array Sh) (n:Nat),K.lookup a=Sb o/\o.cls=.type "list"/\o.dict=Sd/\o.data=.seq q n/\q.size<=sizeLine/\Vals xs q.toList
def SqT(K:Om)(H:Hp)(a:Sj)(xs:List V):Prop:=
 Rd H a (.tup xs)\/
  ∃(o:Obj) (q:Array Sh) (n:Nat),K.lookup a=Sb o/\o.cls=.type "tuple"/\o.data=.seq q n/\q.size<=sizeLine/\Vals xs q.toList
noncomputable def LA:Sh->Option V
 |.none=>Sb .non
 |.bool b=>Sb (.bl b)
 |.int i _=>Sb (.int i)
 |.str x _=>Sb (.str x)
 |.bytes b _=>Sb (.byt b)
 |.float b _=>Sb (.flt b)
 |.ref a=>Sb (.ref a)
 |.type n=>Sb (.ty n)
 |_=>Sd
theorem RelV.abs(r:RelV x u):LA u=Sb x:=by
 cases x with
 |non=>cases r;rfl
 |bl _=>cases r;rfl
 |int _=>obtain⟨t,rfl⟩:=r;rfl
 |str _=>obtain⟨t,rfl⟩:=r;rfl
 |byt _=>obtain⟨t,rfl⟩:=r;rfl
 |flt _=>obtain⟨t,rfl⟩:=r;rfl
 |ref _=>cases r;rfl
 |ty _=>cases r;rfl
theorem RelV.inj(r:RelV x u)(q:RelV y u):x=y:=Option.some.inj (r.abs.symm.trans q.abs)
theorem Vals.inj(h:Vals xs us)(k:Vals ys us):xs=ys:=by
 induction h generalizing ys with
 |nil=>cases k;rfl
 |cons r t b=>cases k with
  |cons a c=>rw[r.inj a,b c]
section
variable {X:Cx} {pins:List (Sj×Obj)} {U:St} {H:Hp} {s:Sk} {a:Sj} {xs ys:List V}
theorem SqL.of{K:Om}(h:H a=Sb (.lst xs)):SqL K H a xs:=.inl (.inl h)
theorem SqT.of{K:Om}(h:H a=Sb (.tup xs)):SqT K H a xs:=.inl (.inl h)
theorem Inv.list(I:Inv X pins U H s)(h:SqL X.K H a xs):∃b:List Sh,Vals xs b/\PlainL s.heap a b.toArray/\xs.length<=sizeLine:=by
 rcases h with h|⟨o,b,n,hk,d,c,f,g,r⟩
 ·obtain⟨z,b,n,r,e⟩:=h.ok I.hok;show⟨b,r,⟨_,n,e,rfl,rfl,rfl⟩,z⟩
 ·show⟨b.toList,r,⟨o,n,I.kIn a o hk,d,c,by simpa using f⟩,?_⟩;let e:=r.length;simp only[PR] at e
  lia
theorem Inv.tuple(I:Inv X pins U H s)(h:SqT X.K H a xs):∃b:List Sh,Vals xs b/\IsTup s.heap a b.toArray/\xs.length<=sizeLine:=by
 rcases h with h|⟨o,b,n,hk,d,c,f,r⟩
 ·obtain⟨z,b,r,p⟩:=h.ok I.hok;show⟨b,r,p,z⟩
 ·show⟨b.toList,r,⟨o,I.kIn a o hk,d,n,by simpa using c⟩,?_⟩;let e:=r.length;simp only[PR] at e
  lia
theorem Inv.list_inj(I:Inv X pins U H s)(h:SqL X.K H a xs)(h':SqL X.K H a ys):xs=ys:=by
 obtain⟨c,r,⟨o,n,e,_,_,d⟩,_⟩:=I.list h;obtain⟨b,i,⟨j,k,g,_,_,f⟩,_⟩:=I.list h';rw[e] at g;cases g;rw[d] at f;injection f with d1 _;have:c=b:=by simpa using congrArg Array.toList d1
 subst this;show r.inj i
theorem Inv.tuple_inj(I:Inv X pins U H s)(h:SqT X.K H a xs)(h':SqT X.K H a ys):xs=ys:=by
 obtain⟨c,r,⟨o,e,_,n,d⟩,_⟩:=I.tuple h;obtain⟨b,i,⟨j,g,_,k,f⟩,_⟩:=I.tuple h';rw[e] at g;cases g;rw[d] at f;injection f with d1 _;have:c=b:=by simpa using congrArg Array.toList d1
 subst this;show r.inj i
end
noncomputable abbrev Cx.wish(X:Cx)(E:Sh->Sk->Prop):Cx:={ X with xe:=E }
abbrev Cx.nox(X:Cx):Cx:=X.wish λ_ _=>False
theorem Cx.Ok.wish{X:Cx}(a:X.Ok)(E:Sh->Sk->Prop):(X.wish E).Ok:=
 ⟨a.mod,a.kind,a.glob,a.blt,a.above,a.inj,a.has,a.cab,a.hd,a.frames,a.stk,a.exf,a.bs,a.bsz,a.noex,a.exfs,a.funs,a.frf⟩
theorem Cx.Ok.unwish{X:Cx}(a:(X.wish E).Ok):X.Ok:=
 ⟨a.mod,a.kind,a.glob,a.blt,a.above,a.inj,a.has,a.cab,a.hd,a.frames,a.stk,a.exf,a.bs,a.bsz,a.noex,a.exfs,a.funs,a.frf⟩
section
variable {X:Cx} {pins:List (Sj×Obj)} {U:St} {H:Hp} {s:Sk} {E:Sh->Sk->Prop}
theorem Inv.wish(I:Inv X pins U H s)(E:Sh->Sk->Prop):Inv (X.wish E) pins U H s:=⟨I.ok.wish E,I.os,I.bare,I.base,I.loc,I.cell,I.free,I.freeC,I.pin,I.hok,I.len⟩
theorem Inv.unwish(I:Inv (X.wish E) pins U H s):Inv X pins U H s:=⟨I.ok.unwish,I.os,I.bare,I.base,I.loc,I.cell,I.free,I.freeC,I.pin,I.hok,I.len⟩
theorem SP.unwish(h:SP (X.wish E) pins D f s'):SP X pins D f s':=by
 cases f with
 |next=>obtain⟨b,a,I,q⟩:=h;show⟨b,a,I.unwish,q⟩
 |brk=>obtain⟨b,a,I,q⟩:=h;show⟨b,a,I.unwish,q⟩
 |cont=>obtain⟨b,a,I,q⟩:=h;show⟨b,a,I.unwish,q⟩
 |ret u=>obtain⟨v,b,a,I,r,q⟩:=h;show⟨v,b,a,I.unwish,r,q⟩
theorem PSs.nox{st:List Su}{t:TS}(h:PSs X.nox st t):PSs X st t:=λa s U H D I b=>
 wpAny_mono (h a s U H D (I.wish _) b) (λ_ _ q=>q.unwish) λ_ _ z=>False.elim z
end
section
variable {X:Cx} {st:Su} {rest:List Su} {t u:TS} {e:Si} {te:TE} {pos:Pos}
def xl:TS:=λD U H=>D.nx U H
def LB(t u:TS):TS:=λD U H=>t { D with nx:=u D } U H
theorem AG:PSs X [] xl:=λ_ _ U H _ I h=>wpAny_execs_nil ⟨U,H,I,h⟩
theorem xm(h1:PS X st t)(h2:PSs X rest u):PSs X (st::rest) (LB t u):=by
 intro a s U H D I h;show wpAny_execs_cons (bd (h1 a s U H { D with nx:=u D } I h) λf s1 q=>?_)
 cases f with
 |next=>
  obtain⟨d,c,b,q⟩:=q;show h2 a s1 d c D b q
 |ret v=>show q
 |brk=>show q
 |cont=>show q
theorem AH(h1:PS X st t):PSs X [st] t:=by
 intro a s U H D I h;show wpAny_execs_cons (bd (h1 a s U H D I h) λf s1 q=>?_)
 cases f with
 |next=>show wpAny_execs_nil q
 |ret v=>show q
 |brk=>show q
 |cont=>show q
theorem AI:PS X (.Pass pos) xl:=λ_ _ U H _ I h=>wpAny_Pass ⟨U,H,I,h⟩
theorem Inv.quiet(I:Inv X pins U H s):interactive X.env=Sf:=by simp[interactive,I.ok.kind]
theorem Em{x j pos pos'}:PS X (.Expr (.Constant (.str x) j pos) pos') xl:=λ_ s U H _ I h=>wpAny_Expr (Calls.Constant_str (⟨U,H,I.tok _,h⟩)) I.quiet
def Ia(te:TE):TS:=λD U H=>te U H λ_ H1=>D.nx U H1
theorem AJ(c:PE X e te)(b:swapsWith e Sd pos.line X.env=pure Sf:=by rfl):PS X (.Expr e pos) (Ia te):=by
 intro a s U H D I h;show wpAny_Expr_any (bd (c a s U H _ I h) λv s1 ⟨x,f,d,g,q1⟩=>⟨U,f,d,q1⟩) I.quiet b
def LC(te:TE):TS:=λD U H=>te U H D.rt
theorem En(b:PE X e te):PS X (.Return (Sb e) pos) (LC te):=by
 intro a s U H D I h;show wpAny_Return_some (bd (b a s U H _ I h) λv s1 ⟨x,f,d,c,q1⟩=>⟨x,U,f,d,c,q1⟩)
def LD(c:TT)(t u:TS):TS:=λD U H=>c U H λb H1=>if b=Se then t D U H1 else u D U H1
theorem C7{c:Si}{a b:List Su}{tc:TT}(l:PT X c tc)(j:PSs X a t)(k:PSs X b u):PS X (.If c a b pos) (LD tc t u):=by
 intro e s U H D I h;show wpAny_If (bd (l e s U H _ I h) λd s1 i=>?_);obtain⟨g,f,q1⟩:=i
 cases d with
 |true=>show j e s1 U g D f q1
 |false=>show k e s1 U g D f q1
end
abbrev TG:=V->St->Hp->(St->Hp->Prop)->Prop
abbrev xn:=List V->St->Hp->(St->Hp->Prop)->Prop
def PG(X:Cx)(q:Si)(t:TG):Prop:=
 ∀(pins:List (Sj×Obj)) (s:Sk) (U:St) (H:Hp) (v:V) (u:Sh) (Q:St->Hp->Prop),Inv X pins U H s->RelV v u->t v U H Q->
  Sq (So X.prog X.w) X.A (assign q X.env u) (λ_ s'=>∃U' H',Inv X pins U' H' s'/\Q U' H') X.xe s
def Eo(X:Cx)(q:List Si)(t:xn):Prop:=
 ∀(pins:List (Sj×Obj)) (s:Sk) (U:St) (H:Hp) (vs:List V) (us:List Sh) (Q:St->Hp->Prop),Inv X pins U H s->Vals vs us->t vs U H Q->
  Sq (So X.prog X.w) X.A (assignInOrder ((SD q X.env).map (·.2)) us) (λ_ s'=>∃U' H',Inv X pins U' H' s'/\Q U' H') X.xe s
abbrev Ep:=V->V->V->Hp->(Hp->Prop)->Prop
def Ib(X:Cx)(t:Ep):Prop:=
 ∀(pins:List (Sj×Obj)) (s:Sk) (U:St) (H:Hp) (o i v:V) (q B u:Sh) (Q:Hp->Prop),Inv X pins U H s->RelV o q->RelV i B->RelV v u->t o i v H Q->
  Sq (So X.prog X.w) X.A (setItem q B u) (λ_ s'=>∃H',Inv X pins U H' s'/\Q H') X.xe s
section
variable {X:Cx} {pos:Pos}
def ik(i:Nat):TG:=λv U H Q=>Q (U.set i (Sb v)) H
theorem t9{i:Nat}(c:X.N.Nodup)(hi:X.N[i]?=Sb x)(b:Ef X.env.scope x)(e:X.fn x=Se\/X.env.scope.names.lookup x=Sb .local:=by first|show .inl rfl|show .inr rfl|assumption):PG X (.Name x pos) (ik i):=by
 intro a s U H v u Q I r h;show wpAny_assign_Name (pp I c hi b r (λf d=>⟨_,H,d,h⟩) e)
def Er:xn:=λvs U H Q=>vs=[]/\Q U H
def xo(t:TG)(u:xn):xn:=λvs U H Q=>∃v r,vs=v::r/\t v U H λU' H'=>u r U' H' Q
theorem ua:Eo X [] Er:=by
 intro a s U H b c Q I r h;obtain⟨e,h⟩:=h;subst e;cases r;show assignInOrder_nil ⟨U,H,I,h⟩
theorem pv{e:Si}{es:List Si}{t:TG}{u:xn}(h1:PG X e t)(h2:Eo X es u)
  (hs:(SD (e::es) X.env).map (·.2)=assign e X.env::(SD es X.env).map (·.2):=by rfl):Eo X (e::es) (xo t u):=by
 intro a s U H j k Q I r h;obtain⟨v,i,e1,h⟩:=h;subst e1
 cases r with
 |cons r b=>
  rw[hs];show assignInOrder_cons (bd (h1 a s U H _ _ _ I r h) λ_ s1 c=>?_);obtain⟨g,f,d,q1⟩:=c;show h2 a s1 g f _ _ Q d b q1
def Ic(K:Om)(n:Nat)(t:xn):TG:=λv U H Q=>∃a xs,v=.ref a/\SqT K H a xs/\xs.length=n/\t xs U H Q
theorem xp(q:X.calm=Se)(h:Eo X es t)(hn:(SD es X.env).length=n:=by rfl)(d:(SD es X.env).findIdx? (·.1)=Sd:=by rfl):PG X (.Tuple es k pos) (Ic X.K n t):=by
 intro c s U H v u Q I r f;obtain⟨a,x,e1,w,hl,f⟩:=f;subst e1;cases r;obtain⟨l,g,m,y⟩:=I.tuple w;show assign_Tuple_tuple (I.ok.hd q) m (by simp[hn,<- hl,g.length]) d λi j=>?_;let p:Inv X c U H { s with heap:=i }:=I.kept λb o e=>j b o (OG (Os e)) e;show h c _ U H x _ Q p (by simpa using g) f
def LF(to ti:TE)(t:Ep):TG:=λv U H Q=>to U H λo H1=>ti U H1 λi H2=>t o i v H2 λq=>Q U q
theorem Es{o i:Si}{to ti:TE}{t:Ep}(p:PE X o to)(hi:PE X i ti)(e:Ib X t)
  (ha:∀v,assign (.Subscript o i pos) X.env v=(do
   let b <- holding [v] (eval o X.env);let d <- holding [v,b] (eval i X.env)
   standAt pos
   holding [v,b,d] (setItem b d v)
   release [v,b,d] []):=by intro _;rfl):PG X (.Subscript o i pos) (LF to ti t):=by
 intro a s U H v u Q I r h;rw[ha];show Sm (SB (bd (p a s U H _ I h) λb s1 c=>?_));obtain⟨x,k,z,q,q1⟩:=c;show Sm (SB (bd (hi a s1 U k _ z q1) λd s2 c=>?_));obtain⟨y,f,j,n,l⟩:=c;show Sm (wpAny_standAt (Sm (SB (bd (e a s2 U f x y v b d u _ j q n r l) λ_ s3 c=>?_))));obtain⟨m,w,g⟩:=c;show wpAny_release ⟨U,m,w,g⟩
def AK(te:TE)(g:TG):TS:=λD U H=>te U H λx H1=>g x U H1 D.nx
theorem rK{tg e:Si}{te:TE}{g:TG}(k:PE X e te)(c:PG X tg g)(b:swapsWithSole [tg] e pos.line X.env=pure Sf:=by rfl)(f:swappedStores [tg] e X.env=pure Sd:=by rfl)
  (h1:(SD [tg] X.env).map (·.2)=[assign tg X.env]:=by rfl):PS X (.Assign [tg] e pos) (AK te g):=by
 intro a s U H D I h;show wpAny_Assign_stores (bd (k a s U H _ I h) λv s1 ⟨x,j,i,d,q1⟩=>?_) b f;rw[h1];show bd (c a s1 U j x v _ i d q1) λ_ s2 q=>q
theorem rL{i:Nat}{x:Str}{e:Si}{te:TE}{pos':Pos}(d:X.N.Nodup)(hi:X.N[i]?=Sb x)(c:Ef X.env.scope x)(l:PE X e te)(b:swapsWith e (Sb (.Name x pos')) pos.line X.env=pure Sf:=by rfl)(m:X.fn x=Se\/X.env.scope.names.lookup x=Sb .local:=by first|show .inl rfl|show .inr rfl|assumption) :
  PS X (.Assign [.Name x pos'] e pos) (AK te (ik i)):=by
 intro a s U H D I h;show wpAny_Assign_Name (bd (l a s U H _ I h) λv s1 ⟨y,k,j,f,q1⟩=>?_) b;show pp j d hi c f (λs2 g=>⟨_,k,g,q1⟩) m
def Et(c:TT)(tb:TS):TS:=λD U H=>∃W:Nat->St->Hp->Prop,(∃m,W m U H)/\∀m U H,W m U H->
 c U H λb H1=>if b=Se then ∃N:St->Hp->Prop,(∀U' H',N U' H'->∃q,q<m/\W q U' H')/\tb { D with nx:=N,ct:=N,bk:=D.nx } U H1 else D.nx U H1
theorem xq{c:Si}{body:List Su}{tc:TT}{tb:TS}(y:PassesOwn (So X.prog X.w) X.A X.env X.xe)(F:PT X c tc)(L:PSs X body tb):PS X (.While c body [] pos) (Et tc tb):=by
 intro a s U H D I h;obtain⟨W,⟨K,E⟩,d⟩:=h;show wpAny_While (codeAny_whileLoop (λn B=>∃z q,Inv X a z q B/\W n z q) ?_ K ⟨U,H,I,E⟩)
 rintro n s1 ⟨k,x,O,M⟩
 show SK y (bd (F a s1 k x _ O (d n k x M)) λb s2 C=>?_);obtain⟨r,u,j⟩:=C
 cases b with
 |true=>
  obtain⟨N,t,j⟩:=j;rw[if_pos rfl];show SK y (bd (L a s2 k r _ u j) λf s3 i=>?_)
  cases f with
  |next=>
   obtain⟨g,e,o,l⟩:=i;obtain⟨m,hm,p⟩:=t g e l;show⟨m,hm,g,e,o,p⟩
  |cont=>
   obtain⟨g,e,o,l⟩:=i;obtain⟨m,hm,p⟩:=t g e l;show⟨m,hm,g,e,o,p⟩
  |brk=>show i
  |ret v=>show i
 |false=>
  rw[if_neg Px];show wpAny_execs_nil ⟨k,r,u,j⟩
end
structure It where
 go:Nat->Hp->Prop
 yld:Nat->Hp->V->Hp->Prop
 stop:Nat->Hp->Prop
def ip(X:Cx)(pins:List (Sj×Obj))(H:Hp)(b:Sj):Prop:=
 H b=Sd/\b≠X.env.locals/\b∉X.fs/\(b∈X.ex\/X.s₀.heap.objs.size<=b)/\(∀x c,X.env.cells.lookup x=Sb c->c≠b)/\∀p∈X.pn++pins,p.1≠b
theorem Inv.fpOk{H H':Hp}{s:Sk}(I:Inv X pins U H s)(a:s.heap.objs.size<=b)(hn:H' b=Sd):ip X pins H' b:=by
 show⟨hn,PB (Ov I.lt a),I.nofs a,.inr (OW I.sz a),λx c e z=>?_,λp d z=>?_⟩
 ·obtain⟨v,q⟩:=I.cell x c e;show absurd (Ov q.lt (by rw[z];show a)) (Pa _)
 ·show absurd (Ov (Os (I.pin p d).1) (by rw[z];show a)) (Pa _)
structure pw(P:Program)(w:World)(K:Om)(tg:Expr)(J:It)(fp:List Addr)(it:Addr)(tn:Nat->Heap->Prop):Prop where
 mem:it∈fp
 obj:∀i h,tn i h->∀b∈fp,∃o,h.get? b=Sb o/\∀v,o.data≠.cell v
 keep:∀i h h',tn i h->(∀b∈fp,∀o,h.get? b=Sb o->h'.get? b=Sb o)->tn i h'
 item:∀(X:Cx),X.prog=P->X.w=w->X.K=K->X.calm=Se->∀(i:Nat) (pins:List (Sj×Obj)) (s:Sk) (U:St) (H:Hp) (E:Sh->Sk->Prop),Inv X pins U H s->(∀b∈fp,ip X pins H b)->tn i s.heap->J.go i H->
  Sq (So P w) X.A (pyNext (.ref it)) (λr s1=>∃u,r=Sb u/\
   Sq (So P w) X.A (letOwnedTupleGo tg (.ref it) u) (λ_ s2=>∃x H',Inv X pins U H' s2/\RelV x u/\J.yld i H x H'/\tn (i+1) s2.heap/\∀b∈fp,H' b=Sd) E s1) E s
 done:∀(X:Cx),X.prog=P->X.w=w->X.K=K->X.calm=Se->∀(i:Nat) (pins:List (Sj×Obj)) (s:Sk) (U:St) (H:Hp) (E:Sh->Sk->Prop),Inv X pins U H s->(∀b∈fp,ip X pins H b)->tn i s.heap->J.stop i H->
  Sq (So P w) X.A (pyNext (.ref it)) (λr s1=>r=Sd/\Inv X pins U H s1) E s
 self:∀(A:Sv) (i:Nat) (s:Sk) (Q:Sh->Sk->Prop) (E:Sh->Sk->Prop),tn i s.heap->Q (.ref it) s->Sq (So P w) A (pyIter (.ref it)) Q E s
abbrev TI:=St->Hp->(It->Hp->Prop)->Prop
def LG(X:Cx)(pins:List (Sj×Obj))(U:St)(tg:Si)(R:It->Hp->Prop)(q:Sh)(s2:Sk):Prop:=
 ∃(it:Sj) (O:List Sj) (B:Nat->Sw->Prop) (J:It) (H':Hp),q=.ref it/\Inv X pins U H' s2/\pw X.prog X.w X.K tg J O it B/\B 0 s2.heap/\(∀b∈O,ip X pins H' b)/\R J H'
def PI(X:Cx)(tg iter:Si)(q:TI):Prop:=
 ∀(pins:List (Sj×Obj)) (s:Sk) (U:St) (H:Hp) (R:It->Hp->Prop),Inv X pins U H s->q U H R->
  Sq (So X.prog X.w) X.A (eval iter X.env) (λv s1=>Sq (So X.prog X.w) X.A (pyIter v) (LG X pins U tg R) X.xe s1) X.xe s
theorem px{s:Sk}{o:Obj}{n:String}{Q:Unit->Sk->Prop}(b:s.heap.get? it=Sb o)(c:o.cls=.type n)(hd:o.data=.fields vs)(hn:["enumerate","zip","dict_itemiterator","dict_reverseitemiterator","odict_iterator","itertools.zip_longest","itertools.pairwise"].contains n=Sf)(a:Q () s):Sq M A (letOwnedTupleGo tg (.ref it) u) Q E s:=by
  unfold letOwnedTupleGo
  cases tg<;>first
    |show Sn a
    |(cases u<;>first
        |show Sn a
        | (show Sm (wpAny_load b ?_)
           rw[c,hd]
           change Sq M A (if(["enumerate","zip","dict_itemiterator","dict_reverseitemiterator","odict_iterator","itertools.zip_longest","itertools.pairwise"].contains n&&vs[0]?==Sb (SM _))=Se then _ else _) Q E s
           rw[if_neg (by intro h;rw[hn,Bool.false_and] at h;cases h)];show Sn a))
noncomputable def HF(K:Om)(a:Sj):It:=
 ⟨λi H=>∃xs x,SqL K H a xs/\xs[i]?=Sb x,λi H x H'=>H'=H/\∀xs,SqL K H a xs->xs[i]?=Sb x,λi H=>∃xs,SqL K H a xs/\xs.length<=i⟩
noncomputable def LH(K:Om)(a:Sj):It:=
 ⟨λi H=>∃xs x,SqT K H a xs/\xs[i]?=Sb x,λi H x H'=>H'=H/\∀xs,SqT K H a xs->xs[i]?=Sb x,λi H=>∃xs,SqT K H a xs/\xs.length<=i⟩
noncomputable def Ie(lo:Int)(n:Nat):It:=⟨λi _=>i<n,λi H x H'=>H'=H/\x=.int (lo+i),λi _=>n<=i⟩
theorem v4{P:Sr}{w:Ss}{K:Om}{tg:Si}(a it:Sj):pw P w K tg (HF K a) [it] it (λi h=>h.IsListIter it a i) where
 mem:=by simp
 obj:=λi h f b j=>by
  let e:b=it:=by simpa using j
  subst e;obtain⟨o,e,c,d⟩:=f;show⟨o,e,λv z=>by rw[d] at z;cases z⟩
 keep:=λi h A f k=>f.at λo e=>k it (by simp) o e
 item:=by
  intro X t F r Q i g s U H E I m f O;subst t F r;obtain⟨V,x,n,B⟩:=O;obtain⟨D,M,p,R⟩:=I.list n;obtain⟨u,hu,T⟩:=M.get B;obtain⟨L,q,f2,N,y,C⟩:=m it (by simp);show wpAny_pyNext_list_item f p.isList (x:=u) (by simpa using hu) λA l S=>?_;let Z:Inv X g U H { s with heap:=A }:=I.turned (λb o j e=>(S.2 b j).trans e) L q N y C;obtain⟨o,e,c,d⟩:=id l;show⟨u,rfl,px e c d (by decide) ⟨x,H,Z,T,⟨rfl,λys W=>by rw[I.list_inj W n];show B⟩,l,λb j=>(m b j).1⟩⟩
 done:=by
  intro X t F r Q i g s U H E I m f O;subst t F r;obtain⟨V,n,B⟩:=O;obtain⟨D,M,p,R⟩:=I.list n;obtain⟨L,q,f2,N,y,C⟩:=m it (by simp);let hl:=M.length;show wpAny_pyNext_list_end (I.ok.hd Q) f p.isList (by simp;lia) λA Y=>⟨rfl,I.turned (λb o j e=>Y b o j e) L q N y C⟩
 self:=λ_ _ _ _ _ f h=>wpAny_pyIter_listiter f h
theorem rO{P:Sr}{w:Ss}{K:Om}{tg:Si}(a it:Sj):pw P w K tg (LH K a) [it] it (λi h=>h.IsTupleIter it a i) where
 mem:=by simp
 obj:=λi h f b j=>by
  let e:b=it:=by simpa using j
  subst e;obtain⟨o,e,c,d⟩:=f;show⟨o,e,λv z=>by rw[d] at z;cases z⟩
 keep:=λi h A f k=>f.at λo e=>k it (by simp) o e
 item:=by
  intro X t F r Q i g s U H E I m f O;subst t F r;obtain⟨V,x,n,B⟩:=O;obtain⟨D,M,p,R⟩:=I.tuple n;obtain⟨u,hu,T⟩:=M.get B;obtain⟨L,q,f2,N,y,C⟩:=m it (by simp);show wpAny_pyNext_tuple_item f (p) (x:=u) (by simpa using hu) λA l S=>?_;let Z:Inv X g U H { s with heap:=A }:=I.turned (λb o j e=>(S.2 b j).trans e) L q N y C;obtain⟨o,e,c,d⟩:=id l;show⟨u,rfl,px e c d (by decide) ⟨x,H,Z,T,⟨rfl,λys W=>by rw[I.tuple_inj W n];show B⟩,l,λb j=>(m b j).1⟩⟩
 done:=by
  intro X t F r Q i g s U H E I m f O;subst t F r;obtain⟨V,n,B⟩:=O;obtain⟨D,M,p,R⟩:=I.tuple n;obtain⟨L,q,f2,N,y,C⟩:=m it (by simp);let hl:=M.length;show wpAny_pyNext_tuple_end (I.ok.hd Q) f (p) (by simp;lia) λA Y=>⟨rfl,I.turned (λb o j e=>Y b o j e) L q N y C⟩
 self:=λ_ _ _ _ _ f h=>wpAny_pyIter_tupleiter f h
theorem rP{P:Sr}{w:Ss}{K:Om}{tg:Si}(it:Sj)(lo:Int)(n:Nat):pw P w K tg (Ie lo n) [it] it (λi h=>IsRangeIter h it (lo+(i:Nat)*1) ((n:Int)-(i:Nat)) 1) where
 mem:=by simp
 obj:=λi h a b d=>by
  let e:b=it:=by simpa using d
  subst e
  show⟨_,a,λv z=>by
   let F:Data.fields _=Data.cell v:=z;cases F⟩
 keep:=λi h r a k=>k it (by simp) _ a
 item:=by
  intro X p x m l i c s U H E I g a B;subst p x m;obtain⟨y,j,f2,A,q,u⟩:=g it (by simp);let W:=Walks.range (prog:=X.prog) (w:=X.w) (I.ok.hd l) it lo 1 n;show W.item i s _ _ B a λv r L D f C=>?_;obtain⟨t,rfl⟩:=D;let N:Inv X c U H { s with heap:=r,toks:=L }:=I.turned (λb o d e=>C b o (by simpa using d) e) y j A q u;show⟨_,rfl,px f rfl rfl (by decide) ⟨.int (lo+i),H,N,⟨t,?_⟩,⟨rfl,rfl⟩,f,λb d=>(g b d).1⟩⟩;rw[Int.mul_one]
 done:=by
  intro X p x m l i c s U H E I g a B;subst p x m;obtain⟨y,j,f2,A,q,u⟩:=g it (by simp);show wpAny_pyNext_range_end (I.ok.hd l) a (by have:n<=i:=B;lia) λr M=>⟨rfl,I.turned (λb o d e=>M b o d e) y j A q u⟩
 self:=λ_ _ _ _ _ a h=>wpAny_pyIter_rangeiter a h
section
variable {X:Cx} {tg:Si}
def Ig(K:Om)(tl:TE):TI:=λU H R=>tl U H λx H1=>∃a,x=.ref a/\(∃xs,SqL K H1 a xs)/\R (HF K a) H1
def LI(K:Om)(tl:TE):TI:=λU H R=>tl U H λx H1=>∃a,x=.ref a/\(∃xs,SqT K H1 a xs)/\R (LH K a) H1
theorem AL{l:Si}{tl:TE}(hl:PE X l tl):PI X tg l (Ig X.K tl):=by
 intro c s U H R I h;show bd (hl c s U H _ I h) λv s1 f=>?_;obtain⟨x,k,d,i,q1⟩:=f;obtain⟨a,e,⟨r,m⟩,q⟩:=q1;subst e;cases i;obtain⟨j,n,p,f⟩:=d.list m;show SN p.isList ?_;show⟨s1.heap.objs.size,[s1.heap.objs.size],_,_,k,rfl,d.kept λb o e=>Oq _ e,v4 a _,⟨_,OJ _ rfl,rfl,rfl⟩,λb g=>?_,q⟩;let e:b=s1.heap.objs.size:=by simpa using g
 subst e;show d.fpOk (Ox _) (d.hok.fresh (Ox _))
theorem Eu{l:Si}{tl:TE}(hl:PE X l tl):PI X tg l (LI X.K tl):=by
 intro c s U H R I h;show bd (hl c s U H _ I h) λv s1 f=>?_;obtain⟨x,k,d,i,q1⟩:=f;obtain⟨a,e,⟨r,m⟩,q⟩:=q1;subst e;cases i;obtain⟨j,n,p,f⟩:=d.tuple m;show wpAny_pyIter_tuple (p) ?_;show⟨s1.heap.objs.size,[s1.heap.objs.size],_,_,k,rfl,d.kept λb o e=>Oq _ e,rO a _,⟨_,OJ _ rfl,rfl,rfl⟩,λb g=>?_,q⟩;let e:b=s1.heap.objs.size:=by simpa using g
 subst e;show d.fpOk (Ox _) (d.hok.fresh (Ox _))
theorem pA{s:Sk}{R:It->Hp->Prop}{lo hi:Int}{tk:Nat}(I:Inv X pins U H s)(h1:-(2^62)<=lo)(h2:lo<2^62)(c:-(2^62)<=hi)(f:hi<2^62)(q:R (Ie lo (hi-lo).toNat) H):Sq (So X.prog X.w) X.A (pyIter (.ref s.heap.objs.size)) (LG X pins U tg R) E { s with heap:=s.heap.push { cls:=.type "range",data:=.fields #[.int lo t,.int hi u,.int 1 v] },toks:=tk }:=by
 show wpAny_pyIter_range (IsRange.new ..) (small_one h1 h2 c f) ?_;let a:Inv X pins U H { s with heap:=s.heap.push { cls:=.type "range",data:=.fields #[.int lo t,.int hi u,.int 1 v] },toks:=tk }:=I.kept λb o e=>Oq _ e
 show⟨(s.heap.push { cls:=.type "range",data:=.fields #[.int lo t,.int hi u,.int 1 v] }).objs.size,[(s.heap.push { cls:=.type "range",data:=.fields #[.int lo t,.int hi u,.int 1 v] }).objs.size],_,_,H,rfl,
  a.kept (t':=tk) λb o e=>Oq _ e,rP _ lo (hi-lo).toNat,?_,λb d=>?_,q⟩
 ·let e1:lo+((0:Nat):Int)*1=lo:=by simp
  let e2:(((hi-lo).toNat:Nat):Int)-((0:Nat):Int)=Builtin.Range.rangeSize lo hi 1:=by rw[rangeSize_one];split<;>lia
  rw[e1,e2];show OJ _ rfl
 ·let e:b=(s.heap.push { cls:=.type "range",data:=.fields #[.int lo t,.int hi u,.int 1 v] }).objs.size:=by simpa using d
  subst e;show a.fpOk (Ox _) (a.hok.fresh (Ox _))
def Ih(ta:TA):TI:=λU H R=>ta U H λvs H1=>∃j:Int,vs=[.int j]/\-(2^62)<=j/\j<2^62/\R (Ie 0 j.toNat) H1
def Ii(ta:TA):TI:=λU H R=>ta U H λvs H1=>∃i j:Int,vs=[.int i,.int j]/\(-(2^62)<=i/\i<2^62/\-(2^62)<=j/\j<2^62)/\R (Ie i (j-i).toNat) H1
theorem mF{a:Si}{ta:TA}{p pos:Pos}(l:Gl X "range")(hm:X.mg "range" = Sd)(f:PA X [a] ta)(c:Sy [a] X.env=[(Sf,eval a X.env)]:=by rfl):PI X tg (.Call (.Name "range" p) [a] [] pos) (Ih ta):=by
 intro b s U H R I h;show Call_ (dJ I l hm boot_range (PyProof.Rows.callWith_type1 (bd (f pos b s U H _ I h) λo s1 ⟨n,m,i,g,q1⟩=>?_) c rfl));obtain⟨j,e,q1,k,q⟩:=q1;subst e
 cases g with
 |cons r d=>
  cases d;obtain⟨t,rfl⟩:=r;show call_range_1 (pA i (by lia) (by lia) q1 k (by simpa using q))
theorem v5{a b:Si}{ta:TA}{p pos:Pos}(w:Gl X "range")(hm:X.mg "range" = Sd)(l:PA X [a,b] ta)(g:Sy [a,b] X.env=[(Sf,eval a X.env),(Sf,eval b X.env)]:=by rfl)(d:Sy [b] X.env=[(Sf,eval b X.env)]:=by rfl) :
  PI X tg (.Call (.Name "range" p) [a,b] [] pos) (Ii ta):=by
 intro c s U H R I h;show Call_ (dJ I w hm boot_range (PyProof.Rows.callWith_type1 (bd (l pos c s U H _ I h) λA s1 ⟨y,x,v,u,q1⟩=>?_) (by rw[g,d]) (by rw[d];rfl)));obtain⟨i,j,e,⟨q1,o,m,n⟩,q⟩:=q1;subst e
 cases u with
 |cons r f=>
  cases f with
  |cons k f=>
   cases f;obtain⟨t,rfl⟩:=r;obtain⟨z,rfl⟩:=k;show call_range_2 (pA v q1 o m n q)
def LJ(B:TI)(g:TG)(tb:TS):TS:=λD U H=>B U H λJ H1=>∃W:Nat->Nat->St->Hp->Prop,(∃m,W 0 m U H1)/\∀i m U H,W i m U H->
 (J.stop i H/\D.nx U H)\/(J.go i H/\∃N:St->Hp->Prop,(∀U' H',N U' H'->∃q,q<m/\W (i+1) q U' H')/\∀x H',J.yld i H x H'->g x U H' λO H2=>tb { D with nx:=N,ct:=N,bk:=D.nx } O H2)
noncomputable def nK(q:List Sj)(h:Sw):List (Sj×Obj):=q.filterMap λb=>(h.get? b).map λo=>(b,o)
theorem bx{a:List Sj}{h:Sw}(c:b∈a)(e:h.get? b=Sb o):(b,o)∈nK a h:=OT.mpr ⟨b,c,by rw[e];rfl⟩
theorem v6{a:List Sj}{h:Sw}{p:Sj×Obj}(f:p∈nK a h):p.1∈a/\h.get? p.1=Sb p.2:=by
 obtain⟨b,c,e⟩:=OT.mp f
 cases q:h.get? b with
 |none=>rw[q] at e;cases e
 |some o=>
  rw[q] at e;let d:(b,o)=p:=Option.some.inj e;subst d;show⟨c,q⟩
theorem Inv.pinned{pins:List (Sj×Obj)}{s:Sk}{a:List Sj}(I:Inv X pins U H s)(k:∀b∈a,ip X pins H b)(g:∀b∈a,∃o,s.heap.get? b=Sb o/\∀v,o.data≠.cell v):Inv X (pins++nK a s.heap) U H s:=
 I.pins_of λp j=>(OQ.mp j).elim (λz=>I.pin p (OB _ z)) λz=>by
  obtain⟨c,e⟩:=v6 z;obtain⟨i,h,f2,_⟩:=k p.1 c;obtain⟨o,f,d⟩:=g p.1 c;rw[e] at f;cases f;show⟨e,i,h,f2,d⟩
theorem Inv.unpinned{pins a:List (Sj×Obj)}(I:Inv X (pins++a) U H s):Inv X pins U H s:=I.pins_of λp b=>I.pin p (OB _ (O5 _ b))
theorem Ev{iter:Si}{body:List Su}{wi:TI}{g:TG}{tb:TS}{pos:Pos}(L:PassesOwn (So X.prog X.w) X.A X.env X.xe)(hc:X.calm=Se)(hi:PI X tg iter wi)(hg:PG X tg g)(j:PSs X body tb)
  (hs:∀x,foldedSetIterable iter X.env x=pure x:=by intro _;rfl):PS X (.For tg iter body [] pos) (LJ wi g tb):=by
 intro a s U H D I h;show wpAny_For (bd (hi a s U H _ I h) λv s1 h1=>bd h1 λhe s2 h2=>?_) hs;obtain⟨it,P,tn,J,H2,e,I2,T,V,f2,W,⟨m0,w0⟩,M⟩:=h2;subst e
 -- what stays Se of the iterator's objects through the loop
 let l:∀{t:Hp},(∀b∈P,t b=Sd)->∀b∈P,ip X a t b:=λhn b j=>⟨hn b j,(f2 b j).2⟩;show codeAny_forLoop_any (λn s'=>∃i K t,Inv X a K t s'/\tn i s'.heap/\(∀b∈P,t b=Sd)/\W i n K t) ?_ m0 ⟨0,U,H2,I2,V,λb j=>(f2 b j).1,w0⟩
 rintro n s3 ⟨i,E,R,I3,F,C,w3⟩
 rcases M i n E R w3 with⟨Q,qn⟩|⟨go,N,hN,B⟩
 ·show SK L (bd (T.done X rfl rfl rfl hc i a s3 E R X.xe I3 (l C) F Q) λr s4 ⟨Z,I4⟩=>?_);subst Z;show wpAny_execs_nil ⟨E,R,I4,qn⟩
 ·show SK L (bd (T.item X rfl rfl rfl hc i a s3 E R X.xe I3 (l C) F go) λr s4 ⟨u,Z,h4⟩=>?_);subst Z;show SK L (bd h4 λ_ s5 S=>?_);obtain⟨x,H5,I5,r5,y5,z,ha⟩:=S;let hd:=I5.pinned (l ha) (T.obj _ _ z);show SK L (bd (hg _ s5 E H5 x u _ hd r5 (B x H5 y5)) λ_ s6 S=>?_);obtain⟨U6,H6,I6,q6⟩:=S;show SK L (bd (j _ s6 U6 H6 _ I6 q6) λf Y y=>?_)
  let k:∀{q:St} {p:Hp},Inv X (a++nK P s5.heap) q p Y->N q p->∃m,m<n/\∃i K t,Inv X a K t Y/\tn i Y.heap/\(∀b∈P,t b=Sd)/\W i m K t:=λ{q p} c O=>by
   obtain⟨m',hm,w7⟩:=hN q p O;show⟨m',hm,i+1,q,p,c.unpinned,T.keep _ _ _ z λb j o e=>(c.pin (b,o) (OB _ (OB _ (bx j e)))).1,λb j=>?_,w7⟩;obtain⟨o,e,d⟩:=T.obj _ _ z b j;show(c.pin (b,o) (OB _ (OB _ (bx j e)))).2.1
  cases f with
  |next=>obtain⟨q,p,c,O⟩:=y;show k c O
  |cont=>obtain⟨q,p,c,O⟩:=y;show k c O
  |brk=>obtain⟨q,p,c,y⟩:=y;show⟨q,p,c.unpinned,y⟩
  |ret v=>obtain⟨x7,q,p,c,r7,y⟩:=y;show⟨x7,q,p,c.unpinned,r7,y⟩
end
abbrev R2:=V->V->Hp->VK->Prop
def jY(X:Cx)(f:Sh->Sh->Sem Sh)(r:R2):Prop:=
 ∀(pins:List (Sj×Obj)) (s:Sk) (U:St) (H:Hp) (x y:V) (v u:Sh) (Q:VK),Inv X pins U H s->RelV x v->RelV y u->r x y H Q->
  Sq (So X.prog X.w) X.A (f v u) (EP X pins U Q) X.xe s
def fB(X:Cx)(f:Sh)(r:List V->Hp->VK->Prop):Prop:=
 ∀(pins:List (Sj×Obj)) (s:Sk) (U:St) (H:Hp) (xs:List V) (us:List Sh) (Q:VK),Inv X pins U H s->Vals xs us->r xs H Q->
  Sq (So X.prog X.w) X.A (call f us) (EP X pins U Q) X.xe s
def LK(X:Cx)(r:V->Hp->(Bool->Hp->Prop)->Prop):Prop:=
 ∀(pins:List (Sj×Obj)) (s:Sk) (U:St) (H:Hp) (x:V) (v:Sh) (Q:Bool->Hp->Prop),Inv X pins U H s->RelV x v->r x H Q->
  Sq (So X.prog X.w) X.A (truthy v) (TP X pins U Q) X.xe s
def KO(r:R2)(ta tb:TE):TE:=λU H Q=>ta U H λx H1=>tb U H1 λy H2=>r x y H2 Q
def rI(C:Int->Int->Prop)(g:Int->Int->V):R2:=λx y H Q=>∃i j,x=.int i/\y=.int j/\C i j/\Q (g i j) H
def AM(g:Int->Int->V):R2:=λx y H Q=>∃i j,x=.int i/\y=.int j/\Q (g i j) H
section
variable {X:Cx} {a b c:Si} {ta tb tc:TE} {pos:Pos}
theorem Ew(g:PE X a ta)(i:PE X b tb){pins:List (Sj×Obj)}{s:Sk}{U:St}{H:Hp}{R:V->V->Hp->Prop}(I:Inv X pins U H s)
  (h:ta U H λx e=>tb U e λy c=>R x y c) {Q:Sh->Sk->Prop} {f:Sh->Sh->Sem Sh}
  (hf:∀v u s2 x y c,Inv X pins U c s2->RelV x v->RelV y u->R x y c->Sq (So X.prog X.w) X.A (f v u) Q X.xe s2) :
  Sq (So X.prog X.w) X.A (eval a X.env) (λv k=>Sq (So X.prog X.w) X.A (eval b X.env) (λu n=>Sq (So X.prog X.w) X.A (f v u) Q X.xe n) X.xe k) X.xe s:=by
 show bd (g pins s U H _ I h) λv s1 d=>?_;obtain⟨x,e,m,j,q1⟩:=d;show bd (i pins s1 U e _ m q1) λu s2 d=>?_;obtain⟨y,c,l,p,o⟩:=d;show hf v u s2 x y c l j p o
theorem C8(d:jY X (binaryOp op) r)(f:PE X a ta)(g:PE X b tb):PE X (.BinOp a op b pos) (KO r ta tb):=by
 intro c s U H Q I h;show wpAny_BinOp (Ew f g I h λv u s2 x y i j k e q=>d c s2 U i x y v u Q j k e q)
theorem HG{f:Sh->Sh->Sem Sh}{C:Int->Int->Prop}{g:Int->Int->Int}
  (rule:∀(i j:Int) (t u:Tok) (s:Sk) (Q:Sh->Sk->Prop) (E:Sh->Sk->Prop),C i j->Q (.int (g i j) s.toks) { s with toks:=s.toks+1 }->Sq (So X.prog X.w) X.A (f (.int i t) (.int j u)) Q E s) :
  jY X f (rI C λi j=>.int (g i j)):=by
 intro a s U H x y v u Q I e b h;obtain⟨i,j,rfl,rfl,d,q⟩:=h;obtain⟨t,rfl⟩:=e;obtain⟨c,rfl⟩:=b;show rule i j t c s _ _ d ⟨.int (g i j),H,I.tok _,⟨_,rfl⟩,q⟩
theorem xr{f:Sh->Sh->Sem Sh}{g:Int->Int->Int}
  (rule:∀(i j:Int) (t u:Tok) (s:Sk) (Q:Sh->Sk->Prop) (E:Sh->Sk->Prop),Q (.int (g i j) s.toks) { s with toks:=s.toks+1 }->Sq (So X.prog X.w) X.A (f (.int i t) (.int j u)) Q E s) :
  jY X f (AM λi j=>.int (g i j)):=by
 intro a s U H x y v u Q I d b h;obtain⟨i,j,rfl,rfl,q⟩:=h;obtain⟨t,rfl⟩:=d;obtain⟨c,rfl⟩:=b;show rule i j t c s _ _ ⟨.int (g i j),H,I.tok _,⟨_,rfl⟩,q⟩
theorem Ij{f:Sh->Sh->Sem Sh}{g:Int->Int->Bool}
  (rule:∀(i j:Int) (t u:Tok) (s:Sk) (Q:Sh->Sk->Prop) (E:Sh->Sk->Prop),Q (.bool (g i j)) s->Sq (So X.prog X.w) X.A (f (.int i t) (.int j u)) Q E s) :
  jY X f (AM λi j=>.bl (g i j)):=by
 intro a s U H x y v u Q I d b h;obtain⟨i,j,rfl,rfl,q⟩:=h;obtain⟨t,rfl⟩:=d;obtain⟨c,rfl⟩:=b;show rule i j t c s _ _ ⟨.bl (g i j),H,I,rfl,q⟩
def LL(i j:Int):Prop:=0<=j/\j<=1000000/\i.natAbs<2^64
theorem rQ(k:Nat):(0:Int)<=2^k:=by
 rw[two_pow_cast];show Int.natCast_nonneg _
theorem Ey:jY X (binaryOp .Add) (AM λi j=>.int (i+j)):=xr λ_ _ _ _ _ _ _ q=>add_int q
theorem Ez:jY X (binaryOp .Sub) (AM λi j=>.int (i-j)):=xr λ_ _ _ _ _ _ _ q=>sub_int q
theorem EA:jY X (binaryOp .Mod) (rI (λ_ j=>0<j) λi j=>.int (i%j)):=HG λi j _ _ _ _ _ a q=>by
 let b:(0:Int)<j:=a;show mod_int' (by lia) (by rw[Int.fmod_eq_emod_of_nonneg i (by lia)];show q)
theorem EB:jY X (binaryOp .Pow) (rI LL λi j=>.int (i^j.toNat)):=HG λ_ _ _ _ _ _ _ a q=>pow_int_small a.1 a.2.1 a.2.2 q
theorem EC:jY X (binaryOp .RShift) (rI (λ_ j=>0<=j) λi j=>.int (i / 2^j.toNat)):=HG λi j _ _ _ _ _ a q=>
 rshift_int a (by rw[QN i (rQ _)];show q)
theorem ED:jY X (binaryOp .BitAnd) (AM λi j=>.int (Builtin.bitAnd i j)):=xr λ_ _ _ _ _ _ _ q=>and_int q
theorem Ik:jY X (binaryOp .BitOr) (AM λi j=>.int (Builtin.bitOr i j)):=xr λ_ _ _ _ _ _ _ q=>or_int q
theorem EE:jY X (binaryOp .BitXor) (AM λi j=>.int (Builtin.bitXor i j)):=xr λ_ _ _ _ _ _ _ q=>xor_int q
theorem Il:jY X (compareOp .Lt) (AM λi j=>.bl (decide (i<j))):=Ij λ_ _ _ _ _ _ _ q=>lt_int q
theorem Im:jY X (compareOp .Gt) (AM λi j=>.bl (decide (j<i))):=Ij λ_ _ _ _ _ _ _ q=>gt_int q
theorem ub{op:SI}{r:R2}(d:jY X (compareOp op) r)(f:PE X a ta)(g:PE X b tb)(hm:SH op b=Sf):PE X (.Compare a [op] [b] pos) (KO r ta tb):=by
 intro c s U H Q I h;show wpAny_Compare1 (Ew f g I h λv u s2 x y i j k e q=>d c s2 U i x y v u Q j k e q) hm
def Io(t:TE):TT:=λU H Q=>t U H λx H'=>∃k,x=.bl k/\Q k H'
theorem uc{op:SI}(f:jY X (compareOp op) r)(g:PE X a ta)(i:PE X b tb)(hm:SH op b=Sf):PT X (.Compare a [op] [b] pos) (Io (KO r ta tb)):=by
 intro d s U H Q I h
 show wpAny_isTrue_Compare1 (bd (g d s U H _ I h) λv s1 ⟨x,q,p,l,q1⟩=>bd (i d s1 U q _ p q1) λu s2 ⟨y,j,o,B,A⟩=>
  bd (f d s2 U j x y v u _ o l B A) λc s3 ⟨z,t,n,w,k,e,m⟩=>?_) hm
 subst e;cases w;show SL ⟨t,n,m⟩
def AN(K:Om)(x:V)(H:Hp)(k:Bool):Prop:=
 match x with
 |.bl b=>k=b
 |_=>False
theorem kN:(sizeLine:Nat)<2^63:=by rw[sizeLine_eq];decide
theorem xt:LK X (λx H Q=>∃k,AN X.K x H k/\Q k H):=by
 intro a s U H x v Q I d h;obtain⟨k,e,q⟩:=h
 cases x with
 |bl b=>
  cases d;let c:k=b:=e;subst c;show SL ⟨H,I,q⟩
 |_=>show e.elim
theorem xu(e:PE X a ta)(j:∀b,isTrue a X.env b=(do let v <- b;standAt a.pos;holding [v] (truthy v))) :
  PT X a (λU H Q=>ta U H λx d=>∃k,AN X.K x d k/\Q k d):=by
 intro c s U H Q I h;show isTrue_plain (bd (e c s U H _ I h) λv s1 ⟨x,i,g,f,q1⟩=>xt c s1 U i x v Q g f q1) (j _)
theorem rR:jY X (binaryOp .Add) (λx y H Q=>∃i j,x=.str i/\y=.str j/\i.length+j.length<=sizeLine/\Q (.str (i++j)) H):=by
 intro a s U H x y v u Q I e b h;obtain⟨i,j,rfl,rfl,c,q⟩:=h;obtain⟨t,rfl⟩:=e;obtain⟨d,rfl⟩:=b;show add_str (λd f=>⟨.str (i++j),H,I.tok _,⟨_,rfl⟩,q⟩) c
theorem kO{x:V}(r:Vals [x] us):∃u,us=[u]/\RelV x u:=by
 cases r with
 |cons a b=>cases b;show⟨_,rfl,a⟩
theorem xv(r:Vals [x,y] us):∃u a,us=[u,a]/\RelV x u/\RelV y a:=by
 cases r with
 |cons c e=>
  cases e with
  |cons d b=>cases b;show⟨_,_,rfl,c,d⟩
theorem v7(c:X.calm=Se):fB X (.builtin "max") (λxs H Q=>∃i j,xs=[.int i,.int j]/\Q (.int (if j > i then j else i)) H):=by
 intro b s U H xs g Q I r h;obtain⟨i,j,rfl,q⟩:=h;obtain⟨u,e,rfl,⟨t,rfl⟩,⟨f,rfl⟩⟩:=xv r;show max_two_ints (I.ok.hd c) λd l k=>⟨_,H,I.kept k,?_,q⟩;by_cases a:j > i
 ·rw[if_pos a,if_pos a];show⟨_,rfl⟩
 ·rw[if_neg a,if_neg a];show⟨_,rfl⟩
theorem v8(c:X.calm=Se):fB X (.builtin "min") (λxs H Q=>∃i j,xs=[.int i,.int j]/\Q (.int (if j<i then j else i)) H):=by
 intro b s U H xs g Q I r h;obtain⟨i,j,rfl,q⟩:=h;obtain⟨u,e,rfl,⟨t,rfl⟩,⟨f,rfl⟩⟩:=xv r;show min_two_ints (I.ok.hd c) λd l k=>⟨_,H,I.kept k,?_,q⟩;by_cases a:j<i
 ·rw[if_pos a,if_pos a];show⟨_,rfl⟩
 ·rw[if_neg a,if_neg a];show⟨_,rfl⟩
end
structure ObjM(h:Heap)(x dx C:Addr)(mA:Str->Option Value):Prop where
 obj:h.get? x=Sb (Pz C dx)
 ns:h.Ns1 dx mA
 ne:dx≠x
theorem v9{h:Sw}{mA:Str->Option Sh}(n:h.Ns1 dx mA):∃od,h.get? dx=Sb od/\∀name,Ri name od=Sb (mA name):=by
 obtain⟨o,c,j,d,g,hk,_,hm⟩:=n;show⟨o,d,λname=>?_⟩;let e:=hm name;unfold nsFind findBy at e;rw[<- Array.find?_toList] at e;unfold Ri;rw[g];dsimp only;split
 ·ext y q;rw[q] at e;show congrArg Sb e
 ·ext q;rw[q] at e
  let a:c.toList.any (·.refKey)=Sf:=by
   rw[RR];intro y f;obtain⟨z,t,b⟩:=hk y (Array.mem_toList_iff.mp f);simp[DictEntry.refKey,b]
  let i:¬c.toList.any (·.refKey)=Se:=by rw[a];show Px
  rw[if_neg i];show congrArg Sb e
theorem ObjM.look{mA:Str->Option Sh}(I:ObjM h x dx C mA):∃od,PySem.W.InstAt h x (Pz C dx) C (Sb od)/\∀name,Ri name od=Sb (mA name):=
 let ⟨od,ho,hl⟩:=v9 I.ns
 ⟨od,⟨I.obj,rfl,rfl,ho⟩,hl⟩
section
variable {prog:Sr} {w:Ss} {A:Sv} {E:Sh->Sk->Prop} {s:Sk} {K:Om} {x dx C f:Sj} {mA:Str->Option Sh} {name:Str} {v:Sh}
theorem AO{Q:Sh->Sk->Prop}(X:K.In s.heap)(I:ObjM s.heap x dx C mA)(d:QU K C name=Se)(c:QP K C=Se)(b:PF K (.ref C) name=Sb Sd)(e:mA name=Sb v)(a:RX v=Se)(h:Q v { s with toks:=s.toks+1 }) :
  Sq (So prog w) A (getAttr (.ref x) name expr) Q E s:=by
 obtain⟨f,J,hl⟩:=I.look;show PySem.W.get_value X J (PySem.W.plainGet_of d).1 (PySem.W.findObj_own c b rfl (by rw[hl,e])) a h
theorem AQ{j:List Str}{Q:Unit->Sk->Prop}(X:K.In s.heap)(I:ObjM s.heap x dx C mA)
  (hs:PF K (.ref C) "__setattr__" = Sb (Sb (.builtin "object.__setattr__"))) (hp:RS K C=Se) (ht:Q7 K C name=Sb Sd) (hh:QP K C=Se)
  (hw:PySem.Within mA j) (hsz:j.length<=sizeLine)
  (h:∀d,ObjM d x dx C (λy=>if y=name then Sb v else mA y)->Heap.SameBut dx s.heap d->Q () { s with heap:=d,toks:=s.toks+2 }) :
  Sq (So prog w) A (setAttr (.ref x) name v) Q E s:=by
 obtain⟨o,J,hl⟩:=I.look;show PySem.W.set_plain X J hs (PySem.W.osa_open (r:=Sd) X J hp ht λb=>?_);obtain⟨q,m,g⟩:=PySem.W.any_some hh;let k:s.heap.get? x=Sb ⟨.ref C,Sb dx,.plain,#[]⟩:=I.obj;show Sm (Sn (Sm (Sm (wpAny_loadPart k (Sm (PySem.W.Looks.here (PySem.W.looks_clsIn X m) ?_))))));rw[g];show Sn (Sm (Sn (Sm ?_)));show wpAny_nsSet1 I.ns λd c a=>?_;obtain⟨p,l,n,e,i,f⟩:=c.count (PySem.Within.cons name v hw);show Sm (wpAny_lookBehind e (by rw[i];show pastItsLine_dict (OW f (by rw[OM];lia))) ?_);show Sn (h _ ⟨(a.2 _ (Ne.symm I.ne)).trans I.obj,c,I.ne⟩ a)
theorem xw(X:K.In s.heap)(hm:R9 K C=Se)(hi:PF K (.ref C) "__init__" = Sb (Sb (.ref f)))(b:PySem.W.typeIn K (.ref f)=Sb (.type "function"))(h:codeAny (So prog w) (A.under (.builtin "type.__call__" ⟨.ref C::vs,kw⟩)) (.call (.ref f) ⟨.ref (s.heap.objs.size+1)::vs,kw⟩) (PySem.W.InitBack (s.heap.objs.size+1) R)
   { s with heap:=(s.heap.push Po).push (Pz C s.heap.objs.size) }) :
  codeAny (So prog w) A (.call (.ref C) ⟨vs,kw⟩) R s:=by
 obtain⟨e,g,d,t,c⟩:=s;show PySem.W.make_core (PySem.W.makes_of X hm) (PySem.W.looks_findIn X hi) (λa=>PySem.W.bind_fn X a b) (.inl rfl) h
end
noncomputable def putF(f:Str)(v:V):List (Str×V)->List (Str×V)
 |[]=>[(f,v)]
 |(g,x)::r=>if g=f then(g,v)::r else(g,x)::putF f v r
theorem jE(f g:Str)(v:V):∀fs:List (Str×V),(putF f v fs).lookup g=if g=f then Sb v else fs.lookup g
 |[]=>by
  change PK g [(f,v)]=_;by_cases h:g=f
  ·let a:(g==f)=Se:=beq_iff_eq.mpr h;simp only[PK,a,if_pos h]
  ·let a:(g==f)=Sf:=beq_eq_false_iff_ne.mpr h;simp only[PK,a,if_neg h]
 |(k,x)::r=>by
  let b:=jE f g v r
  rw[show putF f v ((k,x)::r)=(if k=f then(k,v)::r else(k,x)::putF f v r) from rfl]
  by_cases hk:k=f
  ·rw[if_pos hk];by_cases h:g=k
   ·let a:(g==k)=Se:=beq_iff_eq.mpr h;simp only[PK,a,if_pos (h.trans hk)]
   ·let a:(g==k)=Sf:=beq_eq_false_iff_ne.mpr h;simp only[PK,a,if_neg (λe:g=f=>h (e.trans hk.symm))]
  ·rw[if_neg hk];by_cases h:g=k
   ·let a:(g==k)=Se:=beq_iff_eq.mpr h;simp only[PK,a,if_neg (λe:g=f=>hk (h.symm.trans e))]
   ·let a:(g==k)=Sf:=beq_eq_false_iff_ne.mpr h;simp only[PK,a];show b
theorem ja(f:Str)(v:V):∀fs:List (Str×V),f∈(putF f v fs).map (·.1)/\∀g,g∈fs.map (·.1)->g∈(putF f v fs).map (·.1)
 |[]=>⟨by simp[putF],λg h=>by simp at h⟩
 |(k,x)::r=>by
  obtain⟨a,b⟩:=ja f v r
  rw[show putF f v ((k,x)::r)=(if k=f then(k,v)::r else(k,x)::putF f v r) from rfl]
  by_cases hk:k=f
  ·rw[if_pos hk];subst hk;show⟨by simp,λg h=>by simpa using h⟩
  ·rw[if_neg hk];show⟨?_,λg h=>?_⟩
   ·rw[OI];show OH _ a
   ·rw[OI] at h⊢;rcases OD.mp h with e|e
    ·show OD.mpr (.inl e)
    ·show OH _ (b g e)
theorem jF(f:Str)(v:V):∀fs:List (Str×V),(putF f v fs).length<=fs.length+1
 |[]=>by simp[putF]
 |(k,x)::r=>by
  let a:=jF f v r
  rw[show putF f v ((k,x)::r)=(if k=f then(k,v)::r else(k,x)::putF f v r) from rfl]
  by_cases hk:k=f
  ·rw[if_pos hk,OM,OM];lia
  ·rw[if_neg hk,OM,OM];lia
theorem RelO.some_of(r:RelO (Sb v) o):∃u,o=Sb u/\RelV v u:=by
 cases o with
 |none=>show(r).elim
 |some u=>show⟨u,rfl,r⟩
theorem wa(r:RelV v u):RX u=Se:=by
 cases v with
 |non=>cases(r);rfl
 |bl b=>cases(r);rfl
 |int i=>obtain⟨t,e⟩:=(r);cases e;rfl
 |str x=>obtain⟨t,e⟩:=(r);cases e;rfl
 |byt b=>obtain⟨t,e⟩:=(r);cases e;rfl
 |flt b=>obtain⟨t,e⟩:=(r);cases e;rfl
 |ref a=>cases(r);rfl
 |ty n=>cases(r);rfl
section
variable {P:Sr} {w:Ss} {H H':Hp} {h h':Sw} {a C dx:Sj} {fs fs':List (Str×V)}
theorem ud(b:HOk P w H h)(e:H a=Sb (.ins C dx fs)):∃mA,ObjM h a dx C mA/\(∀f,RelO (fs.lookup f) (mA f))/\PySem.Within mA (fs.map (·.1))/\fs.length<=1000/\H dx=Sb (.own a):=by
 obtain⟨d,z,g,c,mA,n,r,q⟩:=(b a _ e);show⟨mA,⟨c,n,g⟩,r,q,z,d⟩
end
structure Cls(K:Om)(C:Addr):Prop where
 pg:QU K C Str.empty=Se
 hd:QP K C=Se
 po:RS K C=Se
 sa:PF K (.ref C) "__setattr__" = Sb (Sb (.builtin "object.__setattr__"))
theorem Cls.get{K:Om}{C:Sj}(c:Cls K C)(f:Str):QU K C f=Se:=c.pg
def NoAttr(K:Om)(C:Sj)(f:Str):Prop:=PF K (.ref C) f=Sb Sd
theorem NoAttr.taker{K:Om}{C:Sj}{f:Str}(n:NoAttr K C f):Q7 K C f=Sb Sd:=by
 unfold Q7;rw[show PF K (.ref C) f=Sb Sd from n];rfl
section
variable {X:Cx} {pins:List (Sj×Obj)} {U:St} {H:Hp} {s:Sk} {a C dx:Sj} {fs:List (Str×V)} {f:Str} {v:V} {A:Sv} {E:Sh->Sk->Prop}
theorem rS{Q:Sh->Sk->Prop}(I:Inv X pins U H s)(e:H a=Sb (.ins C dx fs))(c:Cls X.K C)(n:NoAttr X.K C f)(l:fs.lookup f=Sb v)(h:∀u s',Inv X pins U H s'->RelV v u->Q u s'):Sq (So X.prog X.w) A (getAttr (.ref a) f b) Q E s:=by
 obtain⟨g,O,r,_,_,_⟩:=ud I.hok e;obtain⟨u,i,d⟩:=RelO.some_of (v:=v) (o:=g f) (by rw[<- l];show r f);show AO I.kIn O (c.get f) c.hd n i (wa d) (h u _ (I.tok _) d)
theorem rT{Q:Unit->Sk->Prop}(I:Inv X pins U H s)(e:H a=Sb (.ins C dx fs))(c:Cls X.K C)(n:NoAttr X.K C f)(hl:fs.length<1000)(l:RelV y u)(h:∀s',Inv X pins U (upd H a (.ins C dx (putF f y fs))) s'->Q () s'):Sq (So X.prog X.w) A (setAttr (.ref a) f u) Q E s:=by
 obtain⟨k,O,r,j,_,i⟩:=ud I.hok e;let p:(fs.map (·.1)).length<=sizeLine:=by rw[On,sizeLine_eq];lia
 show AQ I.kIn O c.sa c.po n.taker c.hd j p λm d B=>h _ ?_;let t:∃o,m.get? dx=Sb o:=let ⟨o,_,_,e',_⟩:=d.ns;⟨o,e'⟩;show I.write (x:=a) (e:=dx) (by rw[e];show True.intro) (.inr i) (λb q v z=>(B.2 b v).trans z) t ?_;show⟨by rw[ac O.ne];show i,?_,O.ne,d.obj,_,d.ns,λg=>?_,λg D=>?_⟩
 ·have:=jF f y fs;lia
 ·change RelO ((putF f y fs).lookup g) (if g=f then Sb u else k g)
  rw[jE];by_cases q:g=f
  ·rw[if_pos q,if_pos q];show l
  ·rw[if_neg q,if_neg q];show r g
 ·by_cases q:g=f
  ·rw[q];show(ja f y fs).1
  ·show(ja f y fs).2 g (j g λz=>D ?_)
   change(if g=f then Sb u else k g)=Sd
   rw[if_neg q];show z
theorem Inv.made(I:Inv X pins U H s):Inv X pins U (upd (upd H s.heap.objs.size (.own (s.heap.objs.size+1))) (s.heap.objs.size+1) (.ins C s.heap.objs.size []))
  { s with heap:=(s.heap.push Po).push (Pz C s.heap.objs.size) }:=by
 let e1:(s.heap.push Po).get? s.heap.objs.size=Sb Po:=OJ s.heap rfl
 let e2:((s.heap.push Po).push (Pz C s.heap.objs.size)).get? (s.heap.objs.size+1)=Sb (Pz C s.heap.objs.size):=by
  have:=OJ (s.heap.push Po) (o:=Pz C s.heap.objs.size) rfl;rwa [Pn] at this
 let e3:(s.heap.push Po).Ns s.heap.objs.size (λ_=>Sd):=⟨Po,#[],_,e1,rfl,(λe d=>absurd d (by simp)),λ_=>rfl⟩;let f:=I.laid (o:=.own (s.heap.objs.size+1)) (t':=s.toks) (λb u q=>Oq _ q) (Ox _) ⟨_,e1⟩;show f.laid (λb u q=>Oq _ q) (QV (Pn _ _)) ?_;let a:s.heap.objs.size≠s.heap.objs.size+1:=OG (Pv _);show⟨by rw[ac a,ah],OS _,a,e2,λ_=>Sd,(Heap.Ns1.of_empty e3).at λo q=>Oq _ q,λ_=>True.intro,λy c=>absurd rfl c⟩
theorem AR(a:attributeBase e f env (eval e env)=eval e env)(h:Sq (So prog w) A (eval e env) (λo b=>Sq (So prog w) A (getAttr o f Se) Q E b) E s):Sq (So prog w) A (eval (.Attribute e f pos) env) Q E s:=
 Attribute_any_ h (by rw[arm_eval_Attribute,a])
end
def LM(K:Om)(ta:TE)(f:Str):TE:=λU H Q=>ta U H λx H1=>∃a C dx fs v,x=.ref a/\H1 a=Sb (.ins C dx fs)/\Cls K C/\NoAttr K C f/\fs.lookup f=Sb v/\Q v H1
def LN(K:Om)(ta tv:TE)(f:Str):TS:=λD U H=>tv U H λy H1=>ta U H1 λx H2=>∃a C dx fs,x=.ref a/\H2 a=Sb (.ins C dx fs)/\Cls K C/\NoAttr K C f/\fs.length<1000/\
 D.nx U (upd H2 a (.ins C dx (putF f y fs)))
section
variable {X:Cx} {o e value:Si} {f:Str} {pos pos' tpos:Pos} {ta tv:TE}
theorem xx(p:PE X e ta)(g:attributeBase e f X.env (eval e X.env)=eval e X.env):PE X (.Attribute e f pos) (LM X.K ta f):=by
 intro b s U H Q I h;show AR g (bd (p b s U H _ I h) λu s1 d=>?_);obtain⟨x,k,j,t,a,C,w,z,v,o,r,c,n,l,q⟩:=d;subst o;obtain rfl:u=Value.ref a:=t;show rS j r c n l λy s2 i m=>⟨v,k,i,m,q⟩
theorem EF(i:PE X o ta)(k:PE X value tv)(e:swapsWith value (Sb (.Attribute o f pos')) pos.line X.env=pure Sf):PS X (.Assign [.Attribute o f pos'] value pos) (LN X.K ta tv f):=by
 intro b s U H D I h;show plainObj_wpAny_Assign_Attribute (bd (k b s U H _ I h) λu s1 ⟨y,r,p,d,q⟩=>bd (i b s1 U r _ p q) λg s2 ⟨x,A,m,z,a,C,B,E,t,v,c,n,l,w⟩=>?_) e;subst t;obtain rfl:g=Value.ref a:=z;show rT m v c n l d λs3 j=>⟨U,_,j,w⟩
end
section
variable {X:Cx} {pins:List (Sj×Obj)} {U:St} {H:Hp} {s:Sk} {A:Sv} {E:Sh->Sk->Prop} {Q:Sh->Sk->Prop} {c:Sh} {b:Bool}
inductive rU (K:Om) (H:Hp):V->Value->Prop where
 |bl (x:Bool):rU K H (.bl x) (.type "bool")
 |int (i:Int):rU K H (.int i) (.type "int")
 |lst {a:Sj} {xs:List V} (e:H a=Sb (.lst xs)):rU K H (.ref a) (.type "list")
 |tup {a:Sj} {xs:List V} (e:H a=Sb (.tup xs)):rU K H (.ref a) (.type "tuple")
theorem wb(I:Inv X pins U H s)(d:RelV x u)(ty:rU X.K H x t)(e:PP X.K t c=Sb b)(h:∀tk,Q (.bool b) { s with toks:=tk }) :
  Sq (So X.prog X.w) A (call (.builtin "isinstance") [u,c]) Q E s:=by
 cases ty with
 |bl y=>cases(d);show QA PySem.W.kitx_bool I.kIn True.intro e (λz=>nomatch z) h
 |int i=>obtain⟨t,q⟩:=(d);cases q;show QA PySem.W.kitx_int I.kIn True.intro e (λz=>nomatch z) h
 |@lst a k f=>
  cases(d);obtain⟨_,_,n,_,g⟩:=(I.hok a _ f)
  show QA PySem.W.kitx_list I.kIn ⟨_,g,rfl⟩ e (λz=>nomatch z) h
 |@tup a k f=>
  cases(d);obtain⟨_,_,_,p⟩:=(I.hok a _ f);obtain⟨o,g,j,_⟩:=p
  show QA PySem.W.kitx_tuple I.kIn ⟨o,g,j⟩ e (λz=>nomatch z) h
end
structure Room(k:Nat)(A:Around):Prop where
 hd:A.handled=Sd
 dp:A.depth+3*k+5<recursionLimit
 un:A.units+16*k+200<cLine
 gd:A.guards=Sb []
theorem Room.mono{j k:Nat}(r:Room k A)(h:j<=k):Room j A:=⟨r.hd,by have:=r.dp;lia,by have:=r.un;lia,r.gd⟩
theorem Room.deeper{k:Nat}{A:Sv}(r:Room (k+1) A)(a:Env):Room k (A.deeper a):=
 ⟨r.hd,by have:=r.dp;change A.depth+1+3*k+5<_;lia,by have:=r.un;change A.units+3+16*k+200<_;lia,r.gd⟩
theorem rV{A:Sv}:(A.under (.builtin "type.__call__" ⟨.ref C::us,kw⟩)).depth=A.depth+1:=by
 first|rfl|simp[Around.under,Code.weight,Code.isCreation,Code.isGuard,Code.isCaller,Code.frames,Code.isFrame,guardIds]
theorem rW{A:Sv}:(A.under (.builtin "type.__call__" ⟨.ref C::us,kw⟩)).units=A.units+1:=by
 first|rfl|simp[Around.under,Code.cUnits,Code.frames,Code.isFrame]
theorem pB{A:Sv}:(A.under (.builtin "type.__call__" ⟨.ref C::us,kw⟩)).guards=A.guards:=by
 first|rfl|simp[Around.under,Code.weight,Code.isCreation,Code.isGuard,Code.isCaller,Code.frames,Code.isFrame,guardIds]
theorem Room.make{k:Nat}{A:Sv}(r:Room (k+1) A)(C:Sj)(us:List Sh)(a:List (Str×Sh)):Room k (A.under (.builtin "type.__call__" ⟨.ref C::us,a⟩)):=
 ⟨r.hd,by have:=r.dp;rw[rV];lia,by have:=r.un;rw[rW];lia,by rw[pB];show r.gd⟩
theorem Room.depth{A:Sv}(r:Room k A):A.depth<recursionLimit:=by have:=r.dp;lia
def AS:TA:=λ_ H Q=>Q [] H
def Ip(ta:TE)(tr:TA):TA:=λU H Q=>ta U H λx H1=>tr U H1 λxs H2=>Q (x::xs) H2
section
variable {X:Cx} {e:Si} {es:List Si} {te:TE} {t:TA} {pos:Pos}
theorem dL:PA X [] AS:=λ_ _ _ _ H Q I h=>Calls.spliced_nil ⟨[],H,I,.nil,h⟩
theorem bu(f:PE X e te)(k:PA X es t)(c:Sy (e::es) X.env=(Sf,eval e X.env)::Sy es X.env:=by rfl):PA X (e::es) (Ip te t):=by
 intro b a s U H Q I h;rw[c];show Calls.spliced_cons (bd (f a s U H _ I h) λu s1 d=>?_);obtain⟨x,m,l,i,q1⟩:=d;show bd (k b a s1 U m _ l q1) λq s2 ⟨p,g,j,n,o⟩=>⟨x::p,g,j,.cons i n,o⟩
def LO(t:TA):TE:=λU H Q=>t U H λxs H1=>xs.length<=sizeLine/\∀p,H1 p=Sd->Q (.ref p) (upd H1 p (.tup xs))
def LP(t:TA):TE:=λU H Q=>t U H λxs H1=>xs.length<=sizeLine/\∀p,H1 p=Sd->Q (.ref p) (upd H1 p (.lst xs))
theorem nM{g}(h:PA X es t):PE X (.Tuple es g pos) (LO t):=by
 intro a s U H Q I j;show wpAny_Tuple_spliced (bd (h pos a s U H _ I j) λf s1 ⟨k,d,c,r,z,q⟩=>⟨by rw[<- r.length];show z,?_⟩);let i:d s1.heap.objs.size=Sd:=c.hok.fresh (Ox _);show⟨.ref s1.heap.objs.size,upd d s1.heap.objs.size (.tup k),c.laid (λb u e=>Oq _ e) (Ox _) ?_,rfl,q _ i⟩;show⟨z,f,r,⟨_,OJ _ rfl,rfl,_,rfl⟩⟩
theorem EG(h:PA X es t):PE X (.List es pos) (LP t):=by
 intro a s U H Q I i;show wpAny_List_spliced (bd (h pos a s U H _ I i) λf s1 ⟨j,d,c,r,z,q⟩=>⟨by rw[<- r.length];show z,?_⟩);let g:d s1.heap.objs.size=Sd:=c.hok.fresh (Ox _);show⟨.ref s1.heap.objs.size,upd d s1.heap.objs.size (.lst j),c.laid (λb u e=>Oq _ e) (Ox _) ?_,rfl,q _ g⟩;show⟨z,f,0,r,OJ _ rfl⟩
end
abbrev Sp:=List V->Hp->VK->XK->Prop
abbrev wc:=List Env->Hp->Sk->XK->Sh->Sk->Prop
structure Env0(P:Program)(w:World)(K:Om)(mg:Str->Option Value)(base:Heap)(A:Around)(outer:List Env)(s:Shared)(H:Hp):Prop where
 frames:A.frames=Sb outer
 mod:Mod K mg base
 bs:∀b o,base.get? b=Sb o->s.heap.get? b=Sb o/\H b=Sd
 bsz:base.objs.size<=s.heap.objs.size
 funs:s.heap.FunFrames base outer
 frf:∀b∈xg outer,H b=Sd
 hok:HOk P w H s.heap
 bare:AllBare s.gens
def CE(outer:List Env)(P:Sr)(w:Ss)(H:Hp)(s:Sk)(Q:VK)(u:Sh)(s':Sk):Prop:=
 ∃v H',s'.os=s.os/\AllBare s'.gens/\Un (xg outer) [] H H' s.heap s'.heap/\HOk P w H' s'.heap/\RelV v u/\Q v H'
def CR(CX:wc)(outer:List Env)(P:Sr)(w:Ss)(H:Hp)(s:Sk)(Q:VK)(E:XK)(r:Result)(s':Sk):Prop:=
 match r with
 |.ok (.ret u)=>CE outer P w H s Q u s'
 |.ok _=>False
 |.error e=>CX outer H s E e s'
structure FnOk(P:Program)(w:World)(K:Om)(mg:Str->Option Value)(base:Heap)(CX:wc)(k:Nat)(f:Addr)(fd:FuncData)(ps:List Str)(sp:Sp):Prop where
 len:∀vs H Q E,sp vs H Q E->vs.length=ps.length
 run:∀(A:Sv) (outer:List Env) (s:Sk) (H:Hp) (args:Args) (us:List Sh) (vs:List V) (Q:VK) (E:XK),Room k A->Env0 P w K mg base A outer s H->BindsTo s fd args (ps.zip us)->Vals vs us->sp vs H Q E->
  codeAny (So P w) A (.call (.ref f) args) (CR CX outer P w H s Q E) s
theorem FnOk.mono{P:Sr}{w:Ss}{K:Om}{mg:Str->Option Sh}{base:Sw}{CX:wc}{j k:Nat}{f:Sj}{fd:SG}{ps:List Str}{sp:Sp}(F:FnOk P w K mg base CX j f fd ps sp)(h:j<=k) :
  FnOk P w K mg base CX k f fd ps sp:=⟨F.len,λA a s H b c e Q E d=>F.run A a s H b c e Q E (d.mono h)⟩
theorem FnOk.imp{P:Sr}{w:Ss}{K:Om}{mg:Str->Option Sh}{base:Sw}{CX:wc}{k:Nat}{f:Sj}{fd:SG}{ps:List Str}{sp c:Sp}(F:FnOk P w K mg base CX k f fd ps sp)
  (h:∀b H Q E,c b H Q E->sp b H Q E):FnOk P w K mg base CX k f fd ps c:=
 ⟨λb H Q E q=>F.len b H Q E (h _ _ _ _ q),λA a s H d i b Q E l m g j e=>F.run A a s H d i b Q E l m g j (h _ _ _ _ e)⟩
theorem Env0.make{P:Sr}{w:Ss}{K:Om}{mg:Str->Option Sh}{base:Sw}{A:Sv}{outer:List Env}{s:Sk}{H:Hp}(e:Env0 P w K mg base A outer s H)(C:Sj)(us:List Sh)(a:List (Str×Sh)) :
  Env0 P w K mg base (A.under (.builtin "type.__call__" ⟨.ref C::us,a⟩)) outer s H:=⟨by first|show e.frames|(simpa[Around.under,Code.envs,Code.isFrame,pushEnvs] using e.frames),e.mod,e.bs,e.bsz,e.funs,e.frf,e.hok,e.bare⟩
section
variable {X:Cx} {pins:List (Sj×Obj)} {U:St} {H:Hp} {s s':Sk}
theorem Inv.env0(I:Inv X pins U H s):Env0 X.prog X.w X.K X.mg X.base X.A X.stack s H:=
 ⟨I.ok.frames,I.ok.mod,I.bs,OW I.ok.bsz I.sz,I.stack,I.stkFree,I.hok,I.bare⟩
theorem Inv.after(I:Inv X pins U H s)(h:CE X.stack X.prog X.w H s Q u s'):EP X pins U Q u s':=by
 obtain⟨v,f,i,a,k,e,r,q⟩:=h;obtain⟨j,g,d,t,c⟩:=s';obtain rfl:c=s.os:=i;show⟨v,f,I.call (h':=j) (g':=g) (d':=d) (t':=t) (ch:=[]) k e a (λb z=>absurd z (by simp)),r,q⟩
end
def C9(sp:Sp)(dvs:List V)(E:XK)(t:TA):TE:=λU H Q=>t U H λvs H1=>sp (vs++dvs) H1 Q E
def Da(C:Sj)(sp:Sp)(dvs:List V)(E:XK)(t:TA):TE:=λU H Q=>t U H λvs H1=>∀x dx,H1 x=Sd->H1 dx=Sd->dx≠x->
 sp (.ref x::(vs++dvs)) (upd (upd H1 dx (.own x)) x (.ins C dx [])) (λv H2=>v=.non/\Q (.ref x) H2) E
def Binds(K:Om)(fd:SG)(ps:List Str)(ds:List Sh):Prop:=
 ∀(s:Sk) (us:List Sh),K.In s.heap->(us++ds).length=ps.length->BindsTo s fd ⟨us,[]⟩ (ps.zip (us++ds))
theorem Binds.all{K:Om}{fd:SG}{ps:List Str}(h:∀us:List Sh,us.length=ps.length->bindArgs fd ⟨us,[]⟩=pure (ps.zip us)):Binds K fd ps []:=λs us _ hl=>by
 rw[OZ] at hl⊢;show .of_eq (h us hl)
def gX(CX:wc)(X:Cx)(E:XK):Prop:=∀(pins:List (Sj×Obj)) (U:St) (H:Hp) (s:Sk) (e:Sh) (s':Sk),Inv X pins U H s->CX X.stack H s E e s'->X.xe e s'
section
variable {X:Cx} {CX:wc} {k:Nat} {f C:Sj} {fd:SG} {ps:List Str} {sp:Sp} {dvs:List V} {ds:List Sh} {E:XK} {x m:Str} {p pos apos:Pos} {e o:Si} {es:List Si} {ta:TE} {t:TA}
theorem xy{vs:List V}(F:FnOk X.prog X.w X.K X.mg X.base CX k f fd ps sp)(j:Room k X.A)(g:Binds X.K fd ps ds)(hd:Vals dvs ds)(d:gX CX X E)(I:Inv X pins U H s)(r:Vals vs us)(h:sp (vs++dvs) H Q E):Sq (So X.prog X.w) X.A (call (.ref f) us) (EP X pins U Q) X.xe s:=by
 let b:Vals (vs++dvs) (us++ds):=r.append hd;let hl:(us++ds).length=ps.length:=by rw[<- b.length];show F.len _ _ _ _ h
 show wpAny_call (codeAny_mono (F.run X.A X.stack s H ⟨us,[]⟩ (us++ds) (vs++dvs) Q E j I.env0 (g s us I.kIn hl) b h) λr c a=>?_)
 cases r with
 |error e=>show d pins U H s e c I a
 |ok i=>
  cases i with
  |ret u=>show I.after a
  |next=>show False.elim a
  |brk=>show False.elim a
  |cont=>show False.elim a
theorem ue(F:FnOk X.prog X.w X.K X.mg X.base CX k f fd ps sp)(g:Room k X.A)(i:Gl X x)(hm:X.mg x=Sb (.ref f))(hk:Pg X.K (.ref f)=Se)(d:Binds X.K fd ps ds)(hd:Vals dvs ds)(c:gX CX X E)
  (ha:PA X (e::es) t) (hdb:(x==("__debug__":Str))=Sf:=by decide) (he:Sy (e::es) X.env=(Sf,eval e X.env)::Sy es X.env:=by rfl) (hpl:(backTo pos (Sy es X.env)).any (·.1)=Sf:=by rfl) :
  PE X (.Call (.Name x p) (e::es) [] pos) (C9 sp dvs E t):=by
 intro a s U H Q I h;show wpAny_Call_Name_kw (ij I i hm ?_ hdb);show RH I.ok.mod.kin hk (bd (ha pos a s U H _ I h) λm s1 ⟨l,j,b,r,q⟩=>⟨b.kIn,?_⟩) he hpl;show xy F g d hd c b r q
theorem xz(F:FnOk X.prog X.w X.K X.mg X.base CX k f fd ps sp)(e:Room k X.A)(d:Gl X x)(hm:X.mg x=Sb (.ref f))(hk:Pg X.K (.ref f)=Se)(c:Binds X.K fd ps ds)(hd:Vals dvs ds)(b:gX CX X E)
  (hdb:(x==("__debug__":Str))=Sf:=by decide):PE X (.Call (.Name x p) [] [] pos) (C9 sp dvs E AS):=by
 intro a s U H Q I h;show wpAny_Call_Name_kw (ij I d hm ?_ hdb);show RC I.kIn hk (xy (us:=[]) F e c hd b I .nil h)
structure Mk(K:Om)(C f:Addr):Prop where
 makes:R9 K C=Se
 init:PF K (.ref C) "__init__" = Sb (Sb (.ref f))
 fn:PySem.W.isFn K (.ref f)=Se
 kp:Pg K (.ref C)=Se
theorem pC{H:Hp}{Q:VK}{vs:List V}(M:Mk X.K C f)(F:FnOk X.prog X.w X.K X.mg X.base CX k f fd ps sp)(p:Room (k+1) X.A)(l:Binds X.K fd ps ds)(hd:Vals dvs ds)(i:gX CX X E)(I:Inv X pins U H s)(r:Vals vs us)(h:∀x dx,H x=Sd->H dx=Sd->dx≠x->sp (.ref x::(vs++dvs)) (upd (upd H dx (.own x)) x (.ins C dx [])) (λv H2=>v=.non/\Q (.ref x) H2) E) :
  Sq (So X.prog X.w) X.A (call (.ref C) us) (EP X pins U Q) X.xe s:=by
 let c:=h (s.heap.objs.size+1) s.heap.objs.size (I.hok.fresh (Qa _)) (I.hok.fresh (Ox _)) (OG (Pv _));let b:=Inv.made (C:=C) I;let d:Vals (V.ref (s.heap.objs.size+1)::(vs++dvs)) (Value.ref (s.heap.objs.size+1)::(us++ds)):=.cons rfl (r.append hd)
 let hl:(Value.ref (s.heap.objs.size+1)::us++ds).length=ps.length:=by
  let e:=d.length;rw[F.len _ _ _ _ c] at e;show e.symm
 show wpAny_call (xw (f:=f) I.kIn M.makes M.init (beq_iff_eq.mp M.fn) (codeAny_mono (F.run _ X.stack _ _ ⟨Value.ref (s.heap.objs.size+1)::us,[]⟩ (Value.ref (s.heap.objs.size+1)::(us++ds)) _ _ E (p.make C us [])
  (b.env0.make C us []) (l _ (Value.ref (s.heap.objs.size+1)::us) b.kIn hl) d c) λr g a=>?_))
 cases r with
 |error e=>show i pins U _ _ e g b a
 |ok q=>
  cases q with
  |ret u=>
   obtain⟨v,j,o,t,m,n⟩:=b.after a;subst m;show⟨t,⟨V.ref (s.heap.objs.size+1),j,o,rfl,n⟩⟩
  |next=>show False.elim a
  |brk=>show False.elim a
  |cont=>show False.elim a
theorem AT(M:Mk X.K C f)(F:FnOk X.prog X.w X.K X.mg X.base CX k f fd ps sp)(g:Room (k+1) X.A)(i:Gl X x)(hm:X.mg x=Sb (.ref C))(d:Binds X.K fd ps ds)(hd:Vals dvs ds)(c:gX CX X E)
  (ha:PA X (e::es) t) (hdb:(x==("__debug__":Str))=Sf:=by decide) (he:Sy (e::es) X.env=(Sf,eval e X.env)::Sy es X.env:=by rfl) (hpl:(backTo pos (Sy es X.env)).any (·.1)=Sf:=by rfl) :
  PE X (.Call (.Name x p) (e::es) [] pos) (Da C sp dvs E t):=by
 intro a s U H Q I h;show wpAny_Call_Name_kw (ij I i hm ?_ hdb);show RH I.ok.mod.kin M.kp (bd (ha pos a s U H _ I h) λm s1 ⟨l,j,b,r,q⟩=>⟨b.kIn,?_⟩) he hpl;show pC M F g d hd c b r q
theorem xA(M:Mk X.K C f)(F:FnOk X.prog X.w X.K X.mg X.base CX k f fd ps sp)(e:Room (k+1) X.A)(d:Gl X x)(hm:X.mg x=Sb (.ref C))(c:Binds X.K fd ps ds)(hd:Vals dvs ds)(b:gX CX X E)
  (hdb:(x==("__debug__":Str))=Sf:=by decide):PE X (.Call (.Name x p) [] [] pos) (Da C sp dvs E AS):=by
 intro a s U H Q I h;show wpAny_Call_Name_kw (ij I d hm ?_ hdb);show RC I.kIn M.kp (pC (us:=[]) M F e c hd b I .nil h)
end
structure bc(N P:List Str)(sc:Scope):Prop where
 kind:sc.kind=.function
 co:sc.isCoroutine=Sf
 gen:sc.isGenerator=Sf
 nd:N.Nodup
 pre:N.take P.length=P
 par:∀x∈P,sc.names.lookup x=Sb .local\/sc.names.lookup x=Sb .cell
 nofree:∀y∈sc.names,y.2≠.free
theorem mG{b:Str->Option SF}{x:Str}:∀{a:List (Str×Sh)} {m:Str->Option Sh},(∀v,(x,v)∉a)->bindL b a m x=m x
 |[],_,_=>rfl
 |(n,v)::r,m,h=>by
  unfold bindL;rw[mG λw c=>h w (OH _ c)];split
  ·have:x≠n:=by rintro rfl;show h v OL
   simp[this]
  ·rfl
theorem mH{b:Str->Option SF}{x:Str}:∀{a:List (Str×Sh)} {m:Str->Option Sh},(∀v,(x,v)∉a)->bindC b a m x=m x
 |[],_,_=>rfl
 |(n,v)::r,m,h=>by
  unfold bindC;rw[mH λw c=>h w (OH _ c)];split
  ·rfl
  ·have:x≠n:=by rintro rfl;show h v OL
   simp[this]
theorem mI{a:Str->Option SF}{x:Str}{v:Sh}:∀{P:List Str} {vs:List Sh} {i:Nat} {m:Str->Option Sh},P.Nodup->P[i]?=Sb x->vs[i]?=Sb v->a x=Sb .local->
  bindL a (P.zip vs) m x=Sb v
 |[],_,_,_,_,h,_,_=>by simp at h
 |_::_,[],_,_,_,_,h,_=>by simp at h
 |p::P,w::vs,0,m,nd,h1,h2,hk=>by
  simp at h1 h2;subst h1;subst h2;change bindL a ((p,w)::P.zip vs) m p=_;unfold bindL;rw[mG λv b=>(OX.mp nd).1 (Q8 b).1,if_pos hk];simp
 |p::P,w::vs,i+1,m,nd,h1,h2,hk=>by
  unfold bindL;show mI (i:=i) (OX.mp nd).2 (by simpa using h1) (by simpa using h2) hk
theorem mJ{a:Str->Option SF}{x:Str}{v:Sh}:∀{P:List Str} {vs:List Sh} {i:Nat} {m:Str->Option Sh},P.Nodup->P[i]?=Sb x->vs[i]?=Sb v->a x≠Sb .local->
  bindC a (P.zip vs) m x=Sb v
 |[],_,_,_,_,h,_,_=>by simp at h
 |_::_,[],_,_,_,_,h,_=>by simp at h
 |p::P,w::vs,0,m,nd,h1,h2,hk=>by
  simp at h1 h2;subst h1;subst h2;change bindC a ((p,w)::P.zip vs) m p=_;unfold bindC;rw[mH λv b=>(OX.mp nd).1 (Q8 b).1,if_neg hk];simp
 |p::P,w::vs,i+1,m,nd,h1,h2,hk=>by
  unfold bindC;show mJ (i:=i) (OX.mp nd).2 (by simpa using h1) (by simpa using h2) hk
noncomputable def cU(N:List Str)(vs:List V):St:=vs.map Sb++Pb (N.length-vs.length) Sd
noncomputable def rX(CX:wc)(P:Sr)(w:Ss)(K:Om)(mg:Str->Option Sh)(base:Sw)(N:List Str)(qual:Str)(scope:SA)(f:Sj)(B:Sh)(A:Sv)(outer:List Env)(s:Sk)(H:Hp)(E:XK):Cx where
 prog:=P
 w:=w
 K:=K
 mg:=mg
 base:=base
 A:=A.deeper (envOfC qual scope s.heap.objs.size f B)
 N:=N
 s₀:=s
 H₀:=H
 env:=envOfC qual scope s.heap.objs.size f B
 outer:=outer
 stack:=envOfC qual scope s.heap.objs.size f B::outer
 ex:=[]
 calm:=Se
 fn:=λ_=>Se
 pn:=[]
 xe:=λe s'=>Sq (So P w) (A.deeper (envOfC qual scope s.heap.objs.size f B)) (leaving (envOfC qual scope s.heap.objs.size f B) e) (λ_ q=>CX outer H s E e q) (λO q=>CX outer H s E O q) s'
theorem pF{sc:SA}{x:Str}(h:sc.names.lookup x=Sb .cell):∃c,(SC n sc.names []).lookup x=Sb c:=by
 let q:=Rf sc.names n [] (.inl h);show Option.isSome_iff_exists.mp q
theorem we{CX:wc}{P:Sr}{w:Ss}{K:Om}{mg:Str->Option Sh}{base:Sw}{N ps:List Str}{qual:Str}{scope:SA}{f:Sj}{n:Sh}{A:Sv}{outer:List Env}{s s1:Sk}{H:Hp}{E:XK}{us:List Sh}{vs:List V}
  (S:bc N ps scope) (hd:A.handled=Sd) (e0:Env0 P w K mg base A outer s H) (hl:vs.length=ps.length) (r:Vals vs us)
  (x:InCallC s s.heap.objs.size (bindL (envOfC qual scope s.heap.objs.size f n).kindOf (ps.zip us) λ_=>Sd) (SC (s.heap.objs.size+1) scope.names []) (bindC (envOfC qual scope s.heap.objs.size f n).kindOf (ps.zip us) λ_=>Sd) s1) :
  Inv (rX CX P w K mg base N qual scope f n A outer s H E) [] (cU N vs) H s1:=by
 let B:ps.length<=N.length:=by have:=congrArg Pq S.pre;rw[OP] at this;lia
 obtain⟨o,F,rfl,hk⟩:=x.done;let j:∀b:Sj,b∉(rX CX P w K mg base N qual scope f n A outer s H E).ex:=λb z=>absurd (show b∈([]:List Sj) from z) (by simp)
 show⟨⟨e0.mod,S.kind,rfl,rfl,Ox _,λy z c o d=>?_,λy g=>?_,λy c _ h=>?_,λ_=>hd,Around.frames_deeper e0.frames,.inr ⟨rfl,rfl⟩,λb z=>absurd z (j b),e0.bs,e0.bsz,λb _ _=>j b,λb z=>absurd z (j b),e0.funs,e0.frf⟩,
  rfl,e0.bare,Un.kept hk,⟨_,x.toInCall.ns,λi y v o d I=>?_⟩,λy c h=>⟨_,x.cell y c h⟩,e0.hok.fresh (Ox _),λy c h=>?_,λp m=>absurd (show p∈([]:List (Sj×Obj)) from m) (by simp),e0.hok.kept hk,?_⟩
 ·show name_of_addr x.apart (PySem.mem_of_lookup o) (PySem.mem_of_lookup d)
 ·let g:scope.names.lookup y=Sb .cell\/scope.names.lookup y=Sb .free:=g;rcases g with g|g
  ·show pF g
  ·show absurd rfl (S.nofree _ (PySem.mem_of_lookup g))
 ·show Qk (x.above y c (PySem.mem_of_lookup h))
 ·let hi:i<vs.length:=by
   unfold cU at d;by_cases hi:i<vs.length
   ·show hi
   ·rw[Pf (by simpa using hi)] at d;rw[PV] at d
    split at d<;>cases d
  let C:vs[i]?=Sb v:=by
   unfold cU at d;rw[Pj (by simpa using hi),Op] at d
   cases e:vs[i]? with
   |none=>rw[e] at d;cases d
   |some a=>rw[e] at d;cases d;rfl
  obtain⟨u,t,D⟩:=r.get C
  let m:ps[i]?=Sb y:=by
   rw[<- S.pre,QW (by lia)];show o
  let l:ps.Nodup:=by rw[<- S.pre];show S.nd.sublist (Qs _ _)
  show⟨u,D,?_⟩;rcases S.par y (OK m) with k|k
  ·show .inl ⟨k,mI l m t k⟩
  ·obtain⟨c,e⟩:=pF k;show .inr ⟨.inl k,c,e,?_⟩;let q:=x.cell y c e;rw[mJ l m t (by change scope.names.lookup y≠_;rw[k];decide)] at q;show q
 ·show e0.hok.fresh (Qk (x.above y c (PySem.mem_of_lookup h)))
 ·unfold cU;change _=N.length;rw[OF,On,Rj]
  lia
theorem Iq{CX:wc}{P:Sr}{w:Ss}{K:Om}{mg:Str->Option Sh}{base:Sw}{k:Nat}{f:Sj}{name qual:Str}{c:Arguments}{body:List Su}{scope:SA}{O kV j L cdv M T:Sh}{an od:Option Sj}
  {osl:Array (Option Sh)} {N ps:List Str} {sp:Sp} (lk:K.lookup f=Sb ⟨T,od,.func (Pl name qual c body scope O kV j L an cdv M),osl⟩) (hcd:Qn K cdv qual=Se) (S:bc N ps scope)
  (len:∀d H Q E,sp d H Q E->d.length=ps.length)
  (hbody:∀(A:Sv) (a:List Env) (s:Sk) (H:Hp) (d:List V) (Q:VK) (E:XK),Room k (A.deeper (envOfC qual scope s.heap.objs.size f cdv))->sp d H Q E->
   ∃t,PSs (rX CX P w K mg base N qual scope f cdv A a s H E) body t/\t { nx:=λ_ g=>Q .non g,rt:=Q } (cU N d) H) :
  FnOk P w K mg base CX (k+1) f (Pl name qual c body scope O kV j L an cdv M) ps sp:=by
 show⟨len,λA a s H R us d Q E C p Z r m=>?_⟩;let hl:=len _ _ _ _ m;let F:K.In s.heap:=p.mod.kin.keeps λb o e=>(p.bs b o e).1;let lim:s.heap.NoLimit:=p.mod.nolimit.keeps λb o e=>(p.bs b o e).1
 let h:∀y∈ps.zip us,scope.names.lookup y.1=Sb .local\/(scope.names.lookup y.1=Sb .cell/\((SC (s.heap.objs.size+1) scope.names []).lookup y.1).isSome=Se):=λ⟨n,v⟩ X=>by
  rcases S.par n (Q8 X).1 with q|q
  ·show .inl q
  ·show .inr ⟨q,Rf _ _ _ (.inl q)⟩
 show codeAny_call_function C.depth (F _ _ lk) rfl S.co S.gen rfl (PySem.W.codeRec_of F hcd) (Z _ _ _ _ ?_);show wpAny_newFunctionEnv_cells S.kind h λY U s1 x=>?_;subst U;show⟨lim.keeps x.toInCall.keep,codeAny_func ?_⟩;obtain⟨t,ht,hq⟩:=hbody A a s H d Q E (C.deeper _) m;let I:Inv (rX CX P w K mg base N qual scope f cdv A a s H E) [] (cU N d) H s1:=we S C.hd p hl r x;show wpAny_mono (ht [] s1 (cU N d) H _ I hq) (λfl B i=>?_) λe B i=>i
 let l:∀{z:St} {g:Hp} {v:V} {u:Sh},Inv (rX CX P w K mg base N qual scope f cdv A a s H E) [] z g B->RelV v u->Q v g->CE a P w H s Q u B:=
  λ{z g v u} J D q=>⟨v,g,J.os,J.bare,J.base,J.hok,D,q⟩
 cases fl with
 |ret u=>
  obtain⟨v,z,g,J,D,q⟩:=i;show l J D q
 |next=>
  obtain⟨z,g,J,q⟩:=i;show l (v:=V.non) J rfl q
 |brk=>
  obtain⟨_,_,_,q⟩:=i;show False.elim q
 |cont=>
  obtain⟨_,_,_,q⟩:=i;show False.elim q
section
variable {X:Cx} {x:Str} {p pos:Pos} {e:Si} {es:List Si} {t:TA} {id T:String} {r:List V->Hp->VK->Prop}
def Nn(r:List V->Hp->VK->Prop)(t:TA):TE:=λU H Q=>t U H λvs H1=>r vs H1 Q
theorem dM(j:fB X (.builtin id) r)(l:Gl X x)(hm:X.mg x=Sd)(f:bootBuiltins x=Sb (.builtin id))(c:PA X (e::es) t)(hn:x≠"__name__":=by decide)(b:(x==("__debug__":Str))=Sf:=by decide)
  (he:Sy (e::es) X.env=(Sf,eval e X.env)::Sy es X.env:=by rfl) (hpl:(backTo pos (Sy es X.env)).any (·.1)=Sf:=by rfl):PE X (.Call (.Name x p) (e::es) [] pos) (Nn r t):=by
 intro a s U H Q I h;show wpAny_Call_Name_kw (dJ I l hm f ?_ hn b);show PyProof.Rows.callWith_builtin1 (bd (c pos a s U H _ I h) λm s1 ⟨k,i,g,d,q1⟩=>j a s1 U i k m Q g d q1) he hpl
theorem en(j:fB X (.type T) r)(l:Gl X x)(hm:X.mg x=Sd)(f:bootBuiltins x=Sb (.type T))(c:PA X (e::es) t)(hn:x≠"__name__":=by decide)(b:(x==("__debug__":Str))=Sf:=by decide)
  (he:Sy (e::es) X.env=(Sf,eval e X.env)::Sy es X.env:=by rfl) (hpl:(backTo pos (Sy es X.env)).any (·.1)=Sf:=by rfl):PE X (.Call (.Name x p) (e::es) [] pos) (Nn r t):=by
 intro a s U H Q I h;show wpAny_Call_Name_kw (dJ I l hm f ?_ hn b);show PyProof.Rows.callWith_type1 (bd (c pos a s U H _ I h) λm s1 ⟨k,i,g,d,q1⟩=>j a s1 U i k m Q g d q1) he hpl
end
end L2
namespace HT
open PyProof.Rows
section
variable {prog:Sr} {w:Ss} {A:Sv} {E:Sh->Sk->Prop} {s:Sk}
noncomputable def jZ(n d:Nat):Option Int->Nat
 |none=>d
 |some v=>if v<0 then(v+(n:Int)).toNat else min v.toNat n
theorem pG(n d:Nat):jZ n d Sd=d:=rfl
theorem gm(n d k:Nat):jZ n d (Sb (k:Int))=min k n:=by
 change(if(k:Int)<0 then((k:Int)+(n:Int)).toNat else min (k:Int).toNat n)=min k n
 rw[if_neg (by lia),Ph]
end
end HT
namespace L2
open PyProof.Rows
abbrev TO:=St->Hp->(Option Int->Hp->Prop)->Prop
def PO(X:Cx)(e:Option Si)(t:TO):Prop:=
 ∀(pins:List (Sj×Obj)) (s:Sk) (U:St) (H:Hp) (Q:Option Int->Hp->Prop),Inv X pins U H s->t U H Q->
  Sq (So X.prog X.w) X.A (evalPart e X.env) (λu s'=>∃o H',Inv X pins U H' s'/\IsPart u o/\Q o H') X.xe s
def AU:TO:=λ_ H Q=>Q Sd H
def Ir(t:TE):TO:=λU H Q=>t U H λx H1=>∃i,x=.int i/\Q (Sb i) H1
section
variable {X:Cx} {e:Si} {te:TE} {lo hi:Option Si} {tl th:TO} {pos p2:Pos}
theorem AV:PO X Sd AU:=by
 intro a s U H Q I h;rw[evalPart_none];show Sn ⟨Sd,H,I,.none,h⟩
theorem AW(h:PE X e te):PO X (Sb e) (Ir te):=by
 intro a s U H Q I d;rw[evalPart_some];show bd (h a s U H _ I d) λu s1 b=>?_;obtain⟨x,g,f,c,q1⟩:=b;obtain⟨i,rfl,q⟩:=q1;obtain⟨t,rfl⟩:=c;show⟨Sb i,g,f,.int i t,q⟩
def No(X:Cx)(r:V->Option Int->Option Int->Hp->VK->Prop):Prop:=
 ∀(pins:List (Sj×Obj)) (s:Sk) (U:St) (H:Hp) (x:V) (v vl q:Sh) (lo hi:Option Int) (B:Sj) (Q:VK),Inv X pins U H s->RelV x v->s.heap.IsSliceOf B vl q .none->IsPart vl lo->IsPart q hi->r x lo hi H Q->
  ∃T id,typeLookup (.type T) "__getitem__" = pure (Sb (.builtin id))/\s.TypeIs v T/\Sq (So X.prog X.w) X.A (getItem v (.ref B)) (EP X pins U Q) X.xe s
def N3(r:V->Option Int->Option Int->Hp->VK->Prop)(te:TE)(tl th:TO):TE:=λU H Q=>te U H λx H1=>tl U H1 λl H2=>th U H2 λu q=>r x l u q Q
theorem pH(A:No X r)(o:PE X e te)(hl:PO X lo tl)(E:PO X hi th):PE X (.Subscript e (.Slice lo hi Sd p2) pos) (N3 r te tl th):=by
 intro a s U H Q I h;show Subscript_ (bd (o a s U H _ I h) λv s1 c=>?_);obtain⟨x,m,B,t,q1⟩:=c;show wpAny_Slice (bd (hl a s1 U m _ B q1) λvl s2 ⟨l,g,k,w,p⟩=>bd (E a s2 U g _ k p) λd s3 c=>?_);obtain⟨u,f,z,i,j⟩:=c;rw[evalPart_none];show Sn ?_;let n:Inv X a U f { s3 with heap:=s3.heap.push { cls:=.type "slice",data:=.fields #[vl,d,.none] } }:=z.kept λb K q=>Oq _ q;obtain⟨T,F,C,y,D⟩:=A a { s3 with heap:=s3.heap.push { cls:=.type "slice",data:=.fields #[vl,d,.none] } } U f x v vl d l u s3.heap.objs.size Q n t (Heap.IsSliceOf.new ..) w i j;show tail_any y C D (by with_unfolding_all rfl)
def xB(xs:List V)(lo hi:Option Int):List V:=(xs.drop (HT.jZ xs.length 0 lo)).take (HT.jZ xs.length xs.length hi-HT.jZ xs.length 0 lo)
theorem pI(xs:List V)(lo hi:Option Int):(xB xs lo hi).length<=xs.length:=by
 unfold xB;rw[OP,QX]
 lia
end
noncomputable def kf(n:Nat)(i:Int):Option Nat:=if 0<=i then(if i<n then Sb i.toNat else Sd) else if -(n:Int)<=i then Sb (i+n).toNat else Sd
def o6{α:Type}(xs:List α)(i:Int):Option α:=(kf xs.length i).bind λj=>xs[j]?
theorem nN{n:Nat}{i:Int}{j:Nat}(h:kf n i=Sb j):seqIndex? i n=Sb j/\j<n/\-(n:Int)<=i/\i<n:=by
 unfold kf at h;by_cases b:0<=i
 ·rw[if_pos b] at h;by_cases a:i<n
  ·rw[if_pos a] at h;let e:i.toNat=j:=Option.some.inj h;show⟨by rw[seqIndex_of b a,e],by lia,by lia,a⟩
  ·rw[if_neg a] at h;cases h
 ·rw[if_neg b] at h;by_cases a:-(n:Int)<=i
  ·rw[if_pos a] at h;let e:(i+n).toNat=j:=Option.some.inj h;show⟨by rw[seqIndex_neg (by lia) a,e],by lia,a,by lia⟩
  ·rw[if_neg a] at h;cases h
theorem nO{α:Type}{xs:List α}{i:Int}{v:α}(h:o6 xs i=Sb v):∃j,seqIndex? i xs.length=Sb j/\xs[j]?=Sb v/\j<xs.length/\-(xs.length:Int)<=i/\i<xs.length:=by
 unfold o6 at h
 cases e:kf xs.length i with
 |none=>rw[e] at h;cases h
 |some j=>
  rw[e] at h;obtain⟨c,b,a,d⟩:=nN e;show⟨j,c,h,b,a,d⟩
def uf(b:Si):Prop:=∀o i,subscripted b Sf o i=operate [o,i] (getItem o i)
def IxR(X:Cx)(r:R2):Prop:=
 ∀(value q:Si) (pins:List (Sj×Obj)) (s:Sk) (U:St) (H:Hp) (x y:V) (v u:Sh) (Q:VK),Inv X pins U H s->RelV x v->RelV y u->r x y H Q->
  subscripted q Sf v u=operate [v,u] (getItem v u)->Sq (So X.prog X.w) X.A (subscriptTail value q v u) (EP X pins U Q) X.xe s
def Iu(X:Cx)(id:String)(r:V->List V->Hp->VK->Prop):Prop:=
 ∀(pins:List (Sj×Obj)) (s:Sk) (U:St) (H:Hp) (x:V) (xs:List V) (v:Sh) (us:List Sh) (Q:VK),Inv X pins U H s->RelV x v->Vals xs us->r x xs H Q->
  Sq (So X.prog X.w) X.A (call (.builtin id) (v::us)) (EP X pins U Q) X.xe s
section
variable {X:Cx} {a b:Si} {ta tb:TE} {pos:Pos}
theorem IxR.or{r g:R2}(h:IxR X r)(h':IxR X g):IxR X (λx y H Q=>r x y H Q\/g x y H Q):=by
 intro a b c s U H x y v u Q I f d q e;rcases q with q|q
 ·show h a b c s U H x y v u Q I f d q e
 ·show h' a b c s U H x y v u Q I f d q e
theorem ug(k:IxR X r)(f:PE X a ta)(g:PE X b tb)(e:uf b):PE X (.Subscript a b pos) (KO r ta tb):=by
 intro c s U H Q I h;show Subscript_ (Ew f g I h λv u s2 x y i j l d q=>k a b c s2 U i x y v u Q j l d q (e _ _))
def Iv(K:Om):R2:=λx y H Q=>∃p xs i v,x=.ref p/\y=.int i/\SqL K H p xs/\o6 xs i=Sb v/\Q v H
def Iw(K:Om):R2:=λx y H Q=>∃p xs i v,x=.ref p/\y=.int i/\SqT K H p xs/\o6 xs i=Sb v/\Q v H
def Ix:R2:=λx y H Q=>∃z i c,x=.str z/\y=.int i/\z.length<=sizeLine/\o6 z.cps.toList i=Sb c/\Q (.str ⟨#[c]⟩) H
theorem ix_list:IxR X (Iv X.K):=by
 intro g e a s U H x y v u Q I L C h m;obtain⟨p,N,i,z,rfl,rfl,F,B,q⟩:=h;cases L;obtain⟨t,rfl⟩:=C;obtain⟨k,r,l,M⟩:=I.list F;obtain⟨j,c,D,O,A,E⟩:=nO B;obtain⟨w,o,f⟩:=r.get D;let hl:=r.length;let hn:=kN;let b:EP X a U Q w s:=⟨z,H,I,f,q⟩;by_cases n:0<=i
 ·let d:i.toNat=j:=by
   rw[seqIndex_of n E] at c;show Option.some.inj c
  show item_listR l.isList n (by lia) (by rw[d];simpa using o) b m
 ·let d:(i+(k.toArray.size:Int)).toNat=j:=by
   rw[seqIndex_neg (by lia) A] at c;rw[OC,<- hl];show Option.some.inj c
  show subscriptTail_builtinR (x:=w) l.isList.typeIs slot_list_getitem.lookup
   (wpAny_getItem_list_neg l.isList (by lia) (by rw[OC]<;>lia) (by lia) (by rw[d];simpa using o) ⟨rfl,b⟩) m
theorem ix_tup:IxR X (Iw X.K):=by
 intro e b a s U H x y v u Q I B l h g;obtain⟨p,F,i,z,rfl,rfl,A,k,q⟩:=h;cases B;obtain⟨t,rfl⟩:=l;obtain⟨n,r,f,D⟩:=I.tuple A;obtain⟨j,C,m,L,E,M⟩:=nO k;obtain⟨w,o,d⟩:=r.get m;let hl:=r.length;let hn:=kN;let c:EP X a U Q w s:=⟨z,H,I,d,q⟩;show subscriptTail_builtinR (x:=w) f.typeIs slot_tuple_getitem.lookup
  (getItem_tuple (j:=j) f (by lia) (by lia) (by rw[OC,<- hl];show C) (by simpa using o) ⟨rfl,c⟩) g
theorem EH:IxR X Ix:=by
 intro a b d s U H x y v u Q I o f h g;obtain⟨z,i,c,rfl,rfl,p,n,q⟩:=h;obtain⟨t,rfl⟩:=o;obtain⟨w,rfl⟩:=f;obtain⟨j,e,k,r,l,m⟩:=nO n;let hl:z.cps.toList.length=z.length:=by simp[Str.length]
 rw[hl] at e l m;let hn:=kN
 show tail_any (typeIs_str s z t) slot_str_getitem.lookup (getItem_str (c:=c) (by
  let e1:decide (i < -(2^63:Int))=Sf:=decide_eq_false (by lia);let e2:decide (i ≥ 2^63)=Sf:=decide_eq_false (by lia);rw[e1,e2,Ry]) (by rw[e];simpa using k) ⟨.str ⟨#[c]⟩,H,I.tok _,⟨_,rfl⟩,q⟩) g
def Np(K:Om):R2:=λx y H Q=>Iv K x y H Q\/Iw K x y H Q\/Ix x y H Q
theorem nP:IxR X (Np X.K):=ix_list.or (ix_tup.or EH)
theorem rY(a:List Sh)(n j:Nat)(u:Sh):Obj.mapSeq (·.setIfInBounds j u) { cls:=.type "list",data:=.seq a.toArray n }={ cls:=.type "list",data:=.seq (a.set j u).toArray n }:=by
 simp[Obj.mapSeq]
theorem Inv.lst{pins:List (Sj×Obj)}{U:St}{H:Hp}{s:Sk}{p:Sj}{xs:List V}(I:Inv X pins U H s)(h:H p=Sb (.lst xs)) :
  ∃(a:List Sh) (n:Nat),Vals xs a/\s.heap.get? p=Sb { cls:=.type "list",data:=.seq a.toArray n }/\xs.length<=sizeLine:=by
 obtain⟨z,a,n,r,e⟩:=I.hok p _ h;show⟨a,n,r,e,z⟩
theorem Inv.lstUpd{H:Hp}{s:Sk}{xs ys:List V}{a its':List Sh}(I:Inv X pins U H s)(h:H p=Sb (.lst xs))(d:s.heap.get? p=Sb { cls:=.type "list",data:=.seq a.toArray n })(c:f { cls:=.type "list",data:=.seq a.toArray n }={ cls:=.type "list",data:=.seq its'.toArray n' })(r:Vals ys its')(g:ys.length<=sizeLine)(t:Nat) :
  Inv X pins U (upd H p (.lst ys)) { s with heap:=s.heap.update p f,toks:=t }:=by
 let e:(s.heap.update p f).get? p=Sb { cls:=.type "list",data:=.seq its'.toArray n' }:=by
  rw[Rk f d (by rw[c]<;>rfl),c]
 show I.write (x:=p) (e:=p) (by rw[h];trivial) (.inl rfl) (λb u i q=>(Qx _ _ (Ne.symm i)).trans q) ⟨_,e⟩ ?_;show⟨g,its',n',r,e⟩
def Iy:V->V->V->Hp->(Hp->Prop)->Prop:=λo i v H Q=>∃p xs k j,o=.ref p/\i=.int k/\H p=Sb (.lst xs)/\kf xs.length k=Sb j/\Q (upd H p (.lst (xs.set j v)))
theorem xC:Ib X Iy:=by
 intro b s U H o i v E D u Q I B A z h;obtain⟨p,y,k,j,rfl,rfl,m,x,q⟩:=h;cases B;obtain⟨t,rfl⟩:=A;obtain⟨a,n,r,d,w⟩:=I.lst m;obtain⟨c,C,l,e⟩:=nN x;let hl:=r.length;let hn:=kN
 let f:Inv X b U (upd H p (.lst (y.set j v))) { s with heap:=s.heap.update p (Obj.mapSeq (·.setIfInBounds j u)) }:=
  I.lstUpd m d (rY a n j u) (r.set z j) (by rw[PX];show w) s.toks
 by_cases g:0<=k
 ·let hk:k.toNat=j:=by
   rw[seqIndex_of g e] at c;show Option.some.inj c
  show PySem.W.ki_setAt d g (by lia) (by rw[OC,<- hl];show e) (by rw[hk];show⟨_,f,q⟩)
 ·let hk:(k+(a.toArray.size:Int)).toNat=j:=by
   rw[seqIndex_neg (by lia) l] at c;rw[OC,<- hl];show Option.some.inj c
  show PySem.W.ki_setBack d (by lia) (by rw[OC,<- hl];show l) (by lia) (by rw[hk];show⟨_,f,q⟩)
theorem nQ(lo hi:Option Int)(n:Nat):(sliceBounds lo hi Sd n).1=((HT.jZ n 0 lo:Nat):Int)/\(sliceBounds lo hi Sd n).2.1=((HT.jZ n n hi:Nat):Int)/\(sliceBounds lo hi Sd n).2.2=1:=by
 show⟨?_,?_,rfl⟩
 ·cases lo with
  |none=>simp[sliceBounds,HT.jZ]
  |some i=>
   simp only[sliceBounds,HT.jZ,QY,show(1:Int) > 0 by decide,if_true];by_cases h:i<0
   ·simp only[h,if_true]<;>lia
   ·simp only[h,if_false]<;>lia
 ·cases hi with
  |none=>simp[sliceBounds,HT.jZ]
  |some i=>
   simp only[sliceBounds,HT.jZ,QY,show(1:Int) > 0 by decide,if_true];by_cases h:i<0
   ·simp only[h,if_true]<;>lia
   ·simp only[h,if_false]<;>lia
theorem mi(a:List Sh)(lo hi:Option Int):slicePick a.toArray lo hi Sd=((a.drop (HT.jZ a.length 0 lo)).take (HT.jZ a.length a.length hi-HT.jZ a.length 0 lo)).toArray:=by
 obtain⟨d,c,b⟩:=nQ lo hi a.toArray.size;unfold slicePick;rw[d,c,b]
 simp only[sliceRange_one,pick_run,OC]<;>rfl
def LQ(K:Om):V->Option Int->Option Int->Hp->VK->Prop:=λx lo hi H Q=>∃a xs,x=.ref a/\SqL K H a xs/\∀p,H p=Sd->Q (.ref p) (upd H p (.lst (xB xs lo hi)))
theorem uh:No X (LQ X.K):=by
 intro e s U H x v vl p lo hi o Q I n g m k h;obtain⟨a,d,rfl,i,q⟩:=h;cases n;obtain⟨l,r,f,j⟩:=I.list i;let c:=r.length;show⟨"list",_,slot_list_getitem.lookup,f.isList.typeIs,?_⟩
 show wpAny_getItem_list_slice f.isList g m k .none (by simp) ?_ (by rw[OC]<;>lia)
 rw[mi,<- c];show⟨.ref s.heap.objs.size,_,I.laid (λb t q=>Oq _ q) (Ox _) ?_,rfl,q _ (I.hok.fresh (Ox _))⟩;show⟨OW (pI d lo hi) j,_,0,(r.drop (HT.jZ d.length 0 lo)).take (HT.jZ d.length d.length hi-HT.jZ d.length 0 lo),OJ _ rfl⟩
theorem nR:fB X (.builtin "len") (λxs H Q=>∃p ys,xs=[.ref p]/\(SqL X.K H p ys\/SqT X.K H p ys)/\Q (.int ys.length) H):=by
 intro f s U H xs j Q I r h;obtain⟨p,ys,rfl,b,q⟩:=h;obtain⟨u,rfl,i⟩:=kO r;cases i;let hn:=kN;rcases b with b|b
 ·obtain⟨c,e,d,g⟩:=I.list b;let a:=e.length
  show Calls.call_len_list d.isList (by simp only[OC]<;>lia) ⟨.int ys.length,H,I.tok _,⟨s.toks+1,by rw[OC,a]⟩,q⟩
 ·obtain⟨c,e,d,g⟩:=I.tuple b;let a:=e.length
  show len_tuple d (by simp only[OC]<;>lia) ⟨.int ys.length,H,I.tok _,⟨s.toks+1,by rw[OC,a]⟩,q⟩
theorem eP:fB X (.type "list") (λxs H Q=>∃p ys,xs=[.ref p]/\(SqL X.K H p ys\/SqT X.K H p ys)/\∀l,H l=Sd->Q (.ref l) (upd H l (.lst ys))):=by
 intro i s U H xs C Q I r h;obtain⟨p,ys,rfl,t,q⟩:=h;obtain⟨u,rfl,B⟩:=kO r;cases B
 let j:∀(a:List Sh),Vals ys a->ys.length<=sizeLine->∀(c:Sw) (d:Nat),(∀b A,s.heap.get? b=Sb A->c.get? b=Sb A)->
   c.get? s.heap.objs.size=Sb { cls:=.type "list",dict:=Sd,data:=.seq a.toArray d,slots:=#[] }->EP X i U Q (.ref s.heap.objs.size) { s with heap:=c }:=λa f g c d m e=>
  ⟨.ref s.heap.objs.size,_,I.laid m (Ox _) (show ObjOk X.prog X.w _ c _ (.lst ys) from⟨g,a,d,f,e⟩),rfl,q _ (I.hok.fresh (Ox _))⟩
 rcases t with t|t
 ·obtain⟨a,f,z,g⟩:=I.list t;let k:=f.length;obtain⟨o,y,x,n,v⟩:=z.isList
  show call_list_seq p (.inl rfl) y x v (λc d m e=>j a f g c d m e) (by simp only[OC]<;>lia)
 ·obtain⟨a,f,z,g⟩:=I.tuple t;let k:=f.length;obtain⟨o,y,x,n,v⟩:=z
  show call_list_seq p (.inr rfl) y x v (λc d m e=>j a f g c d m e) (by simp only[OC]<;>lia)
def KP(K:Om)(T:String)(x:V)(H:Hp):Prop:=match x with
 |.ref p=>(T="list"/\∃xs,SqL K H p xs)\/(T="dict"/\∃q,H p=Sb (.dK q))
 |_=>False
theorem xD{s:Sk}{T:String}(I:Inv X pins U H s)(r:RelV x v)(ty:KP X.K T x H) :
  s.TypeIs v T/\∀a,v=.ref a->∃f,s.heap.get? a=Sb f/\f.dict=Sd:=by
 cases x with
 |ref p=>
  cases r;rcases ty with⟨rfl,k,j⟩|⟨rfl,h,hk⟩
  ·obtain⟨i,_,b,_⟩:=I.list j;show⟨b.isList.typeIs,λa e=>?_⟩;cases e;obtain⟨o,n,e,c,g,_⟩:=b;show⟨o,e,g⟩
  ·obtain⟨_,_,_,_,o,_,_,e,d,_⟩:=I.hok p _ hk;show⟨⟨o,e,d.1⟩,λa e2=>?_⟩;cases e2;show⟨o,e,d.2.1⟩
 |_=>show False.elim ty
def Iz(K:Om)(T:String)(r:V->List V->Hp->VK->Prop)(to:TE):TE:=λU H Q=>to U H λx H1=>KP K T x H1/\r x [] H1 Q
def N4(K:Om)(T:String)(r:V->List V->Hp->VK->Prop)(to:TE)(t:TA):TE:=λU H Q=>to U H λx H1=>KP K T x H1/\t U H1 λxs H2=>r x xs H2 Q
variable {o e:Si} {es:List Si} {to:TE} {t:TA} {name:Str} {apos cpos:Pos} {T id:String} {r:V->List V->Hp->VK->Prop}
theorem xE(i:PlainAttrs T)(b:Slot T name id)(c:typeOf (.builtin id)=pure (.type "method_descriptor"))(hm:Iu X id r)(f:PE X o to)
  (hbase:attributeBase o name X.env (eval o X.env)=eval o X.env:=by rfl) (hline:(apos.endLine==cpos.line)=Se:=by rfl):PE X (.Call (.Attribute o name apos) [] [] cpos) (Iz X.K T r to):=by
 intro a s U H Q I h;show wpAny_Call_method0_late hbase hline (bd (f a s U H _ I h) λv s1 j=>?_);obtain⟨x,k,e,d,l,q1⟩:=j;obtain⟨m,g⟩:=xD e d l;show⟨T,id,i,b,c,m,g,Calls.callWith_builtin rfl (PySem.evalArgs_none (hm a s1 U k x [] v [] Q e d .nil q1))⟩
theorem xF(k:PlainAttrs T)(b:Slot T name id)(c:typeOf (.builtin id)=pure (.type "method_descriptor"))(hm:Iu X id r)(i:PE X o to)(l:PA X (e::es) t)
  (hbase:attributeBase o name X.env (eval o X.env)=eval o X.env:=by rfl)
  (hfew:((backTo cpos (Sy (e::es) X.env)).all (λx=>!x.1)&&(backToKw cpos (keywordEach [] X.env)).all (λx=>x.1.isSome)
   && decide ((e::es).length+([]:List Keyword).length+(if([]:List Keyword).isEmpty then 0 else 1)<30))=Se:=by rfl)
  (hline:(apos.endLine==cpos.line)=Se:=by rfl) (hs:Sy (e::es) X.env=(Sf,eval e X.env)::Sy es X.env:=by rfl) (hplain:(backTo cpos (Sy es X.env)).any (·.1)=Sf:=by rfl) :
  PE X (.Call (.Attribute o name apos) (e::es) [] cpos) (N4 X.K T r to t):=by
 intro a s U H Q I h;show wpAny_Call_method_late hbase hfew hline rfl (bd (i a s U H _ I h) λv s1 m=>?_);obtain⟨x,u,g,f,y,q1⟩:=m;obtain⟨A,j⟩:=xD g f y;show⟨T,id,k,b,c,A,j,?_⟩;let d:=l cpos a s1 U u _ g q1;rw[hs] at d⊢
 show Calls.callWith_builtin (by change(Sf||(backTo cpos (Sy es X.env)).any (·.1))=Sf;rw[hplain]<;>rfl) (Calls.evalArgs_plain ?_)
 show bd d λp s2 ⟨w,n,q,B,z⟩=>hm a s2 U n x w v p Q q f B z
/- xs.append(e),list.index on a module's tuple .. are Iu facts of 06m -/
end
def KQ(X:Cx)(id:String)(r:V->List V->Hp->VK->Prop):Prop:=
 ∀(pins:List (Sj×Obj)) (s:Sk) (U:St) (H:Hp) (x:V) (xs:List V) (v:Sh) (us:List Sh) (Q:VK),Inv X pins U H s->RelV x v->Vals xs us->r x xs H Q->
  Sq (So X.prog X.w) X.A (call (.builtin id) (v::us)) (EP X pins U Q) X.xe s
theorem Vals.one{x:V}(h:Vals [x] us):∃u,us=[u]/\RelV x u:=by
 cases h with
 |cons r t=>cases t;show⟨_,rfl,r⟩
theorem Vals.two(h:Vals [x,y] us):∃u v,us=[u,v]/\RelV x u/\RelV y v:=by
 cases h with
 |cons r t=>
  obtain⟨v,rfl,q⟩:=Vals.one t;show⟨_,_,rfl,r,q⟩
theorem Vals.zero:∀{us:List Sh},Vals [] us->us=[]
 |_,.nil=>rfl
section
variable {X:Cx} {pins:List (Sj×Obj)} {U:St} {H:Hp} {s:Sk} {l b:Sj} {xs ys zs:List V}
theorem Inv.lset{a its':List Sh}{f:Array Sh->Array Sh}{t':Nat}(I:Inv X pins U H s)(d:H l=Sb (.lst xs))(e:s.heap.get? l=Sb { cls:=.type "list",data:=.seq a.toArray n })(g:f a.toArray=its'.toArray)(i:Vals ys its')(b:ys.length<=sizeLine) :
  Inv X pins U (upd H l (.lst ys)) { s with heap:=s.heap.update l (Obj.mapSeq f),toks:=t' }:=by
 let q:=PySem.IsL.update e f;rw[g] at q;show I.write (x:=l) (e:=l) (by rw[d];show trivial) (.inl rfl) (λj u c h=>(Qx s.heap (Obj.mapSeq f) (Ne.symm c)).trans h) ⟨_,q⟩ ?_;show⟨b,its',_,i,q⟩
theorem Inv.lnew{a:List Sh}{t':Nat}(I:Inv X pins U H s)(c:Vals ys a)(b:ys.length<=sizeLine) :
  Inv X pins U (upd H s.heap.objs.size (.lst ys)) { s with heap:=s.heap.push { cls:=.type "list",data:=.seq a.toArray },toks:=t' }:=
 I.laid (λ_ _ q=>Oq _ q) (Ox _) ⟨b,a,0,c,OJ _ rfl⟩
theorem Inv.fresh(I:Inv X pins U H s):H s.heap.objs.size=Sd:=I.hok.fresh (Ox _)
theorem Inv.lstM(I:Inv X pins U H s)(b:H l=Sb (.lst xs)):xs.length<=sizeLine/\∃(a:List Sh) (n:Nat),Vals xs a/\xs.length=a.length/\s.heap.get? l=Sb { cls:=.type "list",data:=.seq a.toArray n }:=by
 obtain⟨z,a,n,r,e⟩:=I.hok l _ b;show⟨z,a,n,r,r.length,e⟩
theorem xG{n:Nat}(h:n<=sizeLine):Builtin.List.listTooLong n=Sf:=by
 unfold Builtin.List.listTooLong;show decide_eq_false (by lia)
end
section
variable {X:Cx}
def ui:V->List V->Hp->VK->Prop:=λx vs H Q=>∃l xs y,x=.ref l/\vs=[y]/\H l=Sb (.lst xs)/\xs.length<sizeLine/\Q .non (upd H l (.lst (xs++[y])))
theorem mK:KQ X "list.append" ui:=by
 intro c s U H x k v m Q I g f h;obtain⟨l,i,y,rfl,rfl,b,j,q⟩:=h;cases g;obtain⟨u,rfl,d⟩:=f.one;obtain⟨z,a,n,r,hl,e⟩:=I.lstM b;show call_meets F.slot_list_append ⟨_,e,rfl⟩ F.entry_list_append (F.args_list_append_2 _ _) (PySem.list_append l a.toArray n u (by rw[OC];lia)) ⟨e,?_⟩;show⟨.non,_,I.lset b e (by simp) (r.append (.cons d .nil)) ?_,rfl,q⟩;rw[OF,Rl]
 lia
def uj:V->List V->Hp->VK->Prop:=λx vs H Q=>∃l b xs zs,x=.ref l/\vs=[.ref b]/\H l=Sb (.lst xs)/\H b=Sb (.lst zs)/\xs.length+zs.length<=sizeLine/\Q .non (upd H l (.lst (xs++zs)))
theorem wg:KQ X "list.extend" uj:=by
 intro j s U H x y v B Q I p o h;obtain⟨l,b,A,C,rfl,rfl,i,f,w,q⟩:=h;cases p;obtain⟨u,rfl,t⟩:=o.one;cases t;obtain⟨z,c,n,r,hl,e⟩:=I.lstM i;obtain⟨z2,a,n2,k,m,e2⟩:=I.lstM f;let g:c.toArray.size+a.toArray.size<=sizeLine:=by rw[OC,OC];lia
 let d:¬(!c.toArray.isEmpty&&Builtin.List.listTooLong (c.toArray.size+a.toArray.size))=Se:=by
  rw[xG g,Bool.and_false];show Px
 show call_meets F.slot_list_extend ⟨_,e,rfl⟩ F.entry_list_extend (F.args_list_extend_2 _ _)
  (AutoSeq1.list_extend_list_list_0 l c.toArray n b a.toArray n2 d (by rw[OC];lia) (by lia)) ⟨e,e2,?_⟩
 show⟨.non,_,I.lset i e (by simp) (r.append k) ?_,rfl,q⟩;rw[OF]
 lia
def xH:V->List V->Hp->VK->Prop:=λx vs H Q=>∃l xs,x=.ref l/\vs=[]/\H l=Sb (.lst xs)/\Q .non (upd H l (.lst []))
theorem xI:KQ X "list.clear" xH:=by
 intro d s U H x j v i Q I g f h;obtain⟨l,k,rfl,rfl,c,q⟩:=h;cases g;let a:=f.zero;subst a;obtain⟨z,b,n,r,hl,e⟩:=I.lstM c;show call_meets F.slot_list_clear ⟨_,e,rfl⟩ F.entry_list_clear (F.args_list_clear_1 _) (AutoSeq1.list_clear_list_0 l b.toArray n (by rw[OC];lia)) ⟨e,?_⟩;show⟨.non,_,I.lset (its':=[]) (ys:=[]) c e rfl .nil (OS _),rfl,q⟩
def LR:R2:=λx y H Q=>∃l b xs zs,x=.ref l/\y=.ref b/\H l=Sb (.lst xs)/\H b=Sb (.lst zs)/\xs.length+zs.length<=sizeLine/\∀p,H p=Sd->Q (.ref p) (upd H p (.lst (xs++zs)))
theorem EI:jY X (binaryOp .Add) LR:=by
 intro f s U H x y v u Q I o g h;obtain⟨l,b,w,t,rfl,rfl,i,d,p,q⟩:=h;cases o;cases g;obtain⟨z,c,n,r,hl,e⟩:=I.lstM i;obtain⟨z2,a,n2,k,j,e2⟩:=I.lstM d;show PySem.P.add_list e e2 ?_ (by rw[OC,OC];lia);let m:c.toArray++a.toArray=(c++a).toArray:=by simp
 rw[m];show⟨.ref _,_,I.lnew (r.append k) (by rw[OF];lia),rfl,q _ I.fresh⟩
end
end L2
namespace Att
open PySem PySem.W PySem.Calls PyProof.Rows
theorem j0:∀(c:List Int) (vs:List Sh),WellAll P h vs (c.map WData.int)->IntsAre vs c:=by
 intro c
 induction c with
 |nil=>
  intro vs w;rw[Ql] at w;cases w;show .nil
 |cons n c d=>
  intro vs w;rw[OI] at w
  cases w with
  |cons a b=>
   cases a;show .cons _ _ (d _ b)
theorem wj{l:OpenLaw}(hn:l.most=Sb n){h:Sw}(c:l.row.toRowW.claim.pre args=Se)(j:WellAll P h vals args) :
  ∃a o b,vals=[Value.ref a]/\args=[WData.list (b.map WData.int)]/\h.get? a=Sb { cls:=.type "list",data:=.seq o.toArray }/\IntsAre o b/\b.length<=n:=by
 let k:WShape.hasAll [] args [.list .int]=Se:=(pre_splitW c).1;let m:l.pre.holds [] { args:=args }=Se:=(pre_splitW c).2;obtain⟨d,r,rfl,w,u⟩:=hasAllW_cons k;obtain rfl:=hasAllW_nil u;obtain⟨x,rfl,t⟩:=hasW_list w;obtain⟨b,rfl⟩:=items_int t
 let e:b.length<=n:=by
  unfold OpenLaw.pre at m
  let g:(WTm.not (.lt (.lit (.int (n:Int))) (.len (.arg 0)))).holds [] { args:=[.list (b.map .int)] }=Se:=by
   let g:=(holds_andW m).1;rw[hn] at g;show g
  let i:=condW_of g (w_not (w_lt w_lit (w_len_list (w_arg rfl))));rw[On] at i;show Nat.le_of_not_lt λq=>?_;let p:(n:Int)<((b.length:Nat):Int):=by lia
  first
   |(rw[decide_eq_true p] at i;show absurd i (by decide))
   |(simp at i;lia)
 cases j with
 |cons v w2=>
  cases w2
  cases v with
  |list s f=>show⟨_,_,b,rfl,rfl,s,j0 b _ f,e⟩
theorem wk(l:OpenLaw)(a:List WData):l.row.toRowW.claim.post a (.bool Se) a=Se:=
 postW_of
  (by first|rfl|decide|simp[WShape.has,WShape.arms,WShape.armsAll])
  (w_eq_bool (w_res rfl) w_lit) rfl
theorem pJ{l:OpenLaw}{n:Nat}{YP:Ss->Sw->Prop}{d:DefRec}(hn:l.most=Sb n)(s:d.params.defaults=[])(k:∀(w:Ss) (x b:Sk) (mg y:Str->Option Sh) (g:Sj) (o:Obj) (u p c:Sh) (a:Sj) (vs:List Sh) (m:List Int),
   Ground q loose [] XP w x mg y b.heap->YP w b.heap->
   b.heap.get? g=Sb o->o.data=.func (docDef d.name d.params d.body d.scope u p c)->b.heap.CodeRec p d.name->mg d.name=Sb (.ref g)->
   b.heap.get? a=Sb { cls:=.type "list",data:=.seq vs.toArray }->IntsAre vs m->m.length<=n->b.gens=#[]->
   codeAny (So l.prog w) callerA (.call (.ref g) ⟨[.ref a],[]⟩) (λr s'=>r=.ok (.ret (.bool Se))/\OldK b.heap s'.heap/\s'.os=b.os/\AllBare s'.gens) b) :
  WalkO q loose XP YP l.row.toRowW d [] (λf vs=>PySem.call f vs):=by
 intro w x b mg y G I g o u p c K kV L E z C t Q B D R h A H v O;obtain rfl:K=.none:=Dflts.none C s;obtain rfl:kV=.none:=Dflts.noKw C;obtain⟨a,vs,m,rfl,rfl,i,e,j⟩:=wj hn h v;show enter_call (codeAny_mono (k w x b mg y g o u p c a vs m G I L (fd_plain E) z t i e j Q) λr s' P=>?_);obtain⟨rfl,N,M,F⟩:=P
 show⟨.inl ⟨.bool Se,.bool Se,[],rfl,λ_=>rfl,.bool Se,wk l _,λ_=>⟨List.Pairwise.nil,λ_ hm=>(nomatch hm)⟩⟩,N,M,F⟩
end Att
namespace L2
open PyProof.Rows
theorem mM:∀{vs:List Sh} {a:List Int},IntsAre vs a->Vals (a.map V.int) vs
 |_,_,.nil=>.nil
 |_,_,.cons n t h=>.cons ⟨t,rfl⟩ (mM h)
def EJ(H:Hp):Prop:=∀b,H b=Sd\/∃o xs,H b=Sb (.frz o (.lst xs))
theorem xJ{K:Om}{mg O:Str->Option Sh}{x:Str}{c:Sk}{vs:List Sh}{B:List Int}(U:K.In c.heap)(hns:c.heap.Ns Sz mg)(g:c.heap.Ns builtinsNs O)(Q:∀x:Str,x≠"__name__"->O x=bootBuiltins x)(A:c.heap.NoLimit)(hg:c.gens=#[])(L:c.heap.get? a=Sb { cls:=.type "list",data:=.seq vs.toArray })(hi:IntsAre vs B)(hl:B.length<=sizeLine)(hr:Room k callerA)(F:∀base:Sw,K.In base->base.Ns Sz mg->FnOk P w K mg base CX k fa fd [x] sp)(j:∀(s:Sk) (u:Sh),BindsTo s fd ⟨[u],[]⟩ [(x,u)])(N:∀H:Hp,EJ H->SqL K H a (B.map V.int)->sp [.ref a] H (λv _=>v=.bl Se) λ_ _ _=>False)(M:∀H e s',CX [] H c (λ_ _ _=>False) e s'->False) :
  codeAny (So P w) callerA (.call (.ref fa) ⟨[.ref a],[]⟩) (λr s'=>r=.ok (.ret (.bool Se))/\OldK c.heap s'.heap/\s'.os=c.os/\AllBare s'.gens) c:=by
 let Y:=mM hi;let t:=hi.length
 -- from an abstract heap in which nothing but the script may be tracked
 let i:∀H:Hp,EJ H->SqL K H a (B.map V.int)->HOk P w H c.heap->(∀b,H b≠Sd->b=a)->(H a≠Sd->K.lookup a=Sd)->
   codeAny (So P w) callerA (.call (.ref fa) ⟨[.ref a],[]⟩) (λr s'=>r=.ok (.ret (.bool Se))/\OldK c.heap s'.heap/\s'.os=c.os/\AllBare s'.gens) c:=by
  intro H W hS l T hK;let f:∀{b:Sj} {o:Obj},c.heap.get? b=Sb o->H b=Sd->(nJ c.heap H).get? b=Sb o:=λe n=>xi e n
  let R:∀{b:Sj} {o:Obj} {I:Array DictEntry} {y:Nat},c.heap.get? b=Sb o->o.data=.dict I y->H b=Sd:=λ{b o I y} e d=>by
   cases q:H b with
   |none=>rfl
   |some u=>
    let S:b=a:=T b (by rw[q];simp);subst S;rw[L] at e;cases e;let d':Data.seq vs.toArray _=Data.dict I y:=d;cases d'
  let Av:∀{b:Sj} {m:Str->Option Sh},c.heap.Ns b m->(nJ c.heap H).Ns b m:=λ{b m} ⟨o,I,y,e,d,r⟩=>⟨o,I,y,f e (R e d),d,r⟩
  let D:K.In (nJ c.heap H):=λb o e=>f (U b o e) (by
   cases q:H b with
   |none=>rfl
   |some u=>
    let S:b=a:=T b (by rw[q];simp);subst S;rw[hK (by rw[q];simp)] at e;cases e)
  let hM:Mod K mg (nJ c.heap H):=⟨D,Av hns,⟨O,Av g,Q⟩,let ⟨mc,h1,h2⟩:=A;⟨mc,Av h1,h2⟩⟩;let e0:Env0 P w K mg (nJ c.heap H) callerA [] c H:=⟨rfl,hM,λb o e=>AC e,QV (v3 _ _),trivial,λb g=>absurd (show b∈([]:List Sj) from g) (by simp),l,.of_eq hg⟩;show codeAny_mono ((F _ D (Av hns)).run callerA [] c H ⟨[.ref a],[]⟩ [.ref a] [.ref a] _ _ hr e0 (j c (.ref a)) (.cons rfl .nil) (N H W hS)) λr s' h=>?_
  cases r with
  |error e=>show(M H e s' h).elim
  |ok fl=>
   cases fl with
   |next=>show False.elim h
   |brk=>show False.elim h
   |cont=>show False.elim h
   |ret u=>
    obtain⟨v,H',Z,p,X,E,r',q⟩:=h;let q':v=.bl Se:=q;subst q';obtain rfl:u=Value.bool Se:=r';show⟨rfl,OldK.of_keep λb o e=>?_,Z,p⟩
    cases q:H b with
    |none=>show X.keep b o e q (by intro z;show absurd (show b∈([]:List Sj) from z) (by simp)) (by simp)
    |some u=>
     rcases W b with z|⟨ob,xs,z⟩
     ·rw[q] at z;cases z
     ·let z2:=X.frzs b ob _ z;obtain⟨e1,_⟩:=l b _ z;obtain⟨e2,_⟩:=E b _ z2;rw[e] at e1;cases e1;show e2
 cases hk:K.lookup a with
 |some o=>
  -- the script is one of the module's own objects
  let e:=U a o hk;rw[L] at e;cases e;show i (λ_=>Sd) (λ_=>.inl rfl) (.inr ⟨_,vs.toArray,_,hk,rfl,rfl,rfl,by rw[OC,t];show hl,by simpa using Y⟩) (λb u z=>by let C:(Sd:Option HO)=Sb u:=z;cases C) (λb z=>absurd rfl z) λz=>absurd rfl z
 |none=>
  show i (λb=>if b=a then Sb (.frz { cls:=.type "list",data:=.seq vs.toArray } (.lst (B.map V.int))) else Sd) (λb=>?_) (.inl (.inr ⟨{ cls:=.type "list",data:=.seq vs.toArray },if_pos rfl⟩)) (λb u z=>?_) (λb z=>?_) λ_=>hk
  ·by_cases g:b=a
   ·show .inr ⟨_,_,if_pos g⟩
   ·show .inl (if_neg g)
  ·by_cases g:b=a
   ·let C:=(if_pos g).symm.trans z;cases C;subst g;show⟨L,by rw[On];show hl,vs,_,Y,L⟩
   ·let C:=(if_neg g).symm.trans z;cases C
  ·by_cases g:b=a
   ·show g
   ·show absurd (if_neg g) z
theorem AX{l:PySem.W.OpenLaw}{n k:Nat}{YP:Ss->Sw->Prop}{d:DefRec}{K:Params->Om}{CX:Ss->wc}{sp:Ss->Sp}{x:Str}(hn:l.most=Sb n)(z:n<=sizeLine)(t:d.params.defaults=[])(O:Room k callerA)(B:∀(w:Ss) (h:Sw),YP w h->(K w.params).In h)(F:∀(w:Ss) (mg:Str->Option Sh) (m:Sj) (h:Sw),(K w.params).In h->h.Ns Sz mg->mg d.name=Sb (.ref m)->
   ∃fd:SG,(∀(s:Sk) (u:Sh),BindsTo s fd ⟨[u],[]⟩ [(x,u)])/\
    ∀base:Sw,(K w.params).In base->base.Ns Sz mg->FnOk l.prog w (K w.params) mg base (CX w) k m fd [x] (sp w))(A:∀(w:Ss) (H:Hp) (a:Sj) (p:List Int),p.length<=n->EJ H->SqL (K w.params) H a (p.map V.int)->sp w [.ref a] H (λv _=>v=.bl Se) λ_ _ _=>False)(r:∀(w:Ss) (H:Hp) (s:Sk) (e:Sh) (s':Sk),CX w [] H s (λ_ _ _=>False) e s'->False) :
  PySem.W.WalkO q loose XP YP l.row.toRowW d [] (λf D=>PySem.call f D):=by
 show Att.pJ hn t λw Z P mg mb m o X Y E a D p G I ho U Q y j i c S=>?_;let C:=B w _ I;obtain⟨fd,M,N⟩:=F w mg m _ C G.T.g y;show xJ C G.T.g G.T.b G.T.builtins G.T.nolimit S j i (OW c z) O N M (λH L R=>A w H a p c L R) λH e s'=>r w H P e s'
noncomputable def cz(s:Su):Arguments:=match s with
 |.FunctionDef _ a _ _ _ _ _ _ _ _=>a
 |_=>{ posonlyargs:=[],args:=[],vararg:=Sd,kwonlyargs:=[],kw_defaults:=[],kwarg:=Sd,defaults:=[] }
noncomputable def aU(s:Su):List Su:=match s with
 |.FunctionDef _ _ b _ _ _ _ _ _ _=>b
 |_=>[]
noncomputable def ai(s:Su):SA:=match s with
 |.FunctionDef _ _ _ _ _ _ sc _ _ _=>sc
 |_=>{ kind:=.function,names:=[],isGenerator:=Sf,isCoroutine:=Sf }
abbrev rz:wc:=λ_ _ _ _ _ _=>False
noncomputable abbrev E0:XK:=λ_ _ _=>False
theorem pK:gX rz X E0:=λ_ _ _ _ _ _ _ h=>h.elim
structure Fun(K:Om)(x qual:Str)(st:Stmt)(f:Addr)(fd:FuncData):Prop where
 ex:∃(oc:Sh) (od:Option Sj) (kV doc pm:Sh) (an:Option Sj) (cdv ct:Sh) (osl:Array (Option Sh)),
  fd=Pl x qual (cz st) (aU st) (ai st) .none kV doc pm an cdv ct/\K.lookup f=Sb ⟨oc,od,.func fd,osl⟩/\Qn K cdv qual=Se
 kp:Pg K (.ref f)=Se
section
variable {P:Sr} {w:Ss} {K:Om} {mg:Str->Option Sh} {base:Sw}
theorem Fun.ok{x qual:Str}{st:Su}{f:Sj}{fd:SG}{N ps:List Str}{k:Nat}{sp:Sp}(F:Fun K x qual st f fd)(S:bc N ps (ai st))(c:∀vs H Q E,sp vs H Q E->vs.length=ps.length)
  (hbody:∀(b:Sh) (A:Sv) (a:List Env) (s:Sk) (H:Hp) (vs:List V) (Q:VK) (E:XK),Room k (A.deeper (envOfC qual (ai st) s.heap.objs.size f b))->sp vs H Q E->
   ∃t,PSs (rX rz P w K mg base N qual (ai st) f b A a s H E).nox (aU st) t/\t { nx:=λ_ g=>Q .non g,rt:=Q } (cU N vs) H):FnOk P w K mg base rz (k+1) f fd ps sp:=by
 obtain⟨n,o,kV,i,p,an,b,r,j,rfl,m,e⟩:=F.ex;show Iq m e S c λA a s H vs Q E l d=>?_;obtain⟨t,h,q⟩:=hbody b A a s H vs Q E l d;show⟨t,h.nox,q⟩
theorem Fun.binds{x qual:Str}{st:Su}{f:Sj}{fd:SG}{ps:List Str}(F:Fun K x qual st f fd)
  (h:∀(kV a c:Sh) (an:Option Sj) (b d:Sh) (e:List Sh),e.length=ps.length->bindArgs (Pl x qual (cz st) (aU st) (ai st) .none kV a c an b d) ⟨e,[]⟩=pure (ps.zip e)):Binds K fd ps []:=by
 obtain⟨j,k,kV,a,c,an,b,d,g,rfl,l,i⟩:=F.ex;show .all (h kV a c an b d)
theorem xK{x qual:Str}{st:Su}{f:Sj}{g:Sh}{od an:Option Sj}{b:Array (Option Sh)}{kV a d cdv e:Sh}(l:K.lookup f=Sb ⟨g,od,.func (Pl x qual (cz st) (aU st) (ai st) .none kV a d an cdv e),b⟩)
  (c:Qn K cdv qual=Se) (k:Pg K (.ref f)=Se):Fun K x qual st f (Pl x qual (cz st) (aU st) (ai st) .none kV a d an cdv e):=⟨⟨g,od,kV,a,d,an,cdv,e,b,rfl,l,c⟩,k⟩
end
theorem xL{A a:Prop}(h:a):if Sf=Se then A else a:=by
 rw[if_neg Px];show h
theorem xM{A a:Prop}(h:A):if Se=Se then A else a:=by
 rw[if_pos rfl];show h
def Same(H H':Hp):Prop:=∀b o,H b=Sb o->H' b=Sb o
theorem Same.refl(H:Hp):Same H H:=λ_ _ h=>h
theorem Same.trans(a:Same H H1)(b:Same H1 H2):Same H H2:=λc o h=>b c o (a c o h)
theorem Same.free{H H':Hp}(e:Same H H')(h:H' l=Option.none):H l=Option.none:=by
 cases q:H l with
 |none=>rfl
 |some o=>
  rw[e l o q] at h;cases h
section
variable {κ:Type} [DecidableEq κ]
noncomputable def iq(q:List (κ×V))(k:κ):Option V:=(q.find? λB=>decide (B.1=k)).map (·.2)
noncomputable def bI(q:List (κ×V))(k:κ)(v:V):List (κ×V):=
 if(q.any λB=>decide (B.1=k))=Se then q.map (λB=>if B.1=k then(B.1,v) else B) else q++[(k,v)]
theorem kP{p:κ×V}(e:p.1=k):iq (p::r) k=Sb p.2:=by simp[iq,PC,e]
theorem kQ{p:κ×V}(e:¬p.1=k):iq (p::r) k=iq r k:=by simp[iq,PC,e]
theorem pL(k:κ):∀a:List (κ×V),(a.any λb=>decide (b.1=k))=(iq a k).isSome
 |[]=>rfl
 |p::r=>by
  rw[QO];by_cases e:p.1=k
  ·simp only[kP e,decide_eq_true e,Bool.true_or,RI]
  ·rw[kQ e,decide_eq_false e,Bool.false_or];show pL k r
theorem cm(a:List (κ×V))(k:κ)(v:V):(bI a k v).length<=a.length+1:=by
 unfold bI;split
 ·rw[On];lia
 ·rw[OF,OM,Q9];lia
theorem RelO.isSome_eq{o:Option V}{u:Option Sh}(r:RelO o u):o.isSome=u.isSome:=by
 cases o with
 |none=>cases u with
  |none=>rfl
  |some _=>show(r).elim
 |some _=>cases u with
  |none=>show(r).elim
  |some _=>rfl
theorem KV.val(r:KV kvs vs)(k:κ):RelO (iq kvs k) (valueAt vs k):=by
 unfold KV at r
 induction r with
 |nil=>show True.intro
 |@cons p q i a h t g=>
  obtain⟨d,f⟩:=h;by_cases e:p.1=k
  ·let c:q.1=k:=d.symm.trans e;let b:valueAt (q::a) k=Sb q.2:=by simp[valueAt,PC,c]
   rw[kP e,b];show f
  ·let c:¬q.1=k:=λz=>e (d.trans z);let b:valueAt (q::a) k=valueAt a k:=by simp[valueAt,PC,c]
   rw[kQ e,b];show g
theorem KV.any{a:List (κ×V)}{vs:List (κ×Sh)}(r:KV a vs)(k:κ):(a.any λb=>decide (b.1=k))=vs.any λb=>decide (b.1=k):=by
 unfold KV at r
 induction r with
 |nil=>rfl
 |cons h t c=>rw[QO,QO,c,h.1]
theorem KV.repl{b:List (κ×V)}{vs:List (κ×Sh)}(r:KV b vs)(k:κ)(d:RelV y u) :
  KV (b.map λa=>if a.1=k then(a.1,y) else a) (vs.map λa=>if a.1=k then(a.1,u) else a):=by
 unfold KV at r⊢
 induction r with
 |nil=>show .nil
 |@cons p q i j h t g=>
  rw[OI,OI];show .cons ?_ g;obtain⟨c,f⟩:=h;by_cases e:p.1=k
  ·rw[if_pos e,if_pos (c.symm.trans e)];show⟨c,d⟩
  ·rw[if_neg e,if_neg (λz=>e (c.trans z))];show⟨c,f⟩
theorem KV.put(r:KV kvs vs)(k:κ)(a:RelV y u):KV (bI kvs k y) (stored vs k u):=by
 unfold bI stored;rw[r.any k];by_cases e:(vs.any λb=>decide (b.1=k))=Se
 ·rw[if_pos e,if_pos e];show r.repl k a
 ·rw[if_neg e,if_neg e];show Paired.snoc r ⟨rfl,a⟩
theorem KV.length{a:List (κ×V)}{vs:List (κ×Sh)}(r:KV a vs):a.length=vs.length:=Paired.length r
end
theorem jG(r:RelV (kV k) u):(aF P w).is k u=Se:=by
 cases k with
 |inl i=>obtain⟨t,e⟩:=(r);subst e;show ph P w i t
 |inr x=>obtain⟨t,e⟩:=(r);subst e;show pi P w x t
theorem mN:∀{a:List ay} {us:List Sh},Vals (a.map kV) us->ItemsAre (aF P w) a us
 |[],_,r=>by rw[Ql] at r;cases r;show .nil
 |k::a,_,r=>by
  rw[OI] at r
  cases r with
  |cons h t=>show .cons (jG h) (mN t)
abbrev KT(m:Nat)(H:Hp):List (List (ay ⊕ List ay)×V)->List (List (ay ⊕ List ay)×Sj×Sh)->Prop:=Paired λp q=>p.1=q.1/\TkAt H m p.1 q.2.1/\RelV p.2 q.2.2
theorem KT.val(r:KT m H kvs xs)(k:List (ay ⊕ List ay)):RelO (iq kvs k) ((atKey xs k).map (·.2)):=by
 induction r with
 |nil=>show True.intro
 |@cons p q i a h t g=>
  obtain⟨d,_,f⟩:=h;by_cases e:p.1=k
  ·let c:q.1=k:=d.symm.trans e;let b:atKey (q::a) k=Sb q.2:=by simp[atKey,PC,c]
   rw[kP e,b];show f
  ·let c:¬q.1=k:=λz=>e (d.trans z);let b:atKey (q::a) k=atKey a k:=by simp[atKey,PC,c]
   rw[kQ e,b];show g
theorem KT.repl{a:List (List (ay ⊕ List ay)×V)}{xs:List (List (ay ⊕ List ay)×Sj×Sh)}(r:KT m H a xs)(k:List (ay ⊕ List ay))(f:RelV y u) :
  KT m H (a.map λc=>if c.1=k then(c.1,y) else c) (xs.map (putAt k u)):=by
 induction r with
 |nil=>show .nil
 |@cons p q j l h t i=>
  rw[OI,OI];show .cons ?_ i;obtain⟨b,d,g⟩:=h;unfold putAt;by_cases e:p.1=k
  ·rw[if_pos e,if_pos (b.symm.trans e)];show⟨b,d,f⟩
  ·rw[if_neg e,if_neg (λz=>e (b.trans z))];show⟨b,d,g⟩
theorem KT.put{m:Nat}{H:Hp}{a:List (List (ay ⊕ List ay)×V)}{xs:List (List (ay ⊕ List ay)×Sj×Sh)}(r:KT m H a xs)(k:List (ay ⊕ List ay)){b:Sj}{y:V}{u:Sh}(d:TkAt H m k b)(c:RelV y u) :
  KT m H (bI a k y) (storedH xs k b u):=by
 let e:(a.any λf=>decide (f.1=k))=(atKey xs k).isSome:=by
  rw[pL,(r.val k).isSome_eq,Option.isSome_map]
 unfold bI storedH;rw[e];by_cases q:(atKey xs k).isSome=Se
 ·rw[if_pos q,if_pos q];show r.repl k c
 ·rw[if_neg q,if_neg q];show Paired.snoc r ⟨rfl,d,c⟩
theorem KT.keeps{H H':Hp}(r:KT m H kvs xs)(a:∀b ys,H b=Sb (.tup ys)->H' b=Sb (.tup ys)):KT m H' kvs xs:=
 Paired.mapP r λ_ _ z=>⟨z.1,z.2.1.keep a,z.2.2⟩
section
variable {P:Sr} {w:Ss} {H:Hp} {h:Sw} {a:Sj}
theorem Db(b:HOk P w H h)(e:Rd H a u):ObjOk P w H h a u:=e.ok b
theorem xN{b:List (ay×V)}(c:HOk P w H h)(e:Rd H a (.dK b)):b.length<=sizeLine/\(a==sysModules)=Sf/\∃vs,KV b vs/\h.DictOf (aF P w) a vs:=
 show ObjOk P w H h a (.dK b) from Db c e
theorem pM{b:List (ay×V)}(c:HOk P w H h)(e:H a=Sb (.dK b)):b.length<=sizeLine/\(a==sysModules)=Sf/\∃vs,KV b vs/\h.DictOf (aF P w) a vs:=xN c (.inl e)
theorem EK{c:List ay}(g:HOk P w H h)(e:H a=Sb (.tup (c.map kV))):(tupleKind (aF P w)).is h c a:=by
 obtain⟨_,b,r,o,i,d,n,f⟩:=(g a _ e);show⟨o,b.toArray,n,i,d,f,by simpa using mN r⟩
theorem mO{A:Sv}(a:A.units+9<cLine):(eh m (aF P w)).room A.in1:=by
 change A.units+1+8<cLine
 lia
theorem kR:∀{m:Nat} {d:List (ay ⊕ List ay)} {vs:List V} {us:List Sh},HOk P w H h->TkIts H m d vs->Vals vs us->Its2 (aF P w) h m d us
 |_,[],_,_,ok,r,v=>by cases(r);cases v;show .nil
 |m,.inl k::xs,_,_,ok,r,v=>by
  obtain⟨e,rfl,z,t⟩:=r
  cases v with
  |cons c a=>show .key z (jG c) (kR ok t a)
 |m,.inr d::xs,_,_,ok,r,v=>by
  obtain⟨b,e,rfl,z,g,t⟩:=r
  cases v with
  |@cons _ u _ _ c a=>
   cases(c);show .tup z (EK ok g) (kR ok t a)
theorem ir(c:HOk P w H h)(e:TkAt H m ks a):(eh m (aF P w)).is h ks a:=by
 obtain⟨j,g,r⟩:=e;obtain⟨_,b,q,o,i,d,n,f⟩:=(c a _ g);show⟨o,b.toArray,n,i,d,f,by simpa using kR c r q⟩
theorem xO{b:List (List (ay ⊕ List ay)×V)}(g:HOk P w H h)(e:Rd H a (.dT m ep b)):b.length<=sizeLine/\(a==sysModules)=Sf/\
  ∃d,KT m H b d/\h.DictOfH (eh m (aF P w)) a d:=by
 obtain⟨z,y,d,r,o,v,B,j,k,s,u⟩:=(Db g e);show⟨z,y,d,r,o,v,ep,B,j,k,s,λx c=>?_,u⟩
 let f:∀{l:List (List (ay ⊕ List ay)×V)} {n:List (List (ay ⊕ List ay)×Sj×Sh)},KT m H l n->∀x∈n,(eh m (aF P w)).is h x.1 x.2.1:=by
  intro l n q
  induction q with
  |nil=>intro x c;show nomatch c
  |@cons p q D C i t A=>
   intro x c;rcases OD.mp c with e|c
   ·subst e;show ir g (by rw[<- i.1];show i.2.1)
   ·show A x c
 show f r x c
theorem xP{b:List (List (ay ⊕ List ay)×V)}(d:HOk P w H h)(e:H a=Sb (.dT m ep b)):b.length<=sizeLine/\(a==sysModules)=Sf/\
  ∃c,KT m H b c/\h.DictOfH (eh m (aF P w)) a c:=xO d (.inl e)
end
def DGet(H:Hp)(a:Sj)(y:V)(r:Option V):Prop:=
 (∃q k,Rd H a (.dK q)/\y=kV k/\r=iq q k)\/∃m B q k b,Rd H a (.dT m B q)/\y=.ref b/\TkAt H m k b/\r=iq q k
def DPut(H:Hp)(a:Sj)(y v:V)(F:Nat->Hp):Prop:=
 (∃q k,H a=Sb (.dK q)/\y=kV k/\q.length<sizeLine/\F=λ_=>upd H a (.dK (bI q k v)))\/
 ∃m B q k b,H a=Sb (.dT m B q)/\y=.ref b/\TkAt H m k b/\q.length<sizeLine/\F=λe=>upd H a (.dT m e (bI q k v))
theorem DGet.k{H:Hp}{a:Sj}{b:List (ay×V)}{k:ay}(e:H a=Sb (.dK b)):DGet H a (kV k) (iq b k):=.inl ⟨b,k,.inl e,rfl,rfl⟩
theorem DGet.t{H:Hp}{a b:Sj}{m d:Nat}{c:List (List (ay ⊕ List ay)×V)}{k:List (ay ⊕ List ay)}(e:H a=Sb (.dT m d c))(f:TkAt H m k b):DGet H a (.ref b) (iq c k):=.inr ⟨m,d,c,k,b,.inl e,rfl,f,rfl⟩
theorem DPut.k{H:Hp}{a:Sj}{b:List (ay×V)}{k:ay}{v:V}(e:H a=Sb (.dK b))(hl:b.length<sizeLine):DPut H a (kV k) v λ_=>upd H a (.dK (bI b k v)):=.inl ⟨b,k,e,rfl,hl,rfl⟩
theorem DPut.t{H:Hp}{a b:Sj}{m d:Nat}{c:List (List (ay ⊕ List ay)×V)}{k:List (ay ⊕ List ay)}{v:V}(e:H a=Sb (.dT m d c))(f:TkAt H m k b)(hl:c.length<sizeLine) :
  DPut H a (.ref b) v λe=>upd H a (.dT m e (bI c k v)):=.inr ⟨m,d,c,k,b,e,rfl,f,hl,rfl⟩
section
variable {X:Cx} {pins:List (Sj×Obj)} {U:St} {H:Hp} {s:Sk} {a:Sj} {y v:V} {u r:Sh} {o:Option V} {A:Sv} {E:Sh->Sk->Prop}
theorem Inv.big(I:Inv X pins U H s):sysModules<s.heap.objs.size:=by
 let h:Sz<s.heap.objs.size:=(I.mod.glob.keeps I.bk).lt;show QB (by decide) h
theorem wl{Q:Sh->Sk->Prop}(C:A.units+9<cLine)(I:Inv X pins U H s)(g:DGet H a y (Sb v))(r:RelV y u)(h:∀f s',Inv X pins U H s'->RelV v f->Q f s') :
  Sq (So X.prog X.w) A (getItem (.ref a) u) Q E s:=by
 rcases g with⟨i,k,e,q,l⟩|⟨m,F,i,k,b,e,q,x,l⟩
 ·subst q;obtain⟨z,t,K,c,n⟩:=xN I.hok e;obtain⟨f,j,d⟩:=RelO.some_of (by rw[l];show c.val k);show wpAny_getItem_of (jG r) n.mapOf j (h f _ (I.tok _) d)
 ·subst q;cases(r);obtain⟨z,t,D,c,n⟩:=xO I.hok e;obtain⟨f,j,d⟩:=RelO.some_of (by rw[l];show c.val k);obtain⟨p,B,o⟩:=Rg.mp j;show wpAny_getItem_heap (mO C) (ir I.hok x) n B ?_;rw[o];show h f _ (I.tok _) d
theorem gp{h':Sw}{t':Nat}(I:Inv X pins U H s)(e:HY (H a))(d:Heap.SameBut a s.heap h')(g:∃q,h'.get? a=Sb q)(c:ObjOk X.prog X.w (upd H a ob) h' a ob) :
  Inv X pins U (upd H a ob) { s with heap:=h',toks:=t' }:=
 I.write e (.inl rfl) (λb q f z=>(d.2 b f).trans z) g c
theorem rZ{h':Sw}{b:List (ay×V)}(z:b.length<=sizeLine)(hd:(a==sysModules)=Sf)(c:KV b vs)(d:h'.DictOf (aF P w) a vs) :
  ObjOk P w H' h' a (.dK b):=⟨z,hd,vs,c,d⟩
theorem wm{F:Nat->Hp}{Q:Unit->Sk->Prop}(Z:A.units+9<cLine)(I:Inv X pins U H s)(g:DPut H a y v F)(D:RelV y u)(M:RelV v r)(h:∀e s',Inv X pins U (F e) s'->Q () s') :
  Sq (So X.prog X.w) A (setItem (.ref a) u r) Q E s:=by
 rcases g with⟨d,k,e,p,l,x⟩|⟨m,C,d,k,b,e,p,L,l,x⟩
 ·subst p x;obtain⟨z,o,P,f,t⟩:=pM I.hok e;let N:P.length<=sizeLine:=by rw[<- f.length];show z
  let hl:(bI d k v).length<=sizeLine:=by have:=cm d k v;lia
  show wpAny_setItem_pairs (jG D) t λK i n=>h 0 _ ?_;let R:∃q,K.get? a=Sb q:=let ⟨q,_,_,j,_⟩:=i;⟨q,j⟩;show gp I (by rw[e];show True.intro) n R (rZ hl o (f.put k M) i)
 ·subst p x;cases(D);obtain⟨z,o,S,f,t⟩:=xP I.hok e;let N:S.length<=sizeLine:=by rw[<- Paired.length f];show z
  let hl:(bI d k v).length<=sizeLine:=by have:=cm d k v;lia
  show wpAny_setItem_heap (mO Z) (ir I.hok L) t λK i n=>?_;obtain⟨q,Y,C,j,V,T,O,_,W⟩:=i;show h C _ ?_;show gp I (by rw[e];show True.intro) n ⟨q,j⟩ ⟨hl,o,_,(f.put k L M).keeps λc ys B=>?_,q,Y,j,V,T,O,W⟩
  rw[ac (xh B e (λz=>nomatch z))]
  show B
end
def IA(i:Si):Prop:=∀q B,subscripted i Sf q B=operate [q,B] (getItem q B)
theorem AY{T id:String}(hl:typeLookup (.type T) "__getitem__" = pure (Sb (.builtin id)))(g:IA slice)(h:Sq (So prog w) A (eval value env) (λo f=>Sq (So prog w) A (eval slice env) (λi b=>b.TypeIs o T/\Sq (So prog w) A (getItem o i) Q E b) E f) E s) :
  Sq (So prog w) A (eval (.Subscript value slice pos) env) Q E s:=by
 show Subscript_ (wpAny_mono h (λo f j=>wpAny_mono j (λi b c=>?_) λ_ _ x=>x) λ_ _ x=>x);obtain⟨e,c⟩:=c;unfold subscriptTail;show Sm ?_;rw[getitemInPython_of_ne e.not_modules];show Sm (wpAny_specialOf e hl ?_)
 let a:Sq (So prog w) A (subscripted slice Sf o i) (λr d=>Sq (So prog w) A (letTemporaryGo value o r >>= λ_=>pure r) Q E d) E b:=by
  rw[g o i];show wpAny_operating (wpAny_mono c (λr d k=>Sm (wpAny_letTemporaryGo (Sn k))) λ_ _ x=>x)
 first
  |show Sn (Sm a)
  |show Sm (Sn (Sm a))
  |show Sm a
theorem pN{s:Sk}(I:Inv X pins U H s)(g:DGet H a y o):s.TypeIs (.ref a) "dict":=by
 rcases g with⟨c,k,e,_,_⟩|⟨m,i,c,k,b,e,_,_,_⟩
 ·obtain⟨_,_,f,_,d⟩:=xN I.hok e;show d.typeIs
 ·obtain⟨_,_,h,_,d⟩:=xO I.hok e;show d.typeIs
def IB(td ty:TE):TE:=λU H Q=>td U H λx H1=>ty U H1 λy H2=>∃a v,x=.ref a/\DGet H2 a y (Sb v)/\Q v H2
def IC(td ty tv:TE):TS:=λD U H=>tv U H λv H1=>td U H1 λx H2=>ty U H2 λy q=>∃a F,x=.ref a/\DPut q a y v F/\∀e,D.nx U (F e)
section
variable {X:Cx} {o i e value:Si} {pos pos' tpos:Pos} {td ty tv:TE}
theorem nS(w:X.A.units+9<cLine)(e:PE X o td)(hi:PE X i ty)(f:IA i):PE X (.Subscript o i pos) (IB td ty):=by
 intro b s U H Q I h;show AY PySem.F.slot_dict_getitem.lookup f (bd (e b s U H _ I h) λu s1 ⟨x,p,n,t,q1⟩=>bd (hi b s1 U p _ n q1) λB s2 k=>?_);obtain⟨y,l,d,j,a,v,q,g,r⟩:=k;subst q;obtain rfl:u=Value.ref a:=t;show⟨pN d g,wl w d g j λz s3 m c=>⟨v,l,m,c,r⟩⟩
theorem AZ(E:X.A.units+9<cLine)(q:PE X o td)(hi:PE X i ty)(j:PE X value tv)(c:swapsWith value (Sb (.Subscript o i pos')) pos.line X.env=pure Sf) :
  PS X (.Assign [.Subscript o i pos'] value pos) (IC td ty tv):=by
 intro b s U H D I h;show wpAny_Assign_Subscript (bd (j b s U H _ I h) λr s1 ⟨v,l,z,B,q1⟩=>bd (q b s1 U l _ z q1) λu s2 ⟨x,d,k,C,p⟩=>bd (hi b s2 U d _ k p) λL s3 ⟨y,K,w,t,a,F,n,g,f⟩=>?_) c;subst n;obtain rfl:u=Value.ref a:=C;show wm E w g t B λe s4 m=>⟨U,F e,m,f e⟩
end
theorem pO(h:Sw)(a:sysModules<h.objs.size):ObjOk P w H (h.push { cls:=.type "dict",data:=.dict #[] }) h.objs.size (.dK []):=
 ⟨OS _,beq_eq_false_iff_ne.mpr (Ne.symm (OG a)),[],.nil,Heap.DictOf.new h⟩
theorem pP(h:Sw)(a:sysModules<h.objs.size):ObjOk P w H (h.push { cls:=.type "dict",data:=.dict #[] }) h.objs.size (.dT m 0 []):=
 ⟨OS _,beq_eq_false_iff_ne.mpr (Ne.symm (OG a)),[],.nil,_,#[],OJ _ rfl,⟨rfl,rfl,rfl⟩,rfl,rfl,Rm⟩
def EL:TE:=λ_ H Q=>∀p,H p=Sd->Q (.ref p) (upd H p (.dK []))
def EM(m:Nat):TE:=λ_ H Q=>∀p,H p=Sd->Q (.ref p) (upd H p (.dT m 0 []))
section
variable {X:Cx} {pos:Pos}
theorem xQ:PE X (.Dict [] [] pos) EL:=λa s U H Q I h=>
 wpAny_Dict_empty ⟨.ref s.heap.objs.size,_,I.laid (λ_ _ q=>Oq _ q) (Ox _) (pO s.heap I.big),rfl,h _ (I.hok.fresh (Ox _))⟩
theorem xR:PE X (.Dict [] [] pos) (EM m):=λa s U H Q I h=>
 wpAny_Dict_empty ⟨.ref s.heap.objs.size,_,I.laid (λ_ _ q=>Oq _ q) (Ox _) (pP s.heap I.big),rfl,h _ (I.hok.fresh (Ox _))⟩
end
def nT:List (TE×TE)->St->Hp->(List (V×V)->Hp->Prop)->Prop
 |[],_,H,Q=>Q [] H
 |(tk,tv)::r,U,H,Q=>tk U H λx H1=>tv U H1 λy H2=>nT r U H2 λps q=>Q ((x,y)::ps) q
abbrev VV:List (V×V)->List (Sh×Sh)->Prop:=Paired λp q=>RelV p.1 q.1/\RelV p.2 q.2
def ID(X:Cx)(pos:Pos)(B:List (Option Si))(q:List Si)(O:List (TE×TE)):Prop:=
 ∀(pins:List (Sj×Obj)) (s:Sk) (U:St) (H:Hp) (Q:List (V×V)->Hp->Prop),Inv X pins U H s->nT O U H Q->
  Sq (So X.prog X.w) X.A (evalPairs (pairTrees B q X.env pos)) (λvs s'=>∃ps H',Inv X pins U H' s'/\VV ps vs/\Q ps H') X.xe s
theorem uk:ID X pos [] [] []:=λa s U H Q I h=>pairTrees_nil_walk ⟨[],H,I,.nil,h⟩
theorem pQ(hk:PE X k tk)(g:PE X v tv)(f:ID X pos ks vs trs) :
  ID X pos (Sb k::ks) (v::vs) ((tk,tv)::trs):=λa s U H Q I h=>
 pairTrees_cons_walk (bd (hk a s U H _ I h) λu s1 ⟨x,j,i,q,q1⟩=>bd (g a s1 U j _ i q1) λw2 s2 ⟨y,d,l,c,p⟩=>
  bd (f a s2 U d _ l p) λr s3 ⟨m,o,n,b,e⟩=>⟨(x,y)::m,o,n,.cons ⟨q,c⟩ b,e⟩)
def eQ(B q:List (ay×V)):List (ay×V):=q.foldl (λO W=>bI O W.1 W.2) B
theorem KV.merge:∀{b:List (ay×V)} {rs:List (ay×Sh)} {a:List (ay×V)} {vs:List (ay×Sh)},KV b rs->KV a vs->KV (eQ a b) (merged vs rs):=by
 intro b rs a vs r;unfold KV at r
 induction r generalizing a vs with
 |nil=>intro q;show q
 |@cons p q f g h t d=>
  intro c
  let e:KV (bI a p.1 p.2) (stored vs q.1 q.2):=by
   have:=c.put p.1 h.2;rw[<- h.1];show this
  show d e
theorem gG:∀(b a:List (ay×V)),(eQ a b).length<=a.length+b.length
 |[],a=>by change a.length<=a.length+0;lia
 |p::r,a=>by
  let c:=gG r (bI a p.1 p.2);let d:=cm a p.1 p.2;change(eQ (bI a p.1 p.2) r).length<=_;rw[OM];lia
theorem kU:∀{d:List (ay×V)} {e:List (Sh×Sh)},VV (d.map λf=>(kV f.1,f.2)) e->∃rs,Carries (aF P w) e rs/\KV d rs
 |[],_,r=>by rw[Ql] at r;cases r;show⟨[],True.intro,.nil⟩
 |p::d,_,r=>by
  rw[OI] at r
  cases r with
  |@cons a b g i h t=>
   obtain⟨rs,c,q⟩:=kU t;obtain⟨b1,b2⟩:=b;show⟨(p.1,b2)::rs,⟨jG h.1,rfl,c⟩,.cons ⟨rfl,h.2⟩ q⟩
def IF(B:List (TE×TE)):TE:=λU H Q=>∀p,H p=Sd->nT B U (upd H p (.dK [])) λps H2=>H2 p=Sb (.dK [])/\∃q:List (ay×V),ps=q.map (λO=>(kV O.1,O.2))/\q.length<=15/\Q (.ref p) (upd H2 p (.dK (eQ [] q)))
theorem ul{a:List (Option Si)}{b:List Si}(h:ID X pos a b trs)(i:a.all (·.isSome)=Se)(hl:a.length=b.length)(u:a≠[])(k:a.length<=15):PE X (.Dict a b pos) (IF trs):=by
 intro f s U H Q I q;let hn:=I.hok.fresh (Ox s.heap.objs.size);let C:=I.laid (t':=s.toks) (λ_ _ q=>Oq _ q) (Ox _) (pO s.heap I.big);show wpAny_Dict_walk (knd:=aF X.prog X.w) i hl u k (bd (h f _ U _ _ C (q _ hn)) λL s2 j=>?_);obtain⟨K,F,m,l,e,d,r,M,v⟩:=j;subst r;obtain⟨A,c,y⟩:=kU l;obtain⟨z,o,p,D,B⟩:=pM m.hok e;cases D;show⟨A,c,B,λx g n=>⟨.ref s.heap.objs.size,_,?_,rfl,v⟩⟩
 let j:(eQ [] d).length<=sizeLine:=by
  let E:=gG d [];rw[Q9] at E;rw[sizeLine_eq];lia
 let t:∃q,x.get? s.heap.objs.size=Sb q:=let ⟨q,_,_,hq,_⟩:=g;⟨q,hq⟩;show gp m (by rw[e];show True.intro) n t (rZ j o (y.merge .nil) g)
section
variable {prog:Sr} {w:Ss} {A:Sv} {E:Sh->Sk->Prop} {s:Sk}
theorem xS{k v:Si}{Q:Sh->Sk->Prop}(h:Sq (So prog w) A (eval k env) (λa s1=>Sq (So prog w) A (eval v env) (λb s2=>Sq (So prog w) A (dictSet s.heap.objs.size a b) (λ_ s3=>Q (.ref s.heap.objs.size) s3) E s2) E s1) E { s with heap:=s.heap.push { cls:=.type "dict",data:=.dict #[] } }) :
  Sq (So prog w) A (eval (.Dict [Sb k] [v] pos) env) Q E s:=by
 rw[arm_eval_Dict,zip_pairTrees [Sb k] [v] env pos rfl rfl,dictDisplay_pairs _ (by simp[pairTrees]) (by simp[pairTrees])];show Sm (wpAny_standAt (Sm ?_));unfold subDict;show Sm (wpAny_alloc (Sm (SB ?_)));rw[if_pos (by simp[pairTrees])];show Sm (pairTrees_cons_walk (wpAny_mono h (λa s1 d=>wpAny_mono d (λb s2 c=>pairTrees_nil_walk (SB ?_)) λ_ _ e=>e) λ_ _ e=>e));rw[QC];show Sm (Sm (Sm (wpAny_mono c (λ_ s3 q=>?_) λ_ _ e=>e)));show Sn ?_;change Sq _ _ (forIn [] _ _) _ _ _;rw[QG];show Sn (Sn (Sn (Sn q)))
end
def IG(m:Nat)(tk tv:TE):TE:=λU H Q=>∀p,H p=Sd->tk U (upd H p (.dT m 0 [])) λx H1=>tv U H1 λy H2=>H2 p=Sb (.dT m 0 [])/\∃k b,x=.ref b/\TkAt H2 m k b/\∀q,Q (.ref p) (upd H2 p (.dT m q [(k,y)]))
theorem A0{X:Cx}{k v:Si}(T:X.A.units+8<cLine)(hk:PE X k tk)(E:PE X v tv):PE X (.Dict [Sb k] [v] pos) (IG m tk tv):=by
 intro a s U H Q I h;let P:=I.laid (o:=.dT m 0 []) (t':=s.toks) (λ_ _ q=>Oq _ q) (Ox _) (pP s.heap I.big);show xS (bd (hk a _ U _ _ P (h _ (I.hok.fresh (Ox _)))) λW s1 ⟨x,F,D,S,q1⟩=>bd (E a s1 U F _ D q1) λl s2 B=>?_);obtain⟨y,V,i,L,e,d,b,K,tk,q⟩:=B;subst K;cases(S);obtain⟨z,C,Y,j,O⟩:=xP i.hok e;cases j;show wpAny_dictSet_heap T (ir i.hok tk) O λZ f w=>?_;obtain⟨ob,R,r,u,N,M,p,_,t⟩:=f;let g:storedH ([]:List (List (ay ⊕ List ay)×Sj×Sh)) d b l=[(d,b,l)]:=rfl;rw[g] at p t;show⟨.ref s.heap.objs.size,_,gp i (by rw[e];show True.intro) w ⟨ob,u⟩ (ob:=.dT m r [(d,y)]) ⟨by change 1<=sizeLine;decide,C,[(d,b,l)],.cons ⟨rfl,tk.keep λc ys n=>?_,L⟩ .nil,ob,R,u,N,M,p,t⟩,rfl,q r⟩
 rw[ac (xh n e (λz=>nomatch z))]
 show n
theorem Paired.get{α β:Type}{F:α->β->Prop}:∀{l:List α} {r:List β} {i:Nat} {y:β},Paired F l r->r[i]?=Sb y->∃x,l[i]?=Sb x/\F x y
 |_,_,i,_,.nil,h=>by simp at h
 |_,_,0,_,.cons q t,h=>by simp at h;subst h;show⟨_,rfl,q⟩
 |_,_,i+1,_,.cons q t,h=>by simpa using Paired.get t (by simpa using h)
noncomputable def gB(q:List (Str×Sj)):List (Str×SF)->List (Str×Sj)->List (Str×Sj)
 |[],acc=>acc
 |(n,k)::r,acc=>gB q r (if k=.free then(match q.lookup n with|some c=>(n,c)::acc|none=>acc) else acc)
theorem eA{a:List (Str×Sj)}:∀{b:List (Str×SF)} {f:List (Str×Sj)},(∀x c,f.lookup x=Sb c->a.lookup x=Sb c)->
  ∀x c,(gB a b f).lookup x=Sb c->a.lookup x=Sb c
 |[],_,h=>h
 |(n,k)::r,f,h=>by
  unfold gB;show eA λx c=>?_;split
  ·cases e:a.lookup n with
   |none=>show h x c
   |some d=>
    dsimp only;intro q;rw[OU] at q
    cases g:x==n with
    |true=>
     rw[g] at q;have:x=n:=by simpa using g
     subst this;cases q;show e
    |false=>
     rw[g] at q;show h x c q
  ·show h x c
theorem mP:∀{a:List (Str×SF)} {b:List (Str×Sj)} {x:Str},(∃c,b.lookup x=Sb c)->∃c,(gB cells a b).lookup x=Sb c
 |[],_,_,h=>h
 |(n,k)::r,b,x,h=>by
  unfold gB;show mP ?_;split
  ·cases e:cells.lookup n with
   |none=>show h
   |some d=>
    dsimp only;rw[OU]
    cases x==n with
    |true=>show⟨d,rfl⟩
    |false=>show h
  ·show h
theorem kW{b:List (Str×Sj)}:∀{a:List (Str×SF)} {d:List (Str×Sj)} {x:Str},(x,NameKind.free)∈a->(∃c,b.lookup x=Sb c)->∃c,(gB b a d).lookup x=Sb c
 |(n,k)::r,d,x,h,f=>by
  unfold gB;rcases OD.mp h with e|h
  ·cases e;obtain⟨c,f⟩:=f;show mP ⟨c,?_⟩;rw[if_pos rfl,f];simp
  ·show kW h f
theorem gH{scope:SA}{d:Env}(h:∀y∈scope.names,y.2=.free->∃c,d.cells.lookup y.1=Sb c):closureFor scope d=pure (gB d.cells scope.names []):=by
 let g:∀(b:List (Str×SF)) (f:List (Str×Sj)),(∀y∈b,y.2=.free->∃c,d.cells.lookup y.1=Sb c)->
   (forIn b f λ(x:Str×SF) (r:List (Str×Sj))=>(match x with|(name,kind)=>if(kind==.free)=Se then do let a <- cellOf d name;pure (ForInStep.yield ((name,a)::r)) else pure (ForInStep.yield r):Sem (ForInStep (List (Str×Sj)))))=pure (gB d.cells b f):=by
  intro b
  induction b with
  |nil=>intro f _;rfl
  |cons y r p=>
   intro f l;obtain⟨n,k⟩:=y;rw[QC];dsimp only;by_cases hk:k=.free
   ·obtain⟨c,o⟩:=l (n,k) OL hk;subst hk;let e:cellOf d n=pure c:=by unfold cellOf;rw[o]
    rw[e];simp only[beq_self_eq_true,if_true,pure_bind];rw[p _ λy i=>l y (OH _ i)]
    conv=>rhs;unfold gB
    rw[if_pos rfl];let j:d.cells.lookup n=Sb c:=o;rw[j]
   ·let e:(k==NameKind.free)=Sf:=by simpa using hk
    rw[e];simp only[O8,if_false,pure_bind];rw[p _ λy i=>l y (OH _ i)]
    conv=>rhs;unfold gB
    rw[if_neg hk]
 unfold closureFor;show(congrArg (λm=>m >>= λr=>pure r) (g scope.names [] h)).trans (by simp)
theorem cQ:∀(b:List (Str×SF)) (n:Nat) (a:List (Str×Sj)),SC n b a=SC n b []++a
 |[],n,a=>rfl
 |(x,k)::r,n,a=>by
  unfold SC;split
  ·rw[cQ r (n+1) ((x,n)::a),cQ r (n+1) [(x,n)],P2];rfl
  ·show cQ r n a
theorem xT{x:Str}{c:Sj}:∀{a:List (Str×SF)} {n:Nat} {d:List (Str×Sj)},(SC n a d).lookup x=Sb c->((x,NameKind.cell)∈a/\n<=c)\/d.lookup x=Sb c
 |[],_,_,h=>.inr h
 |(y,k)::r,n,d,h=>by
  unfold SC at h;split at h
  ·ext hk;let hk:k=.cell:=by simpa using hk
   subst hk;rcases xT h with⟨b,e⟩|b
   ·show .inl ⟨OH _ b,QQ e⟩
   ·rw[OU] at b
    cases f:x==y with
    |true=>
     rw[f] at b;have:x=y:=by simpa using f
     subst this;cases b;show .inl ⟨OL,Ox _⟩
    |false=>rw[f] at b;show .inr b
  ·rcases xT h with⟨b,e⟩|b
   ·show .inl ⟨OH _ b,e⟩
   ·show .inr b
theorem r9:∀{a:List (Str×SF)} {n:Nat} {b:List (Str×Sj)},(x,NameKind.cell)∉a->(SC n a b).lookup x=b.lookup x
 |[],_,_,_=>rfl
 |(y,k)::r,n,b,h=>by
  unfold SC;let c:(x,NameKind.cell)∉r:=λz=>h (OH _ z);split
  ·ext hk;let hk:k=.cell:=by simpa using hk
   subst hk;rw[r9 c,OU]
   have:(x==y)=Sf:=by
    have:x≠y:=λz=>h (by rw[z];show OL);simpa using this
   rw[this]
  ·show r9 c
theorem nU{x:Str}:∀{a:List (Str×SF)} {n:Nat} {b:List (Str×Sj)},((x,NameKind.cell)∈a\/∃c,b.lookup x=Sb c)->∃c,(SC n a b).lookup x=Sb c
 |[],_,_,h=>by
  rcases h with h|h
  ·simp at h
  ·show h
 |(y,k)::r,n,b,h=>by
  unfold SC;split
  ·ext hk;let hk:k=.cell:=by simpa using hk
   subst hk;show nU ?_;by_cases d:x=y
   ·subst d;show .inr ⟨n,by rw[OU];simp⟩
   ·let e:(x==y)=Sf:=by simpa using d
    rcases h with h|h
    ·rcases OD.mp h with z|z
     ·show absurd (by cases z;rfl) d
     ·show .inl z
    ·show .inr (by rw[OU,e];show h)
  ·ext hk;show nU ?_;rcases h with h|h
   ·rcases OD.mp h with z|z
    ·show absurd (by cases z;rfl) hk
    ·show .inl z
   ·show .inr h
theorem sd{x:Str}{m:Nat}:∀{a:List (Str×SF)} {n:Nat} {b:List (Str×Sj)},((x,NameKind.cell)∈a\/∀c,b.lookup x=Sb c->m<=c)->m<=n->∀c,(SC n a b).lookup x=Sb c->m<=c
 |[],_,_,h,_,c,e=>by
  rcases h with h|h
  ·simp at h
  ·show h c e
 |(y,k)::r,n,b,h,hm,c,e=>by
  unfold SC at e;split at e
  ·ext hk;let hk:k=.cell:=by simpa using hk
   subst hk;show sd ?_ (RT hm) c e;by_cases d:x=y
   ·subst d;show .inr λc e=>?_;rw[OU] at e;simp at e;show e▸hm
   ·let e2:(x==y)=Sf:=by simpa using d
    rcases h with h|h
    ·rcases OD.mp h with z|z
     ·show absurd (by cases z;rfl) d
     ·show .inl z
    ·show .inr (by intro c e;rw[OU,e2] at e;show h c e)
  ·ext hk;show sd ?_ hm c e;rcases h with h|h
   ·rcases OD.mp h with z|z
    ·show absurd (by cases z;rfl) hk
    ·show .inl z
   ·show .inr h
theorem sg:∀{b:List (Str×SF)} {n:Nat} {a:List (Str×Sj)},(∀x c,a.lookup x=Sb c->c<n)->(∀x y c,a.lookup x=Sb c->a.lookup y=Sb c->x=y)->∀x y c,(SC n b a).lookup x=Sb c->(SC n b a).lookup y=Sb c->x=y
 |[],_,_,_,h=>h
 |(z,k)::r,n,a,hb,h=>by
  unfold SC;split
  ·show sg (λx c e=>?_) λx y c e1 e2=>?_
   ·rw[OU] at e
    cases d:x==z with
    |true=>rw[d] at e;cases e;show Pv _
    |false=>rw[d] at e;show Qt (hb x c e)
   ·rw[OU] at e1 e2
    cases d:x==z with
    |true=>
     rw[d] at e1;cases e1
     cases f:y==z with
     |true=>rw[(by simpa using d:x=z),(by simpa using f:y=z)]
     |false=>rw[f] at e2;show absurd (hb y _ e2) (Pa _)
    |false=>
     rw[d] at e1
     cases f:y==z with
     |true=>rw[f] at e2;cases e2;show absurd (hb x _ e1) (Pa _)
     |false=>rw[f] at e2;show h x y c e1 e2
  ·show sg hb h
def EN(B:List (Str×Sj))(q:List (Str×SF))(C:Sj):List (Str×Sj):=SC (C+1) q (gB B q [])
theorem xU{a:List (Str×Sj)}{C:Sj}{x:Str}(h:(EN a names C).lookup x=Sb c):C+1<=c\/a.lookup x=Sb c:=by
 rcases xT h with h|h
 ·show .inl h.2
 ·show .inr (eA (λ_ _ z=>by cases z) x c h)
theorem gI{s:Sk}{scope:SA}{Q:Env->Sk->Prop}(e:Q (newEnv scope s.heap.objs.size globals (SC (s.heap.objs.size+1) scope.names cl) qual Sd .none (Sb outer) builtinsNs) { s with heap:=pushCells (s.heap.push { cls:=.type "dict",data:=.dict #[] }) scope.names }) :
  Sq M A (newFunctionEnv scope globals cl [] qual Sd .none (Sb outer)) Q E s:=by
 simp only[newFunctionEnv,RI,if_true];show Sm (wpAny_alloc ?_)
 show Sm (wpAny_layCells _ (λd a c=>by cases b:a==NameKind.cell<;>simp[b]) _ _ _ _ ?_)
 rw[show({ s with heap:=s.heap.push { cls:=.type "dict",data:=.dict #[] } }:Sk).heap.objs.size=s.heap.objs.size+1 from Pn ..];rw[QG];show Sm (Sn (Sn e))
def ao(X:Cx)(q:List Str)(scope:SA)(C:Sj)(s:Sk)(H:Hp)(ex:List Sj):Cx where
 prog:=X.prog
 w:=X.w
 K:=X.K
 mg:=X.mg
 base:=X.base
 A:=X.A
 N:=q
 s₀:=s
 H₀:=H
 env:=compEnvC scope (EN X.env.cells scope.names C) C X.env
 outer:=X.stack
 stack:=X.stack
 ex:=ex
 fn:=λx=>scope.names.lookup x==Sb .cell
 calm:=X.calm
 pn:=[]
 xe:=λ_ _=>False
theorem cb{α β:Type}[BEq α][LawfulBEq α]:∀{l:List (α×β)} {x:α} {y:β},l.lookup x=Sb y->(x,y)∈l
 |(a,b)::r,x,y,h=>by
  rw[OU] at h
  cases e:x==a with
  |true=>
   rw[e] at h;have:x=a:=by simpa using e
   subst this;cases h;show OL
  |false=>
   rw[e] at h;show OH _ (cb h)
theorem kX{scope:SA}{x:Str}(h:(relabel scope env).names.lookup x=Sb .cell\/(relabel scope env).names.lookup x=Sb .free):(x,NameKind.cell)∈scope.names\/(x,NameKind.free)∈scope.names:=by
 let a:∀k,(k=NameKind.cell\/k=NameKind.free)->(x,k)∈(relabel scope env).names->(x,NameKind.cell)∈scope.names\/(x,NameKind.free)∈scope.names:=λk hk hm=>by
  obtain⟨⟨n,c⟩,b,e⟩:=Oy.mp hm;dsimp only at e;split at e
  ·ext q
   have:c=NameKind.free:=by
    simp only[Oo,beq_iff_eq] at q;show q.1.1
   subst this;cases e;show .inr b
  ·cases e;rcases hk with rfl|rfl
   ·show .inl b
   ·show .inr b
 rcases h with h|h
 ·show a _ (.inl rfl) (cb h)
 ·show a _ (.inr rfl) (cb h)
section
variable {X:Cx} {pins:List (Sj×Obj)} {U:St} {H:Hp} {s:Sk}
theorem xV(I:Inv X pins U H s){l:List Sj}{scope:SA}(n:∀b∈l,ip X pins H b)(j:∀b∈l,b<s.heap.objs.size)(f:scope.kind=.function)(i:s.heap.objs.size<=C)(d:∀y∈scope.names,y.2=.free->X.env.kindOf y.1=Sb .cell\/X.env.kindOf y.1=Sb .free):(ao X N' scope C s H l).Ok where
 mod:=I.ok.mod
 kind:=f
 glob:=I.ok.glob
 blt:=I.ok.blt
 above:=i
 inj:=sg (λx c h=>by
   obtain⟨v,o,g,_⟩:=I.cell x c (eA (λ_ _ z=>by cases z) x c h);show Qt (Ov (Os g) i)) λx y c p k=>I.ok.inj x y c (eA (λ_ _ z=>by cases z) x c p) (eA (λ_ _ z=>by cases z) y c k)
 has:=λx q=>by
  rcases kX q with m|m
  ·show nU (.inl m)
  ·show nU (.inr (kW m (I.ok.has x (d _ m rfl))))
 cab:=λx c h e=>by
  let h:scope.names.lookup x=Sb .cell:=by simpa[ao] using h
  show OW i (QQ (sd (.inl (cb h)) (Ox _) c e))
 hd:=I.ok.hd
 frames:=I.ok.frames
 stk:=.inl rfl
 exf:=λb a=>⟨OG (Ov (j b a) i),λx c h=>by
  rcases xU h with h|h
  ·show PB (Ov (Qt (Ov (j b a) i)) h)
  ·show(n b a).2.2.2.2.1 x c h⟩
 bs:=I.bs
 bsz:=OW I.ok.bsz I.sz
 noex:=λb o e a=>by
  obtain⟨_,_,_,h,_⟩:=n b a;rcases h with h|h
  ·show I.ok.noex b o e h
  ·show absurd (Ov (Os e) (OW I.ok.bsz h)) (Pa _)
 exfs:=λb a r=>by
  obtain⟨_,p,k,_⟩:=n b a;rcases OD.mp (I.stkSub b r) with e|e
  ·show p e
  ·show k e
 funs:=I.stack
 frf:=I.stkFree
noncomputable def cV(U:St)(cap:List (Option Nat)):St:=cap.map λo=>o.bind λi=>(U[i]?).join
structure fC(X:Cx)(N':List Str)(scope:Scope)(cap:List (Option Nat)):Prop where
 kind:scope.kind=.function
 cell:∀y∈scope.names,y.2=.cell->scope.names.lookup y.1=Sb .cell
 names:∀y∈scope.names,y.2=.local->scope.names.lookup y.1=Sb .local
 free:∀y∈scope.names,y.2=.free->X.env.kindOf y.1=Sb .cell\/X.env.kindOf y.1=Sb .free
 len:cap.length=N'.length
 cap:∀(j i:Nat) (x:Str),N'[j]?=Sb x->cap[j]?=Sb (Sb i)->X.N[i]?=Sb x/\scope.names.lookup x=Sb .free/\(X.env.kindOf x=Sb .cell\/X.env.kindOf x=Sb .free)
theorem iu{scope:SA}{a:Env}{x:Str}:∀{b:List (Str×SF)},b.lookup x=Sb .free->
  (b.map λ(n,k)=>if(k==NameKind.free&&a.scope.kind==.function&&a.kindOf n==Sb .cell) then(n,NameKind.cell) else(n,k)).lookup x=Sb .cell\/
  (b.map λ(n,k)=>if(k==NameKind.free&&a.scope.kind==.function&&a.kindOf n==Sb .cell) then(n,NameKind.cell) else(n,k)).lookup x=Sb .free
 |(n,k)::r,h=>by
  let e:=@iu scope a x r
  change PK x ((if(k==NameKind.free&&a.scope.kind==.function&&a.kindOf n==Sb .cell)=Se then(n,NameKind.cell) else(n,k))::_)=_\/PK x ((if(k==NameKind.free&&a.scope.kind==.function&&a.kindOf n==Sb .cell)=Se then(n,NameKind.cell) else(n,k))::_)=_
  cases c:x==n with
  |true=>
   simp only[OU,c] at h;cases h;by_cases d:(NameKind.free==NameKind.free&&a.scope.kind==.function&&a.kindOf n==Sb .cell)=Se
   ·rw[if_pos d];left;simp only[OU,c]
   ·rw[if_neg d];right;simp only[OU,c]
  |false=>
   simp only[OU,c] at h;by_cases d:(k==NameKind.free&&a.scope.kind==.function&&a.kindOf n==Sb .cell)=Se
   ·rw[if_pos d];simp only[OU,c];show e h
   ·rw[if_neg d];simp only[OU,c];show e h
theorem pR(I:Inv X pins U H s){K:List Sj}{scope:SA}{C D:Sj}{A:Sw}{tk:Nat}(O:fC X N' scope cap)(hf:∀b∈K,ip X pins H b)(T:∀b∈K,b<s.heap.objs.size)(S:s.heap.objs.size<=C)(L:s.heap.objs.size<=D)(y:D<C)(P:∀x c,(SC (C+1) scope.names []).lookup x=Sb c->A.IsCell c Sd)(hn:A.Ns C m)(f:∀b o,s.heap.get? b=Sb o->A.get? b=Sb o){o:HO}(R:ObjOk X.prog X.w (upd H D o) A D o) :
  Inv (ao X N' scope C s H K) [] (cV U cap) (upd H D o) { s with heap:=A,toks:=tk }:=by
 let t:∀x c,(gB X.env.cells scope.names []).lookup x=Sb c->X.env.cells.lookup x=Sb c:=eA (λ_ _ z=>by cases z)
 let n:∀x,scope.names.lookup x=Sb .free->(EN X.env.cells scope.names C).lookup x=(gB X.env.cells scope.names []).lookup x:=λx h=>r9 λz=>by
  have:=O.cell _ z rfl;rw[h] at this;cases this
 show⟨xV I hf T O.kind S O.free,rfl,I.bare,Un.laid f L (I.hok.fresh L),⟨m,hn,λj x v h1 h2 h3=>?_⟩,λx c e=>?_,?_,λx c e=>?_,λp hp=>absurd hp (by simp[ao]),I.hok.laid f L R,?_⟩
 ·let a:(cV U cap)[j]?=Sb (Sb v):=h2;unfold cV at a;rw[Op] at a
  cases M:cap[j]? with
  |none=>rw[M] at a;cases a
  |some o=>
   rw[M] at a
   cases o with
   |none=>cases a
   |some i=>
    let F:(U[i]?).join=Sb v:=by simpa using a
    let V:U[i]?=Sb (Sb v):=by
     cases q:U[i]? with
     |none=>rw[q] at F;cases F
     |some z=>rw[q] at F;have:z=Sb v:=F;rw[this]
    obtain⟨c1,Q,Z⟩:=O.cap j i x h1 M;obtain⟨mo,ha,hl⟩:=I.loc;let N:KN X.env.scope x:=Z.elim (λz=>.inr (.inl z)) λz=>.inr (.inr z);obtain⟨u,ru,l⟩:=hl i x v c1 V N;show⟨u,ru,?_⟩;rcases l with⟨k,_⟩|⟨_,c,W,ic⟩
    ·rcases Z with z|z
     ·rw[z] at k;cases k
     ·rw[z] at k;cases k
    ·obtain⟨Y,r⟩:=kW (cb Q) ⟨c,W⟩;let e2:=t x Y r;rw[W] at e2;cases e2;obtain⟨E,d,g⟩:=ic;show .inr ⟨iu (scope:=scope) Q,c,(n x Q).trans r,E,f _ _ d,g⟩
 ·let e:(EN X.env.cells scope.names C).lookup x=Sb c:=e;unfold EN at e;rw[cQ,List.lookup_append] at e
  cases q:(SC (C+1) scope.names []).lookup x with
  |some Y=>
   rw[q] at e;cases e;show⟨Sd,P x _ q⟩
  |none=>
   rw[q] at e;obtain⟨v,E,d,g⟩:=I.cell x c (t x c e);show⟨v,E,f _ _ d,g⟩
 ·rw[show(ao X N' scope C s H K).env.locals=C from rfl,ac (Ne.symm (OG y))];show I.hok.fresh S
 ·rcases xU e with B|B
  ·rw[ac (PB (QB y B))];show I.hok.fresh (OW S (QQ B))
  ·obtain⟨v,E,d,g⟩:=I.cell x c B;rw[ac (OG (Ov (Os d) L))];show I.freeC x c B
 ·change(cV U cap).length=N'.length;unfold cV;rw[On,O.len]
theorem iw(I:Inv X pins U H s){j:List Sj}{s':Sk}(x:∀b∈j,ip X pins H b)(J:Inv (ao X N' scope C s H j) [] U' H' s')(a:Heap.SameBut C s'.heap h') :
  Inv X pins U H' { s' with heap:=h' }:=by
 let t:s.heap.objs.size<=C:=J.ok.above;let d:∀b o,s.heap.get? b=Sb o->b≠C:=λb o e=>OG (Ov (Os e) t);let f:Un (xg X.stack) j H H' s.heap s'.heap:=J.base;show I.call' (J.os) ⟨λb o e n h g=>?_,λb o e n h g=>?_,f.free,λb o e g=>?_,f.tups,f.frzs,f.tbls⟩ (λb o e=>?_) J.bare λb m=>?_
 ·show(a.2 b (d b o e)).trans (f.keep b o e n h g)
 ·obtain⟨u,q⟩:=f.slot b o e n h g;show⟨u,(a.2 b (d b o e)).trans q⟩
 ·obtain⟨w,q⟩:=f.there b o e g;show⟨w,(a.2 b (d b o e)).trans q⟩
 ·let k:H' C=Sd:=J.free;show(J.hok b o e).stay (λc v i q=>(a.2 c ?_).trans q) (λ_ q=>q) λ_ _ q=>q
  rintro rfl
  rcases i with rfl|i
  ·rw[k] at e;cases e
  ·rw[k] at i;cases i
 ·obtain⟨y,h,g,l,p,r⟩:=x b m;show⟨l,h,p,r⟩
theorem nV{R:Result->Sk->Prop}{s:Sk}(I:Nat->Sk->Prop)(e:∀n s,I n s->Sq (So prog w) A (pyNext it) (λr g=>match r with
   |none=>R (.ok .next) g
   |some v=>Sq (So prog w) A (letOwnedTupleGo target it v) (λ_ d=>Sq (So prog w) A (assign target env v) (λ_ l=>
     Sq (So prog w) A (forIn ifs Se λc r=>if r=Se then do let b <- isTrue c env (eval c env);pure (ForInStep.yield b) else pure (ForInStep.yield r)) (λb i=>
      if b=Se then Sq (So prog w) A (eval elt env) (λx k=>
       Sq (So prog w) A (call (.builtin "list.append") [acc,x]) (λ_ o=>∃m,m<n/\I m o) (λ_ _=>False) k) (λ_ _=>False) i
      else ∃m,m<n/\I m i) (λ_ _=>False) l) (λ_ _=>False) d) (λ_ _=>False) g) (λ_ _=>False) s)(n:Nat)(h:I n s) :
  codeAny (So prog w) A (.compLoop (.ListComp elt [⟨target,iter,ifs,0⟩] scope pos) 0 it acc env) R s:=by
 show codeAny_loop rfl I (λn s q=>?_) n h;show wpAny_noted ?_;rw[compTurn_list];show Sm (wpAny_standAt (Sm (wpAny_mono (e n s q) (λr g j=>?_) λ_ _ a=>a.elim)))
 cases r with
 |none=>show Sn j
 |some v=>
  show Sm (wpAny_mono j (λ_ d f=>?_) λ_ _ a=>a.elim);show Sm (wpAny_mono f (λ_ l u=>Sm (wpAny_mono u (λb i p=>?_) λ_ _ a=>a.elim)) λ_ _ a=>a.elim)
  cases b with
  |false=>show Sn ⟨rfl,p⟩
  |true=>
   show Sm (Sm (wpAny_mono p (λx k y=>Sm (wpAny_mono y (λ_ o t=>Sn (Sn ⟨rfl,t⟩)) λ_ _ a=>a.elim)) λ_ _ a=>a.elim))
end
section
variable {X:Cx} {pins:List (Sj×Obj)} {U:List (Option V)} {H:Hp} {s:Sk} {h':Sw}
theorem Inv.junk(I:Inv X pins U H s)(f:Heap.SameBut C s.heap h')(D:X.s₀.heap.objs.size<=C)(hL:X.env.locals≠C)(w:∀x c,X.env.cells.lookup x=Sb c->c≠C)(A:∀p∈X.pn++pins,p.1≠C)(u:H C=Sd):Inv X pins U H { s with heap:=h' }:=by
 let t:∀b o,X.s₀.heap.get? b=Sb o->b≠C:=λb o e=>OG (Ov (Os e) D);obtain⟨m,hn,hl⟩:=id I.loc;show⟨I.ok,I.os,I.bare,⟨λb o e n l i=>?_,λb o e n l i=>?_,I.base.free,λb o e i=>?_,I.base.tups,I.base.frzs,I.base.tbls⟩,⟨m,hn.sameBut f hL,λj y F e1 e2 e3=>?_⟩,λy c e=>?_,I.free,I.freeC,λp h=>?_,λb L e=>?_,I.len⟩
 ·show(f.2 b (t b o e)).trans (I.base.keep b o e n l i)
 ·obtain⟨E,e1⟩:=I.base.slot b o e n l i;show⟨E,(f.2 b (t b o e)).trans e1⟩
 ·obtain⟨K,e1⟩:=I.base.there b o e i;show⟨K,(f.2 b (t b o e)).trans e1⟩
 ·obtain⟨B,M,q⟩:=hl j y F e1 e2 e3;show⟨B,M,?_⟩;rcases q with⟨k,e⟩|⟨k,c,e,z⟩
  ·show .inl ⟨k,e⟩
  ·show .inr ⟨k,c,e,?_⟩;obtain⟨o,g,d⟩:=z;show⟨o,(f.2 c (w y c e)).trans g,d⟩
 ·obtain⟨v,o,g,d⟩:=I.cell y c e;show⟨v,o,(f.2 c (w y c e)).trans g,d⟩
 ·obtain⟨g,r⟩:=I.pin p h;show⟨(f.2 _ (A p h)).trans g,r⟩
 ·show(I.hok b L e).stay (λc N a q=>(f.2 c ?_).trans q) (λ_ q=>q) λ_ _ q=>q
  rintro rfl
  rcases a with rfl|a
  ·rw[u] at e;cases e
  ·rw[u] at a;cases a
def LS(K:Om)(n:Nat)(t:xn):TG:=λv U H Q=>∃a xs,v=.ref a/\SqL K H a xs/\xs.length=n/\t xs U H Q
theorem EO(q:X.calm=Se)(h:Eo X es t)(hn:(SD es X.env).length=n)(d:(SD es X.env).findIdx? (·.1)=Sd):PG X (.Tuple es k pos) (LS X.K n t):=by
 intro c s U H v u Q I r g;obtain⟨a,x,e1,w,hl,g⟩:=g;subst e1;cases r;obtain⟨f,i,m,y⟩:=I.list w;rw[assign_Tuple];show Sm (wpAny_standAt ?_);unfold unpack;rw[d,show(SD es X.env).length=f.toArray.size by rw[hn,<- hl,i.length,OC]];show Sm (SB (PySem.W.kun_itemsOf (I.ok.hd q) m.isList λj l=>?_));let p:Inv X c U H { s with heap:=j }:=I.kept λb o e=>l b o (OG (Os e)) e;show h c _ U H x _ Q p (by simpa using i) g
theorem jH(a:List Int):∀j,j<=a.length->PySem.preSum (λi=>(a[i]?).getD 0) j=(a.take j).sum
 |0,_=>by simp[PySem.preSum]
 |j+1,h=>by
  let b:=jH a j (by lia);change PySem.preSum (λi=>(a[i]?).getD 0) j+(a[j]?).getD 0=_;let e:a.take (j+1)=a.take j++[a[j]]:=by rw[Pp,Ot (by lia)];rfl
  rw[b,e,List.sum_append,Ot (by lia)];simp
theorem gJ(M:X.calm=Se):fB X (.builtin "sum") (λxs H Q=>∃(p:Sj) (a:List Int),xs=[.ref p]/\SqL X.K H p (a.map V.int)/\Q (.int a.sum) H):=by
 intro B s U H xs us Q I r h;obtain⟨p,a,rfl,hq,q⟩:=h;obtain⟨u,rfl,rx⟩:=kO r;cases rx;obtain⟨c,x,j,hz⟩:=I.list hq;let g:=x.length;let Z:X.A.in1.handled=Sd:=I.ok.hd M
 let l:p≠s.heap.objs.size:=by
  obtain⟨o,n,e,_⟩:=j;show OG (Os e)
 show PySem.call_sum_walkAnyS (SN j.isList ?_)
 let N:(s.heap.push { cls:=.type "list_iterator",data:=.fields #[.ref p,.int 0 0] }).IsList p c.toArray:=by
  obtain⟨o,e,r⟩:=j.isList;show⟨o,Oq _ e,r⟩
 show⟨s.heap.objs.size,_,_,_,_,_,_,λi=>(a[i]?).getD 0,rfl,(Walks.list Z s.heap.objs.size p l c.toArray).toS,⟨⟨_,OJ _ rfl,rfl,rfl⟩,N⟩,λb f=>?_,λi v P=>?_,λD T W=>?_⟩
 ·change b<(s.heap.push _).objs.size;rw[Pn];rcases OD.mp f with rfl|f
  ·show Pv _
  ·rw[OV.mp f];obtain⟨o,n,e,_⟩:=j;show Qt (Os e)
 ·let d:c[i]?=Sb v:=by simpa using P
  cases f:a[i]? with
  |none=>
   let y:(a.map V.int)[i]?=Sd:=by rw[Op,f];rfl
   rw[x.none_of y] at d;cases d
  |some b=>
   let y:(a.map V.int)[i]?=Sb (.int b):=by rw[Op,f];rfl
   obtain⟨u,e1,e2⟩:=x.get y;rw[d] at e1;cases e1;obtain⟨t,rfl⟩:=e2;show⟨t,?_⟩;simp only[f,RY]
 ·obtain⟨h',F,E,t2,Y⟩:=D;obtain⟨L,O,S,R,m5⟩:=W;let k:F=s.gens:=O;let w:E=s.drawn:=S;let m:Y=s.os:=R;subst k w m;let hl:c.toArray.size=a.length:=by rw[OC,<- g,On]
  let e:PySem.preSum (λi=>(a[i]?).getD 0) c.toArray.size=a.sum:=by
   rw[hl,jH a _ (Ox _),OR]
  rw[e];show⟨.int a.sum,H,I.kept λb o C=>L b o (λz=>?_) (Oq _ C),⟨T,rfl⟩,q⟩;have:=Os C;rw[OV.mp z] at this;show Pa _ this
end
end L2
open L2
namespace G
open PyProof.Rows
inductive D where
 |non|bl (b:Bool)|int (i:Int)|str (x:Str)|lst (xs:List D)|tup (xs:List D)|scr (ns:List Int)|dic (ks:List ay) (vs:List D)
inductive Kd where
 |sh|fr|bo
 deriving DecidableEq
def KR(K:Om)(a:Sj):It:=
 ⟨λi H=>∃xs x,SqL K H a xs/\xs[i]?=Sb x,λi H x H'=>∃p v,H p=Sd/\H'=upd H p (.tup [.int i,v])/\x=.ref p/\∀xs,SqL K H a xs->xs[i]?=Sb v,λi H=>∃xs,SqL K H a xs/\xs.length<=i⟩
theorem wn{P:Sr}{w:Ss}{K:Om}{es:List Si}{kk:Nat}{tp:Pos}(a e it:Sj)(L:e≠it):pw P w K (.Tuple es kk tp) (KR K a) [e,it] e (λi h=>(∃j,IsEnum h e it ((i:Nat):Int) j)/\h.IsListIter it a i) where
 mem:=by simp
 obj:=λi h B b g=>by
  obtain⟨⟨j,S⟩,o,t,h3,h4⟩:=B;rcases OD.mp g with rfl|g
  ·show⟨_,S,λv z=>by
    let z':Data.fields _=Data.cell v:=z;cases z'⟩
  ·have:b=it:=by simpa using g
   subst this;show⟨o,t,λv z=>by rw[h4] at z;cases z⟩
 keep:=λi h h' B k=>by
  obtain⟨⟨j,S⟩,t⟩:=B;show⟨⟨j,k e (by simp) _ S⟩,t.at λo q=>k it (by simp) o q⟩
 item:=by
  intro X hP hw Y hc i C s U H E I O B hg;subst hP hw Y;obtain⟨⟨j,W⟩,A⟩:=B;obtain⟨xs,x,T,hx⟩:=hg;obtain⟨ha,rv,p,hz⟩:=I.list T;obtain⟨u,hu,ru⟩:=rv.get hx;obtain⟨f0,V,f2,f3,f4,f5⟩:=O e (by simp);obtain⟨g0,g1,g2,g3,g4,g5⟩:=O it (by simp);let M:=Os W;show wpAny_pyNext_enum_item W A p.isList (by simpa using hu) L λS ho R ht hr hn=>?_;show⟨_,rfl,wpAny_letOwnedTupleGo_enum ho λt hp hk=>?_⟩;let r:Heap.SameBut e S t:=hk;let d:∀b o,b≠e->b≠it->s.heap.get? b=Sb o->t.get? b=Sb o:=λb o n1 n2 q=>(r.2 b n1).trans (hn b o n1 n2 q);let F:=I.hok.fresh (Ox s.heap.objs.size);let Q:t.get? s.heap.objs.size=Sb { cls:=.type "tuple",data:=.seq #[.int i s.toks,u] }:=(r.2 _ (PB M)).trans ht
  let I1:Inv X C U (upd H s.heap.objs.size (.tup [.int i,x])) { s with heap:=t,toks:=s.toks+1 }:=by
   let y:∀b o,H b=Sb o->b≠e/\b≠it:=λb o q=>⟨(λz=>by rw[z,f0] at q;cases q),(λz=>by rw[z,g0] at q;cases q)⟩
   let N:HOk X.prog X.w (upd H s.heap.objs.size (.tup [.int i,x])) t:=λb o q=>by
    by_cases g:b=s.heap.objs.size
    ·subst g;rw[ah] at q;cases q;show⟨(by change 2<=sizeLine;decide),[.int i s.toks,u],.cons ⟨_,rfl⟩ (.cons ru .nil),_,Q,rfl,_,rfl⟩
    ·rw[ac g] at q;show(I.hok b o q).stay (λc v l D=>d c v ?_ ?_ D) (λc D=>by rw[ac (aB D F)];show D) λc ys D=>by rw[ac (aB D F)];show D
     ·rcases l with rfl|l
      ·show(y _ _ q).1
      ·show(y _ _ l).1
     ·rcases l with rfl|l
      ·show(y _ _ q).2
      ·show(y _ _ l).2
   show I.step (ch:=[e,it]) (λb g=>?_) (λb o _ _ f q _=>d b o (λz=>f (by simp[z])) (λz=>f (by simp[z])) q)
    (λb o _ _ f q _=>⟨o.slots,d b o (λz=>f (by simp[z])) (λz=>f (by simp[z])) q⟩) (λb o f q n=>by rw[ac (OG (Os q))];show n)
    (λb o f q=>⟨o,d b o (λz=>f (by simp[z])) (λz=>f (by simp[z])) q⟩) (λb ys q=>by rw[ac (aB q F)];show q) (λb o z q=>by rw[ac (aB q F)];show q)
    (λb ps q=>⟨#[],by rw[ac (aB q F),q];simp⟩) (λm hm=>?_) N I.bare
   ·rcases OD.mp g with rfl|g
    ·show⟨f3,V,f4,f5⟩
    ·have:b=it:=by simpa using g
     subst this;show⟨g3,g1,g4,g5⟩
   ·obtain⟨o,hi,ep,hh,r'⟩:=hm;show⟨o,hi,ep,d _ o (Ne.symm V) (Ne.symm g1) hh,r'⟩
  show⟨.ref s.heap.objs.size,_,I1,rfl,⟨s.heap.objs.size,x,F,rfl,rfl,λys hy=>by rw[I.list_inj hy T];show hx⟩,⟨⟨u,by
    have:(((i+1:Nat):Int))=(i:Int)+1:=by lia
    rw[this];show hp⟩,R.extBut r.extBut (Ne.symm L)⟩,λb g=>?_⟩
  let Z:=(O b g).1
  let hj:b<s.heap.objs.size:=by
   rcases OD.mp g with rfl|g
   ·show M
   ·have:b=it:=by simpa using g
    subst this;obtain⟨o,q,_⟩:=A;show Os q
  rw[ac (OG hj)];show Z
 done:=by
  intro X hP hw Y hc i C s U H E I O B hg;subst hP hw Y;obtain⟨⟨j,W⟩,A⟩:=B;obtain⟨xs,T,hx⟩:=hg;obtain⟨ha,rv,p,hz⟩:=I.list T;obtain⟨f0,V,f2,f3,f4,f5⟩:=O it (by simp);let hl:=rv.length;show wpAny_pyNext_enum_end (I.ok.hd hc) W A p.isList (by simp;lia) λh' eb=>⟨rfl,I.turned (λb o g q=>eb b o g q) f0 V f3 f4 f5⟩
 self:=λ_ _ _ _ _ B h=>let ⟨_,q⟩:=B.1;wpAny_pyIter_enum q h
section
variable {X:Cx}
def IH(K:Om)(ta:TA):TI:=λU H R=>ta U H λvs H1=>∃a,vs=[.ref a]/\(∃xs,SqL K H1 a xs)/\R (KR K a) H1
theorem A1{a:Si}(A:Gl X "enumerate")(hm:X.mg "enumerate" = Sd)(n:PA X [a] ta)(m:Sy [a] X.env=[(Sf,eval a X.env)]) :
  PI X (.Tuple es kk tp) (.Call (.Name "enumerate" p) [a] [] pos) (IH X.K ta):=by
 intro c s U H R I h;show Call_ (dJ I A hm boot_enumerate (PyProof.Rows.callWith_type1 (bd (n pos c s U H _ I h) λF s1 ⟨C,j,f,v,q1⟩=>?_) m rfl));obtain⟨l,e,⟨D,y⟩,q⟩:=q1;subst e;obtain⟨u,rfl,z⟩:=kO v;cases z;obtain⟨w,E,x,B⟩:=f.list y;show call_enumerate_list x.isList λt k i r hk=>?_;show wpAny_pyIter_enum k ?_;let o:Inv X c U j { s1 with heap:=t }:=f.kept hk;show⟨s1.heap.objs.size+1,[s1.heap.objs.size+1,s1.heap.objs.size],_,_,j,rfl,o,wn l _ _ (PB (Pv _)),⟨⟨_,k⟩,i⟩,λb g=>?_,q⟩
 let d:s1.heap.objs.size<=b:=by
  rcases OD.mp g with rfl|g
  ·show Qa _
  ·have:b=s1.heap.objs.size:=by simpa using g
   rw[this];show Ox _
 show f.fpOk d (f.hok.fresh d)
end
def LU(K:Om)(a b:Sj):It:=
 ⟨λi H=>∃xs ys x y,SqL K H a xs/\SqL K H b ys/\xs[i]?=Sb x/\ys[i]?=Sb y,λi H x H'=>∃p v u,H p=Sd/\H'=upd H p (.tup [v,u])/\x=.ref p/\(∀xs,SqL K H a xs->xs[i]?=Sb v)/\∀ys,SqL K H b ys->ys[i]?=Sb u,
  λi H=>∃xs ys,SqL K H a xs/\SqL K H b ys/\(xs.length<=i\/ys.length<=i)⟩
theorem mQ{h:Sw}{z TI TO i1 i2 l a b:Sj}{us:Array Sh}{x y:Sh}{i j:Nat}(hl:h.IsList l us)(m:IsZip h z TI TO .none)(d:IsPair h TI (.ref i1) (.ref i2))(g:IsPair h TO x y)(h1:h.IsListIter i1 a i)(h2:h.IsListIter i2 b j):∀c∈[z,TI,TO,i1,i2],l≠c:=λc k e=>by
 subst e;obtain⟨o,q,q1,_⟩:=hl;simp only[OD,O0,or_false] at k;rcases k with rfl|rfl|rfl|rfl|rfl
 ·rw[m] at q;cases q;show absurd (show Value.type "zip" = .type "list" from q1) (by decide)
 ·rw[d] at q;cases q;show absurd (show Value.type "tuple" = .type "list" from q1) (by decide)
 ·rw[g] at q;cases q;show absurd (show Value.type "tuple" = .type "list" from q1) (by decide)
 ·obtain⟨n,r,f,_⟩:=h1;rw[r] at q;cases q;rw[f] at q1;show absurd q1 (by decide)
 ·obtain⟨n,r,f,_⟩:=h2;rw[r] at q;cases q;rw[f] at q1;show absurd q1 (by decide)
theorem xW{h:Sw}{z TI TO i1 i2 a b:Sj}{us vs:Array Sh}{x y:Sh}{i j:Nat}(g:[z,TI,TO,i1,i2].Nodup)(hl:h.IsList a us)(e:h.IsList b vs)(f:IsZip h z TI TO .none)(c:IsPair h TI (.ref i1) (.ref i2))(d:IsPair h TO x y)(h1:h.IsListIter i1 a i)(h2:h.IsListIter i2 b j):ZipApart z TI TO i1 i2 a b:=by
 let n1:=mQ hl f c d h1 h2;let n2:=mQ e f c d h1 h2;simp only[OX,OD,O0,or_false,not_or,Rm,and_true,not_false_iff] at g;obtain⟨⟨n,m,o,l⟩,⟨b1,b2,b3⟩,⟨c1,k⟩,p⟩:=g;show⟨Ne.symm n,Ne.symm m,Ne.symm o,Ne.symm l,b1,b2,b3,c1,k,p,n1 _ (by simp),n1 _ (by simp),n1 _ (by simp),n1 _ (by simp),n2 _ (by simp),n2 _ (by simp),n2 _ (by simp),n2 _ (by simp)⟩
theorem xX{P:Sr}{w:Ss}{K:Om}{es:List Si}{kk:Nat}{tp:Pos}(a b z TI TO i1 i2:Sj)(nd:[z,TI,TO,i1,i2].Nodup):pw P w K (.Tuple es kk tp) (LU K a b) [z,TI,TO,i1,i2] z (λi h=>IsZip h z TI TO .none/\IsPair h TI (.ref i1) (.ref i2)/\(∃x y,IsPair h TO x y)/\h.IsListIter i1 a i/\h.IsListIter i2 b i) where
 mem:=by simp
 obj:=λi h O c g=>by
  obtain⟨h1,N,⟨x,y,h3⟩,⟨o4,h4,h5,h6⟩,o7,h7,h8,h9⟩:=O;simp only[OD,O0,or_false] at g;rcases g with rfl|rfl|rfl|rfl|rfl
  ·show⟨_,h1,λv z=>by
    let z':Data.fields _=Data.cell v:=z;cases z'⟩
  ·show⟨_,N,λv z=>by
    let z':Data.seq _ _=Data.cell v:=z;cases z'⟩
  ·show⟨_,h3,λv z=>by
    let z':Data.seq _ _=Data.cell v:=z;cases z'⟩
  ·show⟨o4,h4,λv z=>by rw[h6] at z;cases z⟩
  ·show⟨o7,h7,λv z=>by rw[h9] at z;cases z⟩
 keep:=λi h h' O k=>by
  obtain⟨h1,N,⟨x,y,h3⟩,h4,h5⟩:=O;show⟨k z (by simp) _ h1,k TI (by simp) _ N,⟨x,y,k TO (by simp) _ h3⟩,h4.at λo q=>k i1 (by simp) o q,h5.at λo q=>k i2 (by simp) o q⟩
 item:=by
  intro X hP hw hK g i R s U H E I V O hg;subst hP hw hK;obtain⟨Q,r,⟨x0,y0,B⟩,A,F⟩:=O;obtain⟨xs,ys,x,y,hq,M,hx,hy⟩:=hg;obtain⟨hr,rv,p,hp⟩:=I.list hq;obtain⟨hk,W,p2,Z⟩:=I.list M;obtain⟨u,hu,ru⟩:=rv.get hx;obtain⟨u2,hs,ga⟩:=W.get hy;let un:∀c∈[z,TI,TO,i1,i2],H c=Sd:=λc g=>(V c g).1;let D:=xW nd p.isList p2.isList Q r B A F
  let hh:∀c∈[z,TI,TO,i1,i2],c<s.heap.objs.size:=λc g=>by
   simp only[OD,O0,or_false] at g;rcases g with rfl|rfl|rfl|rfl|rfl
   ·show Os Q
   ·show Os r
   ·show Os B
   ·obtain⟨o,q,_⟩:=A;show Os q
   ·obtain⟨o,q,_⟩:=F;show Os q
  show wpAny_pyNext_zip_item D Q r B A F p.isList p2.isList (by simpa using hu) (by simpa using hs) λh1 ho hi ha hl ht gb hn=>?_;show⟨_,rfl,wpAny_letOwnedTupleGo_zip ho λN hv h0=>?_⟩;let l:Heap.SameBut z h1 N:=h0
  let f:∀c o,c∉[z,TI,TO,i1,i2]->s.heap.get? c=Sb o->N.get? c=Sb o:=λc o n q=>
   (l.2 c (λe=>n (by simp[e]))).trans (hn c o (λe=>n (by simp[e])) (λe=>n (by simp[e])) (λe=>n (by simp[e])) (λe=>n (by simp[e])) q)
  let Y:=I.hok.fresh (Ox s.heap.objs.size);let hj:N.get? s.heap.objs.size=Sb { cls:=.type "tuple",data:=.seq #[u,u2] }:=(l.2 _ (PB (hh z (by simp)))).trans ht
  let I1:Inv X R U (upd H s.heap.objs.size (.tup [x,y])) { s with heap:=N }:=by
   let L:∀c o,H c=Sb o->c∉[z,TI,TO,i1,i2]:=λc o q g=>by rw[un c g] at q;cases q
   let he:HOk X.prog X.w (upd H s.heap.objs.size (.tup [x,y])) N:=λc o q=>by
    by_cases hb:c=s.heap.objs.size
    ·subst hb;rw[ah] at q;cases q;show⟨(by change 2<=sizeLine;decide),[u,u2],.cons ru (.cons ga .nil),_,hj,rfl,_,rfl⟩
    ·rw[ac hb] at q;show(I.hok c o q).stay (λd v t C=>f d v ?_ C) (λd C=>by rw[ac (aB C Y)];show C) λd ys C=>by rw[ac (aB C Y)];show C
     rcases t with rfl|t
     ·show L _ _ q
     ·show L _ _ t
   show I.step (λc g=>?_) (λc o _ _ j q _=>f c o j q)
    (λc o _ _ j q _=>⟨o.slots,f c o j q⟩) (λc o j q n=>by rw[ac (OG (Os q))];show n)
    (λc o j q=>⟨o,f c o j q⟩) (λc ys q=>by rw[ac (aB q Y)];show q) (λc o z q=>by rw[ac (aB q Y)];show q)
    (λc ps q=>⟨#[],by rw[ac (aB q Y),q];simp⟩) (λm hm=>?_) he I.bare
   ·obtain⟨f0,f1,f2,f3,f4,f5⟩:=V c g;show⟨f3,f1,f4,f5⟩
   ·obtain⟨o,T,ep,S,r'⟩:=hm;show⟨o,T,ep,f _ o (λg=>(V _ g).2.1 rfl) S,r'⟩
  show⟨.ref s.heap.objs.size,_,I1,rfl,⟨s.heap.objs.size,x,y,Y,rfl,rfl,λzs hy=>by rw[I.list_inj hy hq];show hx,λzs Q=>by rw[I.list_inj Q M];show hy⟩,⟨hv,?_,⟨u,u2,(l.2 TO D.TOz).trans hi⟩,ha.extBut l.extBut D.i1z,hl.extBut l.extBut D.i2z⟩,λc g=>?_⟩
  ·show(l.2 TI D.TIz).trans (hn TI _ D.TIz D.TITO D.TIi1 D.TIi2 r)
  ·rw[ac (OG (hh c g))];show un c g
 done:=by
  intro X hP hw hK g i R s U H E I V O hg;subst hP hw hK;obtain⟨Q,r,⟨x0,y0,B⟩,A,F⟩:=O;obtain⟨xs,ys,hq,M,hx⟩:=hg;obtain⟨hr,rv,p,hp⟩:=I.list hq;obtain⟨hk,W,p2,Z⟩:=I.list M;let D:=xW nd p.isList p2.isList Q r B A F;let l1:=rv.length;let l2:=W.length;show wpAny_pyNext_zip_end (I.ok.hd g) D Q r B A F p.isList p2.isList (hx.imp (λh=>by simp;lia) λh=>by simp;lia) λh' kk=>⟨rfl,?_⟩;let un:∀c∈[z,TI,TO,i1,i2],H c=Sd:=λc g=>(V c g).1
  let f:∀c o,c∉[z,TI,TO,i1,i2]->s.heap.get? c=Sb o->h'.get? c=Sb o:=λc o n q=>
   kk c o (λe=>n (by simp[e])) (λe=>n (by simp[e])) (λe=>n (by simp[e])) (λe=>n (by simp[e])) q
  let L:∀c o,H c=Sb o->c∉[z,TI,TO,i1,i2]:=λc o q g=>by rw[un c g] at q;cases q
  show I.step (λc g=>?_) (λc o _ _ j q _=>f c o j q)
   (λc o _ _ j q _=>⟨o.slots,f c o j q⟩) (λ_ _ _ _ n=>n)
   (λc o j q=>⟨o,f c o j q⟩) (λ_ _ q=>q) (λ_ _ _ q=>q)
   (λc ps q=>⟨#[],by rw[q];simp⟩) (λm hm=>?_) (λc o q=>?_) I.bare
  ·obtain⟨f0,f1,f2,f3,f4,f5⟩:=V c g;show⟨f3,f1,f4,f5⟩
  ·obtain⟨o,T,ep,S,r'⟩:=hm;show⟨o,T,ep,f _ o (λg=>(V _ g).2.1 rfl) S,r'⟩
  ·show(I.hok c o q).stay (λd v t C=>f d v ?_ C) (λd C=>C) λd ys C=>C;rcases t with rfl|t
   ·show L _ _ q
   ·show L _ _ t
 self:=λ_ _ _ _ _ O h=>wpAny_pyIter_zip O.1 h
section
variable {X:Cx}
def LV(K:Om)(ta:TA):TI:=λU H R=>ta U H λvs H1=>∃a b,vs=[.ref a,.ref b]/\(∃xs,SqL K H1 a xs)/\(∃ys,SqL K H1 b ys)/\R (LU K a b) H1
theorem EQ{a b:Si}(P:Gl X "zip")(hm:X.mg "zip" = Sd)(z:PA X [a,b] ta)(y:Sy [a,b] X.env=[(Sf,eval a X.env),(Sf,eval b X.env)])(f:Sy [b] X.env=[(Sf,eval b X.env)]) :
  PI X (.Tuple es kk tp) (.Call (.Name "zip" p) [a,b] [] pos) (LV X.K ta):=by
 intro d s U H R I h;show Call_ (dJ I P hm boot_zip (PyProof.Rows.callWith_type1 (bd (z pos d s U H _ I h) λY s1 ⟨S,u,i,g,q1⟩=>?_) (by rw[y,f]) (by rw[f];rfl)));obtain⟨l,l2,e,⟨T,N⟩,⟨V,n⟩,q⟩:=q1;subst e
 cases g with
 |cons O g=>cases g with
  |cons B g=>
   cases g;cases O;cases B;obtain⟨F,W,L,Q⟩:=i.list N;obtain⟨w,E,k,M⟩:=i.list n;show call_zip_2 L.isList k.isList λD v t o m r C hk=>?_;show wpAny_pyIter_zip v ?_;let A:Inv X d U u { s1 with heap:=D }:=i.kept hk
   show⟨s1.heap.objs.size+4,[s1.heap.objs.size+4,s1.heap.objs.size+2,s1.heap.objs.size+3,s1.heap.objs.size,s1.heap.objs.size+1],_,_,u,rfl,A,xX l l2 _ _ _ _ _ (by simp<;>lia),⟨v,t,⟨_,_,o⟩,m,r⟩,λc x=>?_,q⟩
   let j:s1.heap.objs.size<=c:=by
    simp only[OD,O0,or_false] at x;rcases x with rfl|rfl|rfl|rfl|rfl
    ·show Pd _ _
    ·show Pd _ _
    ·show Pd _ _
    ·show Ox _
    ·show Pd _ _
   show i.fpOk j (i.hok.fresh j)
end
theorem pS:typeLookup (.type "list") "keys" = pure Sd:=am_miss_of_fast (by kernel_rfl)
theorem ER{A:Sv}{s:Sk}{o:Obj}{Q:Option Sh->Sk->Prop}(g1:s.heap.get? a=Sb o)(g2:o.cls=.type "list")(f:o.data=.seq xs k)(i:o.dict=Sd)(m:A.handled=Sd)(q:∀h' tk,(∀b u,s.heap.get? b=Sb u->h'.get? b=Sb u)->Q Sd { s with heap:=h',toks:=tk }):Sq (So prog w) A (getAttr? (.ref a) "keys") Q E s:=by
 obtain⟨c,p,n,l⟩:=o;simp only at g2 f i;subst g2 f i;obtain⟨r,g,d,tk,e⟩:=s;let h:∀t,(⟨r,g,d,t,e⟩:Sk).TypeIs (.ref a) "list":=λ_=>⟨_,g1,rfl⟩;let k1:=sub_AttributeError;let D:=PySem.F.slot_list_getattribute.lookup;let H:=PySem.F.slot_list_getattribute.bind (.ref a);let z:=am_list_getattr_none;unfold getAttr? getAttrBy? getAttrBy;let x:(("keys":Str).length+100<=sizeLine):=by decide
 repeat (any_goals (first|assumption|show h _|((with_reducible show Sq _ _ (call (Value.builtin "list.__getattribute__") _ _) _ _ _);show call_meets PySem.F.slot_list_getattribute (h _) am_entry_list_getattribute (PySem.F.args_list_getattribute_2 _ _) (meets_getattribute_miss_list a xs k l "keys" _ pS (by decide) x) ⟨g1,m,λy j e1 n1=>?_⟩)|wp_step))
 obtain⟨C,B,v⟩:=n1.there;unfold getattributeRaised;let tE:∀t,(⟨y,g,d,t,e⟩:Sk).TypeIs (.ref e1) "AttributeError":=λ_=>⟨_,v,rfl⟩
 repeat (any_goals (first|assumption|show tE _|wp_step))
 all_goals show q _ _ n1.keeps
theorem gq:entryFor table "dict.update.loop" = Sb Builtin.«dict.update.loop»:=entryFor_of_fast (by kernel_rfl)
theorem cq:plainId "dict.update.loop" = Se:=by nofun
def bp(ps:List (ay×V)):List (ay×V):=ps.foldl (λm p=>bI m p.1 p.2) []
theorem fD(ps:List (ay×V))(p:ay×V):bp (ps++[p])=bI (bp ps) p.1 p.2:=by unfold bp;rw[List.foldl_append];rfl
theorem cP:∀(n:Nat) (ps:List (ay×V)),(bp (ps.take n)).length<=n
 |0,ps=>Ox _
 |n+1,ps=>by
  cases e:ps[n]? with
  |none=>
   let hl:=PM.mp e;have:=cP n ps;rw[P0 hl] at this;rw[P0 (by lia)]
   lia
  |some p=>
   rw[Pp,e];change(bp (ps.take n++[p])).length<=n+1;rw[fD];have:=cm (bp (ps.take n)) p.1 p.2;have:=cP n ps
   lia
theorem xY{A:Sv}{R:Result->Sk->Prop}{I d:Sj}{fp wr:List Sj}{n:Nat}{P:Nat->Sh->Prop}{St:Nat->Sw->Prop}{U:Sw}{ps:List (ay×V)}(W:Walks prog w A.in1 I fp wr n P St)(hd:d∉fp)(hn:n=ps.length)(hl:n<=sizeLine)(hP:∀i v,P i v->∃(r:Sj) (o:Obj) (z:ay) (t:Sh) (u:Sh) (m:Nat) (x:V),v=.ref r/\r∉wr/\r≠d/\U.get? r=Sb o/\o.cls=.type "tuple"/\o.data=.seq #[t,u] m/\ps[i]?=Sb (z,x)/\RelV x u/\RelV (kV z) t):∀(k j:Nat) (s:Sk) (vs:List (ay×Sh)),n-j=k->j<=n->St j s.heap->
  s.heap.DictOf (aF prog w) d vs->KV (bp (ps.take j)) vs->(∀b o,b∉wr->b≠d->U.get? b=Sb o->s.heap.get? b=Sb o)->
  (∀g y l,g.DictOf (aF prog w) d l->KV (bp ps) l->(∀b o,b∉wr->b≠d->s.heap.get? b=Sb o->g.get? b=Sb o)->R (.ok (.ret .none)) { s with heap:=g,toks:=y })->
  codeAny (So prog w) A (.builtin "dict.update.loop" ⟨[.ref d,.ref I,SM (j:Int),.none],[]⟩) R s:=by
 let X:d∉wr:=λz=>hd (W.sub _ z);intro k
 induction k with
 |zero=>
  intro j s vs e1 e2 T O h S f;let ej:j=n:=by lia
  subst ej;show codeAny_builtin gq ?_;rw[Around.under_plainId cq _];show Sm (W.done s _ _ T λg y a=>?_);show Sm (Sn (Sn ?_));obtain⟨o,Q,E,N,C⟩:=O;rw[hn,OR] at h;show f g y vs ⟨o,Q,E,a d o X N,C⟩ h λb o n1 n2 q=>a b o n1 q
 |succ k ih=>
  intro j s vs e1 e2 T O h S f;let Z:j<n:=by lia
  show codeAny_builtin gq ?_;rw[Around.under_plainId cq _];show Sm (W.item j s _ _ Z T λv g y hv F a=>?_);obtain⟨r,o,z,t,u,m,x,rfl,Y,r2,r3,r4,r5,r6,r7,r8⟩:=hP j v hv;let p:=a r o Y (S r o Y r2 r3)
  let H:g.DictOf (aF prog w) d vs:=by
   obtain⟨o,Q,E,N,C⟩:=O;show⟨o,Q,E,a d o X N,C⟩
  let hz:vs.length<=sizeLine:=by
   have:=cP j ps;rw[<- h.length]
   lia
  show Sm (SB (Sm (wpAny_tryCatch ?_)));unfold Builtin.Dict.pairItems;show Sm (wpAny_typeOf ⟨_,p,r4⟩ ?_);rw[if_pos (by decide)];show Sm (wpAny_seqItems p r5 (Sn ?_));show SB (wpAny_dictSet_pairs (jG r8) H λh2 B D=>?_);show Sn ⟨plainId_quiet cq _,ih (j+1) _ _ (by lia) Z (W.frame _ _ _ F λb hb o q=>(D.2 b (λe=>hd (e▸hb))).trans q) B ?_ (λb o n1 n2 q=>(D.2 b n2).trans (a b o n1 (S b o n1 n2 q))) λh3 L K d3 M c=>?_⟩
  ·rw[Pp,r6];change KV (bp (ps.take j++[(z,x)])) _;rw[fD];show h.put z r7
  ·show f h3 L K d3 M λb o n1 n2 q=>c b o n1 n2 ((D.2 b n2).trans (a b o n1 q))
section
variable {X:Cx}
def A2(K:Om)(H:Hp)(rs:List V)(ps:List (ay×V)):Prop:=rs.length=ps.length/\∀(i:Nat) (z:ay) (x:V),ps[i]?=Sb (z,x)->∃a,rs[i]?=Sb (V.ref a)/\SqT K H a [kV z,x]
theorem wo(hc:X.calm=Se):fB X (.type "dict") (λxs H Q=>∃(p:Sj) (rs:List V) (ps:List (ay×V)),xs=[.ref p]/\SqL X.K H p rs/\A2 X.K H rs ps/\ps.length<=sizeLine/\∀l,H l=Sd->Q (.ref l) (upd H l (.dK (bp ps)))):=by
 intro D s U H xs us Q I r h;obtain⟨p,rs,ps,rfl,hq,d,hl,q⟩:=h;obtain⟨u,rfl,rx⟩:=kO r;cases rx;obtain⟨g,P,S,hz⟩:=I.list hq;let c:=P.length
 let Y:p<s.heap.objs.size:=by
  obtain⟨o,n,e,_⟩:=S;show Os e
 show callType_codes (Q₁:=λx s₁=>x=.ref s.heap.objs.size/\s₁={ s with heap:=s.heap.push { cls:=.type "dict",data:=.dict #[] } }) PySem.F.kt_called_dict (PySem.F.kt_typeCall_dict_1 _) PySem.F.entry_dict_init (kt_code_dict_new _ ⟨rfl,rfl⟩) ?_
 rintro x s1 ⟨rfl,rfl⟩
 let N:(s.heap.push { cls:=.type "dict",data:=.dict #[] }).DictOf (aF X.prog X.w) s.heap.objs.size []:=Heap.DictOf.new s.heap;show⟨N.typeIs,PySem.F.args_dict_init_2 _ _,?_⟩;let hh:X.A.in1.in1.handled=Sd:=I.ok.hd hc;obtain⟨o,n,g1,M,g3,T⟩:=S;let f:(s.heap.push { cls:=.type "dict",data:=.dict #[] }).get? p=Sb o:=Oq _ g1;unfold Builtin.«dict.__init__»;show Sm ?_;unfold Builtin.Dict.selfAndRest;show Sm (wpAny_notOrdered_dict N.typeIs ?_);change Sq _ _ (pure (s.heap.objs.size,[Value.ref p])) _ _ _;show Sn ?_;change Sq _ _ (Builtin.Dict.updateFrom "dict.__init__" s.heap.objs.size (.ref p) [] Value.none) _ _ _;unfold Builtin.Dict.updateFrom;show Sm (wpAny_typeOf ⟨_,f,M⟩ ?_);rw[if_pos (by decide)];show Sm (ER f M T g3 hh λj t1 k1=>?_);let C:j.IsList p g.toArray:=⟨o,k1 _ _ f,M,_,T⟩;show Sm (wpAny_rule (Sm (SN C ?_)));let dh:j.get? s.heap.objs.size=Sb { cls:=.type "dict",data:=.dict #[] }:=k1 _ _ (OJ _ rfl);let E:s.heap.objs.size<j.objs.size:=Os dh;let k:∀b w,s.heap.get? b=Sb w->(j.push { cls:=.type "list_iterator",data:=.fields #[.ref p,.int 0 0] }).get? b=Sb w:=λb w e=>Oq _ (k1 b w (Oq _ e));let W:=Walks.list (prog:=X.prog) (w:=X.w) hh j.objs.size p (OG (QB Y E)) g.toArray;show Sn ⟨plainId_quiet cq _,xY (ps:=ps) W (λhm=>?_) ?_ ?_ (λi v L=>?_) _ 0 _ [] rfl (OS _) ⟨⟨_,OJ _ rfl,rfl,rfl⟩,?_⟩ ?_ .nil (λb w _ _ e=>e) λh2 t2 vs d2 kv B=>?_⟩
 ·simp only[OD,O0,or_false] at hm;rcases hm with z|z
  ·show absurd z (OG E)
  ·show absurd z (PB Y)
 ·rw[OC,<- c];show d.1
 ·rw[OC,<- c];show hz
 ·let L:g[i]?=Sb v:=by simpa using L
  let hi:i<ps.length:=by
   have:=(OA.mp L).1;rw[<- d.1,c];show this
  obtain⟨a,e1,e2⟩:=d.2 i ps[i].1 ps[i].2 (by rw[Ot hi]);obtain⟨y,e3,e4⟩:=P.get e1;rw[L] at e3;cases e3;cases e4;obtain⟨ha,t,⟨O,Z,f2,m,f3⟩,_⟩:=I.tuple e2;let R:=Os Z
  cases t with
  |cons ra t=>cases t with
   |cons rb t=>
    cases t
    show⟨a,O,ps[i].1,_,_,m,ps[i].2,rfl,(λz=>by
     let z:a=j.objs.size:=by simpa using z
     show absurd (QB R E) (z▸Pa _)),OG R,k a O Z,f2,f3,by rw[Ot hi],rb,ra⟩
 ·show C.push _
 ·obtain⟨o',es,ep,q1,q2⟩:=N;show⟨o',es,ep,Oq _ (k1 _ _ q1),q2⟩
 ·let ln:(bp ps).length<=sizeLine:=by
   have:=cP ps.length ps;rw[OR] at this;show OW this hl
  let I2:Inv X D U (upd H s.heap.objs.size (.dK (bp ps))) { s with heap:=h2,toks:=t2 }:=I.laid (λb w e=>B b w (λz=>by
   let z:b=j.objs.size:=by simpa using z
   show absurd (QB (Os e) E) (z▸Pa _)) (OG (Os e)) (k b w e)) (Ox _) ⟨ln,beq_eq_false_iff_ne.mpr (Ne.symm (OG I.big)),vs,kv,d2⟩
  show⟨rfl,.ref s.heap.objs.size,_,I2,rfl,q _ (I.hok.fresh (Ox _))⟩
end
end G
namespace L2
open PyProof.Rows
section
variable {X:Cx} {pins:List (Sj×Obj)} {U:St} {H:Hp} {s:Sk}
def jb(wi:TI)(g:TG)(tt:TT)(te:TE)(cap:List (Option Nat)):TE:=λU H Q=>wi U H λJ H1=>∀D,H1 D=Sd->∃W:Nat->Nat->St->Hp->Prop,(∃m,W 0 m (cV U cap) (upd H1 D (.lst [])))/\∀i m U' H',W i m U' H'->
 (J.stop i H'/\Q (.ref D) H')\/(J.go i H'/\∀x H2,J.yld i H' x H2->g x U' H2 λO B=>tt O B λok B=>if ok=Se then te O B λy H4=>∃ys,H4 D=Sb (.lst ys)/\ys.length<sizeLine/\∃q,q<m/\W (i+1) q O (upd H4 D (.lst (ys++[y]))) else ∃q,q<m/\W (i+1) q O B)
def A3(X:Cx)(q:List Si)(B:TT):Prop:=∀(pins:List (Sj×Obj)) (s:Sk) (U:St) (H:Hp) (Q:Bool->Hp->Prop),Inv X pins U H s->B U H Q->
 Sq (So X.prog X.w) X.A (forIn q Se λc r=>if r=Se then do let O <- isTrue c X.env (eval c X.env);pure (ForInStep.yield O) else pure (ForInStep.yield r)) (TP X pins U Q) X.xe s
theorem um:A3 X [] (λ_ H Q=>Q Se H):=λa s U H Q I h=>wpAny_tests_nil ⟨H,I,h⟩
theorem uo{c:Si}(h:PT X c t):A3 X [c] t:=λa s U H Q I q=>wpAny_tests_one (h a s U H Q I q)
theorem mR(hc:X.calm=Se)(O:fC X N' scope cap)(hi:PI X tg iter wi)(hg:∀C s H ex,PG (ao X N' scope C s H ex) tg g)(ht:∀C s H ex,A3 (ao X N' scope C s H ex) ifs tt)(he:∀C s H ex,PE (ao X N' scope C s H ex) elt te){Q:VK}(I:Inv X pins U H s)(h:jb wi g tt te cap U H Q)(hs:∀x,foldedSetIterable iter X.env x=pure x)(hX:X.xe=E)(hQ:∀(C D:Sj) (s1:Sk) (H1:Hp) (f:List Sj) (U':St) (H':Hp) (s':Sk),Inv X pins U H1 s1->(∀b∈f,ip X pins H1 b)->Inv (ao X N' scope C s1 H1 f) [] U' H' s'->Q (.ref D) H'->
   compPost (So X.prog X.w) X.A E use Q' (.ref D) C (.ok .next) s') :
  Sq (So X.prog X.w) X.A (comprehension (.ListComp elt [⟨tg,iter,ifs,0⟩] scope pos) scope X.env cpos (newList []) Sf (eval iter X.env) use) Q' E s:=by
 let hj:closureFor scope X.env=pure (gB X.env.cells scope.names []):=gH λy hy e=>I.ok.has _ (O.free y hy e);show wpAny_comprehension_free rfl hs hj O.kind O.names ?_;subst hX;show bd (hi pins s U H _ I h) λv s1 h1=>bd h1 λh0 s2 h2=>?_;obtain⟨it,f,tn,J,K,e,I2,T,P,f2,hW⟩:=h2;subst e;show SQ (gI ?_);dsimp only;generalize z:s2.heap.push { cls:=.type "list",dict:=Sd,data:=.seq ([]:List Sh).toArray }=HH;let ha:HH.objs.size=s2.heap.objs.size+1:=by rw[<- z,Pn]
 let hk:s2.heap.objs.size<HH.objs.size:=by rw[ha];show Pv _
 generalize B:pushCells (HH.push { cls:=.type "dict",data:=.dict #[] }) scope.names=h₁;let kp:∀b o,HH.get? b=Sb o->h₁.get? b=Sb o:=λb o e=>B▸pushCells_keeps _ _ b o (Oq _ e);let V:h₁.Ns HH.objs.size λ_=>Sd:=B▸(Heap.Ns.new HH (.type "dict")).keeps (pushCells_keeps _ _)
 let hl:∀x c,(SC (HH.objs.size+1) scope.names []).lookup x=Sb c->h₁.IsCell c Sd:=λx c e=>by
  let ok:=cellsFrom_ok scope.names (HH.push { cls:=.type "dict",data:=.dict #[] }) 0 [] ⟨λ_ _ hm=>(nomatch hm),List.Pairwise.nil⟩ (OS _)
  rw[Pn] at ok;show B▸(ok.empty x c (cb e)).1
 let N:∀b o,s2.heap.get? b=Sb o->h₁.get? b=Sb o:=λb o e=>kp b o (z▸Oq _ e);let ho:h₁.get? s2.heap.objs.size=Sb { cls:=.type "list",data:=.seq ([]:List Sh).toArray }:=kp _ _ (z▸OJ _ rfl);let Z:∀b∈f,b<s2.heap.objs.size:=λb a=>let ⟨o,e,_⟩:=T.obj 0 _ P b a;Os e;let F:=I2.hok.fresh (Ox s2.heap.objs.size);obtain⟨W,⟨m0,w0⟩,hf⟩:=hW s2.heap.objs.size F;let J0:=pR (tk:=s2.toks) (o:=.lst []) I2 O f2 Z (by rw[ha];show Qa _) (Ox _) hk hl V N ⟨OS _,[],_,.nil,ho⟩;let hd:tn 0 h₁:=T.keep 0 _ _ P λb _ o e=>N b o e
 let hv:∀b∈f,(upd K s2.heap.objs.size (.lst [])) b=Sd:=λb a=>by
  rw[ac (OG (Z b a))];show(f2 b a).1
 let l:∀{H':Hp},(∀b∈f,H' b=Sd)->∀b∈f,ip (ao X N' scope HH.objs.size s2 K f) [] H' b:=λhn b a=>
  ⟨hn b a,(J0.ok.exf b a).1,J0.ok.exfs b a,.inl a,(J0.ok.exf b a).2,λp hp=>absurd hp (by simp[ao])⟩
 let t:codeAny (So X.prog X.w) X.A (.compLoop (.ListComp elt [⟨tg,iter,ifs,0⟩] scope pos) 0 (.ref it) (.ref s2.heap.objs.size) (compEnvC scope (EN X.env.cells scope.names HH.objs.size) HH.objs.size X.env))
   (compPost (So X.prog X.w) X.A X.xe use Q' (.ref s2.heap.objs.size) HH.objs.size) { s2 with heap:=h₁,toks:=s2.toks }:=by
  show nV (λn s'=>∃i U' H',Inv (ao X N' scope HH.objs.size s2 K f) [] U' H' s'/\tn i s'.heap/\(∀b∈f,H' b=Sd)/\W i n U' H') ?_ m0 ⟨0,_,_,J0,hd,hv,w0⟩
  rintro n s3 ⟨i,S,H3,I3,Y,R,w3⟩
  rcases hf i n S H3 w3 with⟨hh,qn⟩|⟨go,M⟩
  ·show bd (T.done (ao X N' scope HH.objs.size s2 K f) rfl rfl rfl hc i [] s3 S H3 _ I3 (l R) Y hh) λr s4 ⟨hr,I4⟩=>?_;subst hr;show hQ _ _ s2 K f S H3 s4 I2 f2 I4 qn
  ·show bd (T.item (ao X N' scope HH.objs.size s2 K f) rfl rfl rfl hc i [] s3 S H3 _ I3 (l R) Y go) λr s4 ⟨u,hr,h4⟩=>?_;subst hr;show bd h4 λ_ s5 j=>?_;obtain⟨x,H5,I5,r5,y5,k,hu⟩:=j;let hx:=I5.pinned (l hu) (T.obj _ _ k);show bd (hg _ _ _ _ _ s5 S H5 x u _ hx r5 (M x H5 y5)) λ_ s6 j=>?_;obtain⟨L,H6,I6,q6⟩:=j;show bd (ht _ _ _ _ _ s6 L H6 _ I6 q6) λok hq j=>?_;obtain⟨hw,m,q⟩:=j
   cases ok with
   |false=>
    rw[if_neg Px] at q⊢;obtain⟨m',hm,w7⟩:=q;show⟨m',hm,i+1,L,_,m.unpinned,T.keep _ _ _ k λb a o e=>(m.pin (b,o) (OB _ (OB _ (bx a e)))).1,λb a=>?_,w7⟩;obtain⟨o,e,d⟩:=T.obj _ _ k b a;show(m.pin (b,o) (OB _ (OB _ (bx a e)))).2.1
   |true=>
   rw[if_pos rfl] at q⊢;show bd (he _ _ _ _ _ hq L hw _ m q) λyv s7 j=>?_;obtain⟨y,H7,I7,r7,ys,hD,j,m',hm,w7⟩:=j;show bd (mK _ s7 L H7 (.ref s2.heap.objs.size) [y] (.ref s2.heap.objs.size) [yv] (λv H'=>v=.non/\H'=upd H7 s2.heap.objs.size (.lst (ys++[y]))) I7 rfl (.cons r7 .nil) ⟨_,ys,y,rfl,rfl,hD,j,rfl,rfl⟩) λ_ s8 j=>?_;obtain⟨_,H8,I8,_,_,e8⟩:=j;subst e8;show⟨m',hm,i+1,L,_,I8.unpinned,T.keep _ _ _ k λb a o e=>(I8.pin (b,o) (OB _ (OB _ (bx a e)))).1,λb a=>?_,w7⟩;obtain⟨o,e,d⟩:=T.obj _ _ k b a;show(I8.pin (b,o) (OB _ (OB _ (bx a e)))).2.1
 show codeAny_compStart_list t (T.self _ 0 _ _ _ hd t)
theorem pT(k:X.calm=Se)(O:fC X N' scope cap)(hi:PI X tg iter wi)(e:∀C s H ex,PG (ao X N' scope C s H ex) tg g)(f:∀C s H ex,A3 (ao X N' scope C s H ex) ifs tt)(l:∀C s H ex,PE (ao X N' scope C s H ex) elt te)(c:∀x,foldedSetIterable iter X.env x=pure x:=by intro _;rfl):PE X (.ListComp elt [⟨tg,iter,ifs,0⟩] scope pos) (jb wi g tt te cap):=by
 intro b s U H Q I h;rw[eval_ListComp];show mR k O hi e f l I h c rfl λC D s1 r p t d n i j J q=>?_;obtain⟨m,hn,_⟩:=J.loc;show⟨m,hn,λo a=>⟨.ref D,d,iw i j J a,rfl,q⟩⟩
theorem xZ{cpos pos' pos:Pos}{i:Nat}(P:X.calm=Se)(O:fC X N' scope cap)(hi:PI X tg iter wi)(hg:∀C s H ex,PG (ao X N' scope C s H ex) tg g)(W:∀C s H ex,A3 (ao X N' scope C s H ex) ifs tt)(R:∀C s H ex,PE (ao X N' scope C s H ex) elt te)(F:∀x,foldedSetIterable iter X.env x=pure x)(K:X.N.Nodup)(z:X.N[i]?=Sb x)(V:Ef X.env.scope x)(Z:X.fn x=Se\/X.env.scope.names.lookup x=Sb .local)(u:swapsWith (.ListComp elt [⟨tg,iter,ifs,0⟩] scope cpos) (Sb (.Name x pos')) pos.line X.env=pure Se) :
  PS X (.Assign [.Name x pos'] (.ListComp elt [⟨tg,iter,ifs,0⟩] scope cpos) pos) (AK (jb wi g tt te cap) (ik i)):=by
 intro d s U H D I h;rw[exec_Assign_Name_used _ _ _ _ u];show Sm (wpAny_standAt (Sm ?_));show Sm (wpAny_mono (mR P O hi hg W R I h F rfl λC T s1 H1 fp U' A n l M J q=>?_) (λ_ n hq=>Sn (Sn hq)) λ_ _ e=>e);let L:Inv X d U A n:=iw l M J (Heap.SameBut.refl C n.heap);let E:s1.heap.objs.size<=C:=J.ok.above;let f:∀b o,s1.heap.get? b=Sb o->b≠C:=λb o e=>OG (Ov (Os e) E);obtain⟨m1,⟨oL,_,_,B,_⟩,_⟩:=id l.loc;let hL:X.env.locals≠C:=f _ _ B
 let k:∀x c,X.env.cells.lookup x=Sb c->c≠C:=λx c e=>by
  obtain⟨v,o,g,_⟩:=l.cell x c e;show f _ _ g
 let w:∀p∈X.pn++d,p.1≠C:=λp Q=>f _ _ (l.pin p Q).1
 let S:X.s₀.heap.objs.size<=C:=by
  show OW ?_ E;show Qk (O1 l.ok.above (Os B))
 obtain⟨m,hn,_⟩:=J.loc;show wpAny_assign_Name (i8 L K z V (v:=.ref T) rfl (λs3 Y j=>?_) Z);obtain⟨a,j,r⟩:=j
 let y:C≠a:=by
  rcases r with rfl|r
  ·show Ne.symm hL
  ·show Ne.symm (k _ _ r)
 show⟨m,hn.sameBut j y,λh' t=>⟨_,A,Y.junk t S hL k w J.free,q⟩⟩
end
end L2
namespace J
open PyProof.Rows
abbrev DK:=ay ⊕ List (ay ⊕ List ay)
inductive Hd where
 |lst|tup|dic (t:Nat) (ks:List DK)|obj (c:Str) (ns:List Str)
 deriving DecidableEq
inductive D where
 |non|bl (b:Bool)|int (i:Int)|str (x:Str)|scr (ns:List Int)|nd (h:Hd) (ds:List D)
noncomputable abbrev D.lst(ds:List D):D:=.nd .lst ds
noncomputable abbrev D.tup(ds:List D):D:=.nd .tup ds
noncomputable abbrev D.dic(t:Nat)(q:List DK)(ds:List D):D:=.nd (.dic t q) ds
noncomputable def Hd.mu:Hd->Bool
 |.tup=>Sf
 |_=>Se
def LW(K:Om)(a:Sj)(xs:List V):Prop:=
 ∃(o:Obj) (q:Array Sh) (n:Nat),K.lookup a=Sb o/\o.cls=.type "list"/\o.dict=Sd/\o.data=.seq q n/\q.size<=sizeLine/\Vals xs q.toList
def d4(K:Om)(o:HO):Hd->List V->Prop
 |.lst,xs=>o=.lst xs
 |.tup,xs=>o=.tup xs
 |.dic t ks,xs=>(t=0/\∃q:List (ay×V),o=.dK q/\ks=q.map (λp=>Sum.inl p.1)/\xs=q.map (·.2))\/(∃m,t=m+1/\∃(q:List (List (ay ⊕ List ay)×V)) (B:Nat),o=.dT m B q/\ks=q.map (λp=>Sum.inr p.1)/\xs=q.map (·.2))
 |.obj c ns,xs=>∃C dx,Ps K Sz c=Sb (Sb (.ref C))/\(Cls K C/\∀f∈ns,NoAttr K C f)/\o=.ins C dx (ns.zip xs)/\ns.length=xs.length
abbrev Pr:=Sj->Prop
mutual
def Rp(K:Om)(H:Hp)(S:Pr):D->V->Prop
 |.non,v=>v=.non
 |.bl b,v=>v=.bl b
 |.int i,v=>v=.int i
 |.str x,v=>v=.str x
 |.scr ns,v=>∃a,v=.ref a/\((¬S a/\Rd H a (.lst (ns.map V.int)))\/LW K a (ns.map V.int))
 |.nd h ds,v=>∃a o xs,v=.ref a/\¬S a/\H a=Sb o/\d4 K o h xs/\RpL K H S ds xs
def RpL(K:Om)(H:Hp)(S:Pr):List D->List V->Prop
 |[],xs=>xs=[]
 |d::ds,xs=>∃y ys,xs=y::ys/\Rp K H S d y/\RpL K H S ds ys
end
section
variable {K:Om} {H H':Hp} {S S':Pr}
mutual
theorem Rp.go(k:∀b o,¬S b->H b=Sb o->H' b=Sb o/\¬S' b):∀{d:D} {v:V},Rp K H S d v->Rp K H' S' d v
 |.non,_,h=>h
 |.bl _,_,h=>h
 |.int _,_,h=>h
 |.str _,_,h=>h
 |.scr ns,v,h=>by
  unfold Rp at h⊢;obtain⟨a,e,h⟩:=h;show⟨a,e,?_⟩;rcases h with⟨n,g|⟨o,g⟩⟩|h
  ·show .inl ⟨(k _ _ n g).2,.inl (k _ _ n g).1⟩
  ·show .inl ⟨(k _ _ n g).2,.inr ⟨o,(k _ _ n g).1⟩⟩
  ·show .inr h
 |.nd hd ds,v,h=>by
  unfold Rp at h⊢;obtain⟨a,o,c,e,n,g,q,r⟩:=h;show⟨a,o,c,e,(k _ _ n g).2,(k _ _ n g).1,q,RpL.go k r⟩
theorem RpL.go(k:∀b o,¬S b->H b=Sb o->H' b=Sb o/\¬S' b):∀{ds:List D} {vs:List V},RpL K H S ds vs->RpL K H' S' ds vs
 |[],_,h=>by unfold RpL at h⊢;show h
 |d::ds,_,h=>by
  unfold RpL at h⊢;obtain⟨y,a,e,r,t⟩:=h;show⟨y,a,e,Rp.go k r,RpL.go k t⟩
end
theorem Rp.same(s:Same H H')(h:Rp K H S d v):Rp K H' S d v:=h.go λb o n e=>⟨s b o e,n⟩
theorem RpL.same(s:Same H H')(h:RpL K H S d v):RpL K H' S d v:=h.go λb o n e=>⟨s b o e,n⟩
theorem Rp.weak(k:∀b,S' b->S b){d:D}{v:V}(h:Rp K H S d v):Rp K H S' d v:=h.go λb o n e=>⟨e,λz=>n (k b z)⟩
theorem RpL.weak(k:∀b,S' b->S b)(h:RpL K H S d v):RpL K H S' d v:=h.go λb o n e=>⟨e,λz=>n (k b z)⟩
theorem RpL.len:∀{ds:List D} {vs:List V},RpL K H S ds vs->vs.length=ds.length
 |[],_,h=>by unfold RpL at h;rw[h];rfl
 |d::ds,_,h=>by
  unfold RpL at h;obtain⟨y,a,rfl,_,t⟩:=h;rw[OM,OM,RpL.len t]
theorem RpL.nil:RpL K H S [] []:=by unfold RpL;rfl
theorem RpL.cons{d:D}{v:V}{ds:List D}{vs:List V}(h1:Rp K H S d v)(h2:RpL K H S ds vs):RpL K H S (d::ds) (v::vs):=by unfold RpL;show⟨v,vs,rfl,h1,h2⟩
theorem RpL.nil_inv(h:RpL K H S [] vs):vs=[]:=by unfold RpL at h;show h
theorem RpL.cons_inv(h:RpL K H S (d::ds) vs):∃y ys,vs=y::ys/\Rp K H S d y/\RpL K H S ds ys:=by unfold RpL at h;show h
theorem RpL.getD:∀{ds:List D} {vs:List V} {i:Nat} {d:D},RpL K H S ds vs->ds[i]?=Sb d->∃v,vs[i]?=Sb v/\Rp K H S d v
 |[],_,_,_,_,e=>by simp at e
 |d::ds,_,0,d',h,e=>by obtain⟨y,a,rfl,r,t⟩:=h.cons_inv;simp at e;subst e;show⟨y,rfl,r⟩
 |d::ds,_,i+1,d',h,e=>by obtain⟨y,a,rfl,r,t⟩:=h.cons_inv;simpa using RpL.getD t (by simpa using e)
theorem RpL.append:∀{ds es:List D} {vs us:List V},RpL K H S ds vs->RpL K H S es us->RpL K H S (ds++es) (vs++us)
 |[],_,_,_,h,g=>by rw[h.nil_inv];show g
 |d::ds,_,_,_,h,g=>by obtain⟨y,a,rfl,r,t⟩:=h.cons_inv;show .cons r (RpL.append t g)
theorem RpL.take:∀{ds:List D} {vs:List V} (n:Nat),RpL K H S ds vs->RpL K H S (ds.take n) (vs.take n)
 |_,_,0,_=>by simpa using RpL.nil
 |[],_,_+1,h=>by rw[h.nil_inv];simpa using RpL.nil
 |d::ds,_,n+1,h=>by obtain⟨y,a,rfl,r,t⟩:=h.cons_inv;show .cons r (RpL.take n t)
theorem RpL.drop:∀{ds:List D} {vs:List V} (n:Nat),RpL K H S ds vs->RpL K H S (ds.drop n) (vs.drop n)
 |_,_,0,h=>h
 |[],_,_+1,h=>by rw[h.nil_inv];simpa using RpL.nil
 |d::ds,_,n+1,h=>by obtain⟨y,a,rfl,r,t⟩:=h.cons_inv;show RpL.drop n t
theorem RpL.set:∀{ds:List D} {vs:List V} (n:Nat) {d:D} {v:V},RpL K H S ds vs->Rp K H S d v->RpL K H S (ds.set n d) (vs.set n v)
 |[],_,_,_,_,h,_=>by rw[h.nil_inv];simpa using RpL.nil
 |d::ds,_,0,_,_,h,g=>by obtain⟨y,a,rfl,r,t⟩:=h.cons_inv;show .cons g t
 |d::ds,_,n+1,_,_,h,g=>by obtain⟨y,a,rfl,r,t⟩:=h.cons_inv;show .cons r (RpL.set n t g)
theorem RpL.ints:∀a:List Int,RpL K H S (a.map D.int) (a.map V.int)
 |[]=>.nil
 |n::a=>.cons (by unfold Rp;rfl) (RpL.ints a)
end
mutual
def si:D->Bool
 |.nd h ds=>!h.mu&&A4 ds
 |.scr _=>Sf
 |_=>Se
def A4:List D->Bool
 |[]=>Se
 |d::ds=>si d&&A4 ds
end
def MuOk(H:Hp)(S:Pr):Prop:=∀a,S a->∃o,H a=Sb o/\∀xs,o≠.tup xs
section
variable {K:Om} {H:Hp} {S S':Pr}
mutual
theorem Rp.im(m:MuOk H S'):∀{d:D} {v:V},si d=Se->Rp K H S d v->Rp K H S' d v
 |.non,_,_,h=>h
 |.bl _,_,_,h=>h
 |.int _,_,_,h=>h
 |.str _,_,_,h=>h
 |.scr ns,v,i,h=>by simp[si] at i
 |.nd hd ds,v,i,h=>by
  unfold Rp at h⊢;obtain⟨a,o,c,e,n,g,q,r⟩:=h;rw[si,Oo] at i;show⟨a,o,c,e,λz=>?_,g,q,RpL.im m i.2 r⟩;obtain⟨j,b,f⟩:=m a z;rw[g] at b;cases b
  cases hd with
  |tup=>show f _ q
  |_=>show absurd i.1 (by simp[Hd.mu])
theorem RpL.im(m:MuOk H S'):∀{ds:List D} {vs:List V},A4 ds=Se->RpL K H S ds vs->RpL K H S' ds vs
 |[],_,_,h=>by unfold RpL at h⊢;show h
 |d::ds,_,i,h=>by
  rw[A4,Oo] at i;obtain⟨y,a,rfl,r,t⟩:=h.cons_inv;show .cons (Rp.im m i.1 r) (RpL.im m i.2 t)
end
end
inductive Ow where
 |fz|own (es:List Ow) (r:Ow)
mutual
def Tr(K:Om)(H:Hp)(S:Pr):D->Ow->V->Pr->Prop
 |.nd h ds,.own es r,v,F=>∃a o xs F',v=.ref a/\H a=Sb o/\d4 K o h xs/\(h.mu=Se->¬F' a)/\(h.mu=Sf->¬S a)/\(∀b,F b↔(h.mu=Se/\b=a)\/F' b)/\TrL K H S ds es r xs F'
 |d,_,v,F=>(∀b,¬F b)/\Rp K H S d v
def TrL(K:Om)(H:Hp)(S:Pr):List D->List Ow->Ow->List V->Pr->Prop
 |[],_,_,xs,F=>xs=[]/\∀b,¬F b
 |d::ds,es,r,xs,F=>∃y ys F1 F2,xs=y::ys/\(∀b,F b↔F1 b\/F2 b)/\(∀b,F1 b->¬F2 b)/\Tr K H S d (es.headD r) y F1/\TrL K H S ds es.tail r ys F2
end
section
variable {K:Om} {H H':Hp} {S S':Pr}
mutual
theorem Tr.go:∀{d:D} {k:Ow} {v:V} {F:Pr},(∀b o,(¬S b\/F b)->H b=Sb o->H' b=Sb o)->(∀b o,H b=Sb o->¬S b->¬S' b)->Tr K H S d k v F->Tr K H' S' d k v F
 |.non,_,_,_,k1,k2,h=>by unfold Tr at h⊢;show⟨h.1,h.2⟩
 |.bl _,_,_,_,k1,k2,h=>by unfold Tr at h⊢;show⟨h.1,h.2⟩
 |.int _,_,_,_,k1,k2,h=>by unfold Tr at h⊢;show⟨h.1,h.2⟩
 |.str _,_,_,_,k1,k2,h=>by unfold Tr at h⊢;show⟨h.1,h.2⟩
 |.scr ns,_,_,_,k1,k2,h=>by unfold Tr at h⊢;show⟨h.1,h.2.go λb o n e=>⟨k1 b o (.inl n) e,k2 b o e n⟩⟩
 |.nd hd ds,.fz,_,_,k1,k2,h=>by unfold Tr at h⊢;show⟨h.1,h.2.go λb o n e=>⟨k1 b o (.inl n) e,k2 b o e n⟩⟩
 |.nd hd ds,.own es r,v,F,k1,k2,h=>by
  unfold Tr at h⊢;obtain⟨a,o,j,f,e,g,q,n1,n2,c,t⟩:=h
  let i:H' a=Sb o:=by
   cases hm:hd.mu with
   |true=>show k1 a o (.inr ((c a).mpr (.inl ⟨hm,rfl⟩))) g
   |false=>show k1 a o (.inl (n2 hm)) g
  show⟨a,o,j,f,e,i,q,n1,λhm=>k2 a o g (n2 hm),c,TrL.go (λb o h=>k1 b o (h.imp id λz=>(c b).mpr (.inr z))) k2 t⟩
theorem TrL.go:∀{ds:List D} {es:List Ow} {r:Ow} {vs:List V} {F:Pr},(∀b o,(¬S b\/F b)->H b=Sb o->H' b=Sb o)->(∀b o,H b=Sb o->¬S b->¬S' b)->TrL K H S ds es r vs F->TrL K H' S' ds es r vs F
 |[],_,_,_,_,_,_,h=>by unfold TrL at h⊢;show h
 |d::ds,es,r,vs,F,k1,k2,h=>by
  unfold TrL at h⊢;obtain⟨y,i,j,f,e,a,g,k,c⟩:=h;show⟨y,i,j,f,e,a,g,Tr.go (λb o h=>k1 b o (h.imp id λz=>(a b).mpr (.inl z))) k2 k,TrL.go (λb o h=>k1 b o (h.imp id λz=>(a b).mpr (.inr z))) k2 c⟩
end
mutual
theorem Tr.rp:∀{d:D} {k:Ow} {v:V} {F:Pr},(∀b,S' b->S b/\¬F b)->Tr K H S d k v F->Rp K H S' d v
 |.non,_,_,_,k2,h=>by unfold Tr at h;show h.2
 |.bl _,_,_,_,k2,h=>by unfold Tr at h;show h.2
 |.int _,_,_,_,k2,h=>by unfold Tr at h;show h.2
 |.str _,_,_,_,k2,h=>by unfold Tr at h;show h.2
 |.scr ns,_,_,_,k2,h=>by unfold Tr at h;show h.2.weak λb z=>(k2 b z).1
 |.nd hd ds,.fz,_,_,k2,h=>by unfold Tr at h;show h.2.weak λb z=>(k2 b z).1
 |.nd hd ds,.own es r,v,F,k2,h=>by
  unfold Tr at h;unfold Rp;obtain⟨a,o,f,i,e,g,q,n1,n2,c,t⟩:=h;show⟨a,o,f,e,λz=>?_,g,q,TrL.rp (λb z=>⟨(k2 b z).1,λz2=>(k2 b z).2 ((c b).mpr (.inr z2))⟩) t⟩
  cases hm:hd.mu with
  |true=>show(k2 a z).2 ((c a).mpr (.inl ⟨hm,rfl⟩))
  |false=>show n2 hm (k2 a z).1
theorem TrL.rp:∀{ds:List D} {es:List Ow} {r:Ow} {vs:List V} {F:Pr},(∀b,S' b->S b/\¬F b)->TrL K H S ds es r vs F->RpL K H S' ds vs
 |[],_,_,_,_,_,h=>by unfold TrL at h;unfold RpL;show h.1
 |d::ds,es,r,vs,F,k2,h=>by
  unfold TrL at h;obtain⟨y,i,j,f,rfl,a,g,e,c⟩:=h;show .cons (Tr.rp (λb z=>⟨(k2 b z).1,λz2=>(k2 b z).2 ((a b).mpr (.inl z2))⟩) e) (TrL.rp (λb z=>⟨(k2 b z).1,λz2=>(k2 b z).2 ((a b).mpr (.inr z2))⟩) c)
end
theorem Tr.rd(h:Tr K H S d k v F):Rp K H (λ_=>False) d v:=h.rp λb z=>z.elim
theorem Tr.fz(h:Rp K H S d v):Tr K H S d .fz v (λ_=>False):=by
 cases d<;>(unfold Tr;show⟨λb z=>z,h⟩)
theorem Tr.fz_inv{F:Pr}(h:Tr K H S d .fz v F):(∀b,¬F b)/\Rp K H S d v:=by
 cases d<;>(unfold Tr at h;show h)
mutual
theorem Tr.dom:∀{d:D} {k:Ow} {v:V} {F:Pr},Tr K H S d k v F->∀b,F b->∃o,H b=Sb o/\∀xs,o≠.tup xs
 |.non,_,_,_,h=>by unfold Tr at h;show λb z=>absurd z (h.1 b)
 |.bl _,_,_,_,h=>by unfold Tr at h;show λb z=>absurd z (h.1 b)
 |.int _,_,_,_,h=>by unfold Tr at h;show λb z=>absurd z (h.1 b)
 |.str _,_,_,_,h=>by unfold Tr at h;show λb z=>absurd z (h.1 b)
 |.scr i,_,_,_,h=>by unfold Tr at h;show λb z=>absurd z (h.1 b)
 |.nd hd ds,.fz,_,_,h=>by unfold Tr at h;show λb z=>absurd z (h.1 b)
 |.nd hd ds,.own es r,v,F,h=>by
  unfold Tr at h;obtain⟨a,o,xs,l,e,g,q,n1,n2,f,t⟩:=h;intro b z;rcases(f b).mp z with⟨hm,rfl⟩|z
  ·show⟨o,g,λm j=>?_⟩;subst j
   cases hd with
   |tup=>show absurd hm (by simp[Hd.mu])
   |lst=>cases q
   |dic t n=>rcases q with⟨_,_,e,_⟩|⟨_,_,_,_,e,_⟩<;>cases e
   |obj c i=>obtain⟨_,_,_,_,e,_⟩:=q;cases e
  ·show TrL.dom t b z
theorem TrL.dom:∀{ds:List D} {es:List Ow} {r:Ow} {vs:List V} {F:Pr},TrL K H S ds es r vs F->∀b,F b->∃o,H b=Sb o/\∀xs,o≠.tup xs
 |[],_,_,_,_,h=>by unfold TrL at h;show λb z=>absurd z (h.2 b)
 |d::ds,es,r,vs,F,h=>by
  unfold TrL at h;obtain⟨y,j,k,g,e,c,i,f,a⟩:=h;intro b z;rcases(c b).mp z with z|z
  ·show Tr.dom f b z
  ·show TrL.dom a b z
end
end
end J
namespace J
abbrev Gh:=Sj->Option (Option Nat)
def Sx(g:Gh)(F:Pr):Pr:=λb=>g b≠Sd\/F b
abbrev Sg(g:Gh):Pr:=λb=>g b≠Sd
inductive Kd where
 |sh|fr (k:Ow)|bo (i:Nat) (k:Ow)
def VR1(K:Om)(H:Hp)(g:Gh)(Ft:Pr):Kd->D->V->Pr->Prop
 |.sh,d,v,F=>(∀b,¬F b)/\Rp K H (Sx g Ft) d v
 |.fr k,d,v,F=>Tr K H (Sx g Ft) d k v F
 |.bo i k,d,v,F=>(∀b,¬F b)/\∃q,(∀b,q b->g b=Sb (Sb i))/\Tr K H (Sx g Ft) d k v q
def VRL(K:Om)(H:Hp)(g:Gh)(Ft:Pr):List (Kd×D)->List V->Pr->Prop
 |[],vs,F=>vs=[]/\∀b,¬F b
 |(kd,d)::r,vs,F=>∃y ys F1 F2,vs=y::ys/\(∀b,F b↔F1 b\/F2 b)/\(∀b,F1 b->¬F2 b)/\VR1 K H g Ft kd d y F1/\VRL K H g Ft r ys F2
def VR(K:Om)(g:Gh)(H0 H:Hp)(kd:Kd)(d:D)(v:V):Prop:=∃F:Pr,(∀b,F b->H0 b=Sd)/\VR1 K H g F kd d v F
def VRs(K:Om)(g:Gh)(H0 H:Hp)(kds:List (Kd×D))(vs:List V):Prop:=∃F:Pr,(∀b,F b->H0 b=Sd)/\VRL K H g F kds vs F
section
variable {K:Om} {H H' H0 H1:Hp} {g:Gh} {Ft Ft' F:Pr}
theorem VR1.go(s:Same H H')(l:∀b o,H b=Sb o->Ft' b->Ft b)(h:VR1 K H g Ft kd d v F):VR1 K H' g Ft' kd d v F:=by
 let a:∀b o,H b=Sb o->¬Sx g Ft b->¬Sx g Ft' b:=λb o e n z=>n (z.imp id (l b o e))
 cases kd with
 |sh=>show⟨h.1,h.2.go λb o n e=>⟨s b o e,a b o e n⟩⟩
 |fr k=>show Tr.go (λb o _ e=>s b o e) a h
 |bo i k=>obtain⟨m,j,f,c⟩:=h;show⟨m,j,f,Tr.go (λb o _ e=>s b o e) a c⟩
theorem VR1.dom(h:VR1 K H g Ft kd d v F):∀b,F b->∃o,H b=Sb o/\∀xs,o≠.tup xs:=by
 cases kd with
 |sh=>show λb z=>absurd z (h.1 b)
 |fr k=>show Tr.dom h
 |bo i k=>show λb z=>absurd z (h.1 b)
theorem VRL.dom:∀{kds:List (Kd×D)} {vs:List V} {F:Pr},VRL K H g Ft kds vs F->∀b,F b->∃o,H b=Sb o/\∀xs,o≠.tup xs
 |[],_,_,h=>λb z=>absurd z (h.2 b)
 |(kd,d)::r,_,_,h=>by
  obtain⟨y,k,l,i,e,c,j,f,a⟩:=h;intro b z;rcases(c b).mp z with z|z
  ·show f.dom b z
  ·show VRL.dom a b z
theorem VR.same(s:Same H H')(h:VR K g H0 H kd d v):VR K g H0 H' kd d v:=
 let ⟨F,h1,h2⟩:=h;⟨F,h1,h2.go s λ_ _ _ z=>z⟩
theorem VR.older(s:Same H0 H1)(h:VR K g H1 H kd d v):VR K g H0 H kd d v:=
 let ⟨F,h1,h2⟩:=h;⟨F,λb z=>s.free (h1 b z),h2⟩
theorem VR1.rd(h:VR1 K H g Ft kd d v F):Rp K H (λ_=>False) d v:=by
 cases kd with
 |sh=>show h.2.weak λb z=>z.elim
 |fr k=>show Tr.rd h
 |bo i k=>obtain⟨_,c,_,a⟩:=h;show a.rd
theorem VR.rd(h:VR K g H0 H kd d v):Rp K H (λ_=>False) d v:=let ⟨F,h1,h2⟩:=h;h2.rd
theorem VRL.rd:∀{kds:List (Kd×D)} {vs:List V} {F:Pr},VRL K H g Ft kds vs F->RpL K H (λ_=>False) (kds.map (·.2)) vs
 |[],_,_,h=>by rw[h.1];show .nil
 |(kd,d)::r,_,_,h=>by
  obtain⟨y,i,j,c,rfl,f,e,b,a⟩:=h;show .cons b.rd (VRL.rd a)
def i7:Kd->D->Bool
 |.bo _ _,d=>si d
 |_,_=>Se
theorem MuOk.same(m:MuOk H S)(s:Same H H'):MuOk H' S:=λa z=>let ⟨o,e,n⟩:=m a z;⟨o,s a o e,n⟩
theorem VR1.sh{S:Pr}(e:i7 kd d=Se)(m:MuOk H S)(a:∀b,S b->(g b≠Sd\/Ft b)/\¬F b)(h:VR1 K H g Ft kd d v F):Rp K H S d v:=by
 cases kd with
 |sh=>show h.2.weak λb z=>(a b z).1
 |fr k=>show Tr.rp (λb z=>⟨(a b z).1,(a b z).2⟩) h
 |bo i k=>obtain⟨_,j,f,c⟩:=h;show c.rd.im m e
theorem VR.sh(c:i7 kd d=Se)(m:MuOk H0 (Sg g))(s:Same H0 H)(h:VR K g H0 H kd d v):Rp K H (Sg g) d v:=by
 obtain⟨F,f,a⟩:=h;show a.sh c (m.same s) λb z=>⟨.inl z,λz2=>?_⟩;obtain⟨o,e,_⟩:=m b z;rw[f b z2] at e;cases e
theorem VRL.sh{S:Pr}(m:MuOk H S):∀{kds:List (Kd×D)} {vs:List V} {F:Pr},(kds.all λp=>i7 p.1 p.2)=Se->(∀b,S b->(g b≠Sd\/Ft b)/\¬F b)->VRL K H g Ft kds vs F->RpL K H S (kds.map (·.2)) vs
 |[],_,_,_,_,h=>by rw[h.1];show .nil
 |(kd,d)::r,_,F,ok,hS,h=>by
  obtain⟨y,j,k,f,rfl,a,i,e,c⟩:=h;rw[Pm,Oo] at ok;show .cons (e.sh ok.1 m λb z=>⟨(hS b z).1,λz2=>(hS b z).2 ((a b).mpr (.inl z2))⟩) (VRL.sh m ok.2 (λb z=>⟨(hS b z).1,λz2=>(hS b z).2 ((a b).mpr (.inr z2))⟩) c)
theorem VRs.sh{kds:List (Kd×D)}(c:(kds.all λp=>i7 p.1 p.2)=Se)(m:MuOk H0 (Sg g))(s:Same H0 H)(h:VRs K g H0 H kds vs):RpL K H (Sg g) (kds.map (·.2)) vs:=by
 obtain⟨F,d,a⟩:=h;show a.sh (m.same s) c λb z=>⟨.inl z,λz2=>?_⟩;obtain⟨o,e,_⟩:=m b z;rw[d b z2] at e;cases e
theorem VRs.rd{kds:List (Kd×D)}(h:VRs K g H0 H kds vs):RpL K H (λ_=>False) (kds.map (·.2)) vs:=let ⟨F,h1,h2⟩:=h;h2.rd
theorem VRs.nil:VRs K g H0 H [] []:=⟨λ_=>False,λb z=>z.elim,rfl,λb z=>z⟩
open Classical in
noncomputable def Gh.plus(g:Gh)(F:Pr):Gh:=λb=>if F b then Sb Sd else g b
theorem am(b:Sj):Sg (g.plus F) b↔Sg g b\/F b:=by
 unfold Gh.plus Sg;by_cases h:F b
 ·simp[h]
 ·simp[h]
theorem bO(h:g.plus F b=Sb (Sb i)):g b=Sb (Sb i):=by
 unfold Gh.plus at h;split at h
 ·cases h
 ·show h
theorem cA(h:g b=Sb (Sb i))(n:¬F b):g.plus F b=Sb (Sb i):=by
 unfold Gh.plus;rw[if_neg n];show h
theorem VR1.unplus{F1:Pr}(h:VR1 K H (g.plus F1) Ft kd d v F):VR1 K H g (λb=>F1 b\/Ft b) kd d v F:=by
 let a:∀b o,H b=Sb o->¬Sx (g.plus F1) Ft b->¬Sx g (λb=>F1 b\/Ft b) b:=λb o e n z=>n (z.elim (λz=>.inl ((am b).mpr (.inl z))) λz=>z.elim (λz=>.inl ((am b).mpr (.inr z))) .inr)
 cases kd with
 |sh=>show⟨h.1,h.2.go λb o n e=>⟨e,a b o e n⟩⟩
 |fr k=>show Tr.go (λb o _ e=>e) a h
 |bo i k=>obtain⟨l,j,f,c⟩:=h;show⟨l,j,λb z=>bO (f b z),Tr.go (λb o _ e=>e) a c⟩
theorem VRL.unplus{F1:Pr}:∀{kds:List (Kd×D)} {vs:List V} {F:Pr},VRL K H (g.plus F1) Ft kds vs F->VRL K H g (λb=>F1 b\/Ft b) kds vs F
 |[],_,_,h=>h
 |(kd,d)::r,_,_,h=>by
  obtain⟨y,j,F1,c,e,i,f,k,a⟩:=h;show⟨y,j,F1,c,e,i,f,k.unplus,VRL.unplus a⟩
theorem VRs.cons{kd:Kd}{d:D}{v:V}{kds:List (Kd×D)}{vs:List V}{F1:Pr}(s:Same H0 H)(s1:Same H H')(i:∀b,F1 b->H0 b=Sd)(a:VR1 K H g F1 kd d v F1)(h2:VRs K (g.plus F1) H H' kds vs):VRs K g H0 H' ((kd,d)::kds) (v::vs):=by
 obtain⟨c,b1,b2⟩:=h2;let f:=a.dom;show⟨λb=>F1 b\/c b,λb z=>z.elim (i b) λz=>s.free (b1 b z),v,vs,F1,c,rfl,λb=>Iff.rfl,λb h z2=>?_,a.go s1 λb o e z=>z.elim id λz=>?_,b2.unplus⟩
 ·obtain⟨o,e,_⟩:=f b h;rw[b1 b z2] at e;cases e
 ·rw[b1 b z] at e;cases e
theorem VRs.one(h:VRs K g H0 H [(kd,d)] vs):∃v,vs=[v]/\VR K g H0 H kd d v:=by
 obtain⟨F,k,y,m,c,n,rfl,a,l,f,i,j⟩:=h;subst i;let e:∀b,F b->c b:=λb z=>((a b).mp z).elim id λz=>absurd z (j b);show⟨y,rfl,c,λb z=>k b ((a b).mpr (.inl z)),f.go (λ_ _ h=>h) λb _ _ z=>(a b).mpr (.inl z)⟩
end
structure Sl where
 lk:Bool
 k:Ow
 d:D
abbrev Ro:=List (Option Sl)
noncomputable def sj:Ow->Bool
 |.fz=>Se
 |_=>Sf
def pU(i:Nat)(s:Sl):Kd×D:=(if sj s.k then .sh else .bo i s.k,s.d)
structure SE(K:Om)(g:Gh)(Y:Ro)(U:St)(H:Hp):Prop where
 slot:∀(i:Nat) (s:Sl),Y[i]?=Sb (Sb s)->∃v F,U[i]?=Sb (Sb v)/\(∀b,F b->g b=Sb (Sb i))/\Tr K H (Sg g) s.d s.k v F
 mu:MuOk H (Sg g)
 len:Y.length=U.length
section
variable {K:Om} {H H' H0 H1:Hp} {g g':Gh} {Y:Ro} {U:St}
theorem SE.same(h:SE K g Y U H)(s:Same H H'):SE K g Y U H':=
 ⟨λi a e=>let ⟨v,F,e1,e2,e3⟩:=h.slot i a e;⟨v,F,e1,e2,e3.go (λb o _ e=>s b o e) λb o _ n=>n⟩,h.mu.same s,h.len⟩
theorem kg(h:sj k=Se):k=.fz:=by cases k with|fz=>rfl|own es r=>cases h
theorem SE.get(h:SE K g Y U H){i:Nat}(e:Y[i]?=Sb (Sb s)):∃v,U[i]?=Sb (Sb v)/\VR K g H H (pU i s).1 (pU i s).2 v:=by
 obtain⟨v,F,e1,e2,e3⟩:=h.slot i s e;show⟨v,e1,λ_=>False,λb z=>z.elim,?_⟩;let t:Tr K H (Sx g λ_=>False) s.d s.k v F:=e3.go (λ_ _ _ h=>h) λb o _ n z=>n (z.elim id λz=>z.elim);unfold pU
 cases hk:sj s.k with
 |true=>
  rw[kg hk] at t;show⟨λb z=>z,t.fz_inv.2⟩
 |false=>show⟨λb z=>z,F,e2,t⟩
theorem SE.plus{F:Pr}(h:SE K g Y U H)(s:Same H H')(a:∀b,F b->H b=Sd)(f:∀b,F b->∃o,H' b=Sb o/\∀xs,o≠.tup xs):SE K (g.plus F) Y U H':=by
 show⟨λi d e=>?_,λb z=>?_,h.len⟩
 ·obtain⟨v,c,e1,e2,e3⟩:=h.slot i d e;show⟨v,c,e1,λb z=>cA (e2 b z) λz2=>?_,e3.go (λb o _ e=>s b o e) λb o e n z=>?_⟩
  ·obtain⟨o,q,_⟩:=e3.dom b z;rw[a b z2] at q;cases q
  ·rcases(am b).mp z with z|z
   ·show n z
   ·rw[a b z] at e;cases e
 ·rcases(am b).mp z with z|z
  ·show h.mu.same s b z
  ·show f b z
end
section
variable (X:Cx)
def wE(e:Si):TE:=λU H Q=>∀pins s,Inv X pins U H s->Sq (So X.prog X.w) X.A (eval e X.env) (EP X pins U Q) X.xe s
def wT(e:Si):TT:=λU H Q=>∀pins s,Inv X pins U H s->Sq (So X.prog X.w) X.A (isTrue e X.env (eval e X.env)) (TP X pins U Q) X.xe s
def wW(e:Si):TT:=λU H Q=>∀q pins s,Inv X pins U H s->Sq (So X.prog X.w) X.A (isTrue e X.env q) (TP X pins U Q) X.xe s
def wA(es:List Si):TA:=λU H Q=>∀pos pins s,Inv X pins U H s->Sq (So X.prog X.w) X.A (spliced (backTo pos (Sy es X.env))) (AP X pins U Q) X.xe s
def wG(tg:Si):TG:=λv U H Q=>∀pins s u,Inv X pins U H s->RelV v u->Sq (So X.prog X.w) X.A (assign tg X.env u) (λ_ s'=>∃U' H',Inv X pins U' H' s'/\Q U' H') X.xe s
def wI(tg iter:Si):TI:=λU H R=>∀pins s,Inv X pins U H s->Sq (So X.prog X.w) X.A (eval iter X.env) (λv s1=>Sq (So X.prog X.w) X.A (pyIter v) (LG X pins U tg R) X.xe s1) X.xe s
end
section
variable {X:Cx}
theorem aw:PE X e (wE X e):=λa s U H Q I h=>h a s I
theorem iy:PT X e (wT X e):=λa s U H Q I h=>h a s I
theorem A5:PW X e (wW X e):=λb a s U H Q I h=>h b a s I
theorem cW:PA X es (wA X es):=λb a s U H Q I h=>h b a s I
theorem wq:PI X tg iter (wI X tg iter):=λa s U H R I h=>h a s I
theorem wt:PG X tg (wG X tg):=λa s U H v u Q I r h=>h a s u I r
theorem ar{t:TE}(p:PE X e t)(h:t U H Q):wE X e U H Q:=λa s I=>p a s U H Q I h
theorem uq{t:TT}(p:PT X e t)(h:t U H Q):wT X e U H Q:=λa s I=>p a s U H Q I h
theorem mS{t:TT}(p:PW X e t)(h:t U H Q):wW X e U H Q:=λb a s I=>p b a s U H Q I h
theorem kY{t:TA}(p:PA X es t)(h:t U H Q):wA X es U H Q:=λb a s I=>p b a s U H Q I h
theorem iz{t:TI}(p:PI X tg iter t)(h:t U H R):wI X tg iter U H R:=λa s I=>p a s U H R I h
theorem ur{t:TG}(p:PG X tg t)(h:t v U H Q):wG X tg v U H Q:=λa s u I r=>p a s U H v u Q I r h
end
def SndE(X:Cx)(f:Ro->Option (Kd×D))(e:Si):Prop:=∀Y kd d,f Y=Sb (kd,d)->∀g U H Q,SE X.K g Y U H->(∀v H',Same H H'->VR X.K g H H' kd d v->Q v H')->wE X e U H Q
def SndT(X:Cx)(f:Ro->Option Bool)(e:Si):Prop:=∀Y b,f Y=Sb b->∀g U H Q,SE X.K g Y U H->(∀H',Same H H'->Q b H')->wT X e U H Q
def kZ(X:Cx)(f:Ro->Option (List (Kd×D)))(es:List Si):Prop:=∀Y kds,f Y=Sb kds->∀g U H Q,SE X.K g Y U H->(∀vs H',Same H H'->VRs X.K g H H' kds vs->Q vs H')->wA X es U H Q
end J
namespace G
open PyProof.Rows
noncomputable def LX(x:Str):It:=⟨λi _=>i<x.cps.size,λi H v H'=>H'=H/\∃c,x.cps[i]?=Sb c/\v=.str ⟨#[c]⟩,λi _=>x.cps.size<=i⟩
theorem pV{P:Sr}{w:Ss}{K:Om}{tg:Si}(it:Sj)(x:Str)(t:Tok)(ty:String)
  (hn:["enumerate","zip","dict_itemiterator","dict_reverseitemiterator","odict_iterator","itertools.zip_longest","itertools.pairwise"].contains ty=Sf)
  (W:∀a:Sv,a.handled=Sd->Walks P w a it [it] [it] x.cps.size (SignAt x) (λi h=>h.IsStrIter it ty x t i))
  (hend:∀(a:Sv) (s:Sk) (Q:Option Sh->Sk->Prop) (E:Sh->Sk->Prop) (i:Nat),a.handled=Sd->s.heap.IsStrIter it ty x t i->x.cps[i]?=Sd->(∀l,Heap.ExtBut it s.heap l->Q Sd { s with heap:=l })->Sq (So P w) a (pyNext (.ref it)) Q E s)
  (hself:∀(a:Sv) (i:Nat) (s:Sk) (Q:Sh->Sk->Prop) (E:Sh->Sk->Prop),s.heap.IsStrIter it ty x t i->Q (.ref it) s->Sq (So P w) a (pyIter (.ref it)) Q E s) :
  pw P w K tg (LX x) [it] it (λi h=>h.IsStrIter it ty x t i) where
 mem:=by simp
 obj:=λi h j b g=>by
  let e:b=it:=by simpa using g
  subst e;obtain⟨o,e,c,d⟩:=j;show⟨o,e,λv z=>by rw[d] at z;cases z⟩
 keep:=λi h l j k=>let ⟨o,ho,r⟩:=j;⟨o,k it (by simp) o ho,r⟩
 item:=by
  intro X B F y q i f s U H E I n j N;subst B F y;obtain⟨L,p,f2,M,C,D⟩:=n it (by simp);show(W X.A (I.ok.hd q)).item i s _ _ N j λv l T S m O=>?_;obtain⟨z,u,R,rfl⟩:=S;let Y:Inv X f U H { s with heap:=l,toks:=T }:=I.turned (λb o g e=>O b o (by simpa using g) e) L p M C D;obtain⟨o,e,c,d⟩:=id m;show⟨_,rfl,px e c d hn ⟨.str ⟨#[z]⟩,H,Y,⟨u,rfl⟩,⟨rfl,z,R,rfl⟩,m,λb g=>(n b g).1⟩⟩
 done:=by
  intro X B F y q i f s U H E I n j N;subst B F y;obtain⟨L,p,f2,M,C,D⟩:=n it (by simp);show hend X.A s _ _ i (I.ok.hd q) j (Rh N) λl V=>⟨rfl,I.turned (λb o g e=>V b o g e) L p M C D⟩
 self:=hself
section
variable {X:Cx} {tg:Si}
def LY(tl:TE):TI:=λU H R=>tl U H λv H1=>∃x,v=.str x/\R (LX x) H1
theorem ES(hl:PE X l tl):PI X tg l (LY tl):=by
 intro d s U H R I h;show bd (hl d s U H _ I h) λv s1 r=>?_;obtain⟨y,m,j,w,q1⟩:=r;obtain⟨x,rfl,q⟩:=q1;obtain⟨t,rfl⟩:=w
 let p:∀b∈[s1.heap.objs.size],ip X d m b:=λb u=>by
  let e:b=s1.heap.objs.size:=by simpa using u
  subst e;show j.fpOk (Ox _) (j.hok.fresh (Ox _))
 cases n:x.cps.all (·<128) with
 |true=>
  show wpAny_pyIter_ascii n ⟨s1.heap.objs.size,[s1.heap.objs.size],_,_,m,rfl,j.kept λb o e=>Oq _ e,pV _ x t "str_ascii_iterator" (by decide) (λc a=>Walks.strAscii a _ x t) (λc s Q E i a g k f=>wpAny_pyNext_ascii_end a g k f) (λc i s Q E g f=>wpAny_pyIter_striter_ascii g f),⟨_,OJ _ rfl,rfl,rfl⟩,p,q⟩
 |false=>
  show wpAny_pyIter_wide n ⟨s1.heap.objs.size,[s1.heap.objs.size],_,_,m,rfl,j.kept λb o e=>Oq _ e,pV _ x t "str_iterator" (by decide) (λc a=>Walks.strWide a _ x t) (λc s Q E i a g k f=>wpAny_pyNext_wide_end a g k f) (λc i s Q E g f=>wpAny_pyIter_striter_wide g f),⟨_,OJ _ rfl,rfl,rfl⟩,p,q⟩
noncomputable def sn(x:Str)(n:Nat):Str:=⟨(Pb n x.cps).foldl (·++·) #[]⟩
theorem k5:∀(n:Nat) (a:Array Nat),(Pb n #[]).foldl (·++·) a=a
 |0,a=>rfl
 |n+1,a=>by rw[Qb,Ra,Array.append_empty];show k5 n a
theorem A6:jY X (binaryOp .Mult) (λx y H Q=>∃i n,x=.str i/\y=.int n/\n<=100000/\0<=n/\i.length<=100/\Q (.str (sn i n.toNat)) H):=by
 intro d s U H x y v u Q I l f h;obtain⟨i,n,rfl,rfl,p,o,g,q⟩:=h;obtain⟨t,rfl⟩:=l;obtain⟨m,rfl⟩:=f;let k:i.length*n.toNat<=100*100000:=Nat.mul_le_mul g (by lia);show P.mul_str (by rw[decide_eq_false (by lia),decide_eq_false (by lia)];rfl) (λhn _=>?_) (λ_ _=>?_) ?_
 ·have:((2^63-1:Int)) / n ≥ 100:=by
   rw[ge_iff_le,Int.le_ediv_iff_mul_le (by lia)];lia
  intro j;let b:(i.length:Int) > (2^63-1:Int) / n:=j;generalize (2^63-1:Int) / n=z at this b
  lia
 ·unfold Builtin.Str.tooLong;rw[decide_eq_false];rw[sizeLine_eq]
  lia
 ·split
  ·ext hn;let e:n.toNat=0:=by lia
   rw[e] at q;show⟨by decide,.str _,H,I.tok _,⟨_,rfl⟩,q⟩
  ·split
   ·ext hn a
    let e:sn i n.toNat=i:=by
     simp only[PL,beq_iff_eq] at a;rcases a with rfl|a
     ·change(⟨#[]++i.cps⟩:Str)=i;rw[Array.empty_append]
     ·have:i.cps=#[]:=Array.eq_empty_of_size_eq_zero a;unfold sn;rw[this,k5];obtain⟨c⟩:=i;simp only at this;rw[this]
    rw[e] at q;show⟨.str i,H,I,⟨_,rfl⟩,q⟩
   ·show⟨fits_reps ?_,.str _,H,I.tok _,⟨_,rfl⟩,q⟩;unfold Builtin.Str.tooLong;rw[decide_eq_false];rw[sizeLine_eq]
    lia
end
end G
set_option exponentiation.threshold 5000
namespace J
mutual
noncomputable def py:D->PyData
 |.non=>.none
 |.bl b=>.bool b
 |.int i=>.int i
 |.str x=>.str x
 |.scr ns=>.list (ns.map .int)
 |.nd .lst ds=>.list (mU ds)
 |.nd .tup ds=>.tuple (mU ds)
 |.nd (.dic _ _) _=>.dict []
 |.nd (.obj _ _) _=>.none
noncomputable def mU:List D->List PyData
 |[]=>[]
 |d::ds=>py d::mU ds
end
mutual
noncomputable def cC:Nat->D->Bool
 |_,.non=>Se
 |_,.bl _=>Se
 |_,.int _=>Se
 |_,.str x=>PyData.strOk x
 |n,.scr _=>decide (1<=n)
 |n,.nd .lst ds=>decide (1<=n)&&gC (n-1) ds
 |n,.nd .tup ds=>decide (1<=n)&&gC (n-1) ds
 |_,.nd (.dic _ _) _=>Sf
 |_,.nd (.obj _ _) _=>Sf
noncomputable def gC:Nat->List D->Bool
 |_,[]=>Se
 |n,d::ds=>cC n d&&gC n ds
end
section
variable {X:Cx} {pins:List (Sj×Obj)} {U:L2.St} {H:Hp} {s:Sk} {S:Pr}
theorem gK:∀{a:List Int} {us:List Sh},Vals (a.map V.int) us->∃b,ReadsAll h us (a.map .int) b
 |[],_,.nil=>⟨_,.nil⟩
 |n::a,_,.cons r t=>by
  obtain⟨c,e⟩:=(r);subst e;obtain⟨b,q⟩:=gK t;show⟨_,.cons (.int n c) q⟩
theorem kh:∀a:List Int,PyData.canLayAll0 (a.map .int)=Se/\PyData.depthAll (a.map .int)=0
 |[]=>by simp[PyData.canLayAll0,PyData.depthAll]
 |n::a=>by
  have:=kh a;simp[PyData.canLayAll0,PyData.depthAll,PyData.canLay0,PyData.depth,this]
mutual
theorem dN(I:Inv X pins U H s):∀{d:D} {n:Nat} {v:V} {u:Sh},cC n d=Se->Rp X.K H S d v->RelV v u->(∃w,Reads s.heap u (py d) w)/\(py d).canLay0=Se/\(py d).depth<=n
 |.non,n,v,u,_,r,e=>by unfold Rp at r;subst r;cases e;simp only[py];show⟨⟨_,.none⟩,by simp[PyData.canLay0],by simp[PyData.depth]⟩
 |.bl b,n,v,u,_,r,e=>by unfold Rp at r;subst r;cases e;simp only[py];show⟨⟨_,.bool b⟩,by simp[PyData.canLay0],by simp[PyData.depth]⟩
 |.int i,n,v,u,_,r,e=>by unfold Rp at r;subst r;obtain⟨t,rfl⟩:=e;simp only[py];show⟨⟨_,.int i t⟩,by simp[PyData.canLay0],by simp[PyData.depth]⟩
 |.str x,n,v,u,h,r,e=>by unfold Rp at r;subst r;obtain⟨t,rfl⟩:=e;simp only[py];show⟨⟨_,.str x t⟩,by simpa[PyData.canLay0,cC] using h,by simp[PyData.depth]⟩
 |.scr ns,n,v,u,h,r,e=>by
  unfold Rp at r;obtain⟨a,rfl,r⟩:=r;cases e;let q:SqL X.K H a (ns.map V.int):=r.elim (λr=>.inl r.2) .inr;obtain⟨k,l,⟨o,m,c,j,E,p⟩,z⟩:=I.list q;obtain⟨w,f⟩:=gK l;simp only[py];let hn:1<=n:=by simpa[cC] using h
  show⟨⟨_,.list c j p (by simpa using f)⟩,by simpa[PyData.canLay0] using(kh ns).1,by simp[PyData.depth,(kh ns).2,hn]⟩
 |.nd .lst ds,n,v,u,h,r,e=>by
  unfold Rp at r;obtain⟨a,o,B,rfl,C,g,q,A⟩:=r;cases e;let q:o=.lst B:=q;subst q;obtain⟨k,l,⟨o,m,c,j,E,p⟩,z⟩:=I.list (SqL.of g);simp only[cC,Oo,decide_eq_true_eq] at h;obtain⟨⟨w,f⟩,y,l2⟩:=jc I h.2 A l;simp only[py];show⟨⟨_,.list c j p (by simpa using f)⟩,by simpa[PyData.canLay0] using y,by simp only[PyData.depth];lia⟩
 |.nd .tup ds,n,v,u,h,r,e=>by
  unfold Rp at r;obtain⟨a,o,B,rfl,C,g,q,A⟩:=r;cases e;let q:o=.tup B:=q;subst q;obtain⟨k,l,⟨o,c,j,m,p⟩,z⟩:=I.tuple (SqT.of g);simp only[cC,Oo,decide_eq_true_eq] at h;obtain⟨⟨w,f⟩,y,l2⟩:=jc I h.2 A l;simp only[py];show⟨⟨_,.tuple c j p (by simpa using f)⟩,by simpa[PyData.canLay0] using y,by simp only[PyData.depth];lia⟩
 |.nd (.dic _ _) _,n,v,u,h,r,e=>by simp[cC] at h
 |.nd (.obj _ _) _,n,v,u,h,r,e=>by simp[cC] at h
theorem jc(I:Inv X pins U H s):∀{ds:List D} {n:Nat} {xs:List V} {us:List Sh},gC n ds=Se->RpL X.K H S ds xs->Vals xs us->(∃a,ReadsAll s.heap us (mU ds) a)/\PyData.canLayAll0 (mU ds)=Se/\PyData.depthAll (mU ds)<=n
 |[],n,xs,us,_,r,e=>by rw[r.nil_inv] at e;cases e;simp only[mU];show⟨⟨_,.nil⟩,by simp[PyData.canLayAll0],by simp[PyData.depthAll]⟩
 |d::ds,n,xs,us,h,r,e=>by
  obtain⟨y,k,rfl,c,j⟩:=r.cons_inv;simp only[gC,Oo] at h
  cases e with
  |cons e1 e2=>
   obtain⟨⟨a,b⟩,f,l2⟩:=dN I h.1 c e1;obtain⟨⟨m,i⟩,g,l⟩:=jc I h.2 j e2;simp only[mU];show⟨⟨_,.cons b i⟩,by simp[PyData.canLayAll0,f,g],by simp only[PyData.depthAll];lia⟩
end
end
def wu(x y:D):Bool:=PyData.eqv (py x) (py y)
noncomputable def lim:Nat:=2^4000
noncomputable abbrev bJ:Ow:=.own [] .fz
def jI:Ow->Bool
 |.fz=>Se
 |.own es r=>es.all sj&&sj r
def jd:Kd->List D->Bool
 |.bo _ k,ds=>jI k||A4 ds
 |_,_=>Se
abbrev KD:=Kd×D
def pW:SJ->Int->Int->Option Int
 |.Add,i,j=>Sb (i+j)
 |.Sub,i,j=>Sb (i-j)
 |.Mult,i,j=>if i.natAbs<lim/\j.natAbs<lim then Sb (i*j) else Sd
 |.FloorDiv,i,j=>if 0<j/\j.natAbs<lim then Sb (i / j) else Sd
 |.Mod,i,j=>if 0<j then Sb (i%j) else Sd
 |.LShift,i,j=>if 0<=j/\j<=1000000/\i.natAbs<lim then Sb (i*2^j.toNat) else Sd
 |.Pow,i,j=>if 0<=j/\j<=1000000/\i.natAbs<2^64 then Sb (i^j.toNat) else Sd
 |.RShift,i,j=>if 0<=j then Sb (i / 2^j.toNat) else Sd
 |.BitAnd,i,j=>Sb (Builtin.bitAnd i j)
 |.BitOr,i,j=>Sb (Builtin.bitOr i j)
 |.BitXor,i,j=>Sb (Builtin.bitXor i j)
 |_,_,_=>Sd
def IJ(op:SJ)(k:Kd)(xs:List D)(y:KD):Option KD:=match op with
 |.Add=>(match y.2 with
  |.nd hd ys=>(match hd with
   |.lst=>if jd k xs=Se/\jd y.1 ys=Se/\xs.length+ys.length<=100000 then Sb (.fr bJ,.lst (xs++ys)) else Sd
   |_=>Sd)
  |_=>Sd)
 |_=>Sd
def IK(op:SJ)(i:Str)(y:D):Option KD:=match op with
 |.Add=>(match y with|.str j=>if i.length+j.length<=100000 then Sb (.sh,.str (i++j)) else Sd|_=>Sd)
 |.Mult=>(match y with|.int n=>if n<=100000/\0<=n/\i.length<=100 then Sb (.sh,.str (G.sn i n.toNat)) else Sd|_=>Sd)
 |_=>Sd
def fw(op:SJ)(x y:KD):Option KD:=match x.2 with
 |.int i=>(match y.2 with|.int j=>(match pW op i j with|some z=>Sb (.sh,.int z)|none=>Sd)|_=>Sd)
 |.nd hd xs=>(match hd with|.lst=>IJ op x.1 xs y|_=>Sd)
 |.str i=>IK op i y.2
 |_=>Sd
theorem iB(h:pW op i j=Sb z):fw op (k,.int i) (k',.int j)=Sb (.sh,.int z):=by
 change(match pW op i j with|some z=>Sb (Kd.sh,D.int z)|none=>Sd)=_
 rw[h]
theorem ut{p:Prop}[Decidable p]{α:Type}{a b:α}(h:(if p then Sb a else Sd)=Sb b):p/\b=a:=by
 by_cases c:p
 ·rw[if_pos c] at h;cases h;show⟨c,rfl⟩
 ·rw[if_neg c] at h;cases h
theorem aJ{n:Nat}(h:n<=100000):n<=sizeLine:=OW h (by decide)
section
variable {K:Om} {H H' H0:Hp} {S:Pr} {g:Gh}
theorem Rp.int(h:Rp K H S (.int i) v):v=.int i:=by unfold Rp at h;show h
theorem Rp.bl(h:Rp K H S (.bl i) v):v=.bl i:=by unfold Rp at h;show h
theorem Rp.str(h:Rp K H S (.str i) v):v=.str i:=by unfold Rp at h;show h
theorem Rp.non(h:Rp K H S .non v):v=.non:=by unfold Rp at h;show h
theorem Rp.nd(h:Rp K H S (.nd hd ds) v):∃a o xs,v=.ref a/\¬S a/\H a=Sb o/\d4 K o hd xs/\RpL K H S ds xs:=by unfold Rp at h;show h
theorem Rp.scr{b:List Int}(h:Rp K H S (.scr b) v):∃a,v=.ref a/\SqL K H a (b.map V.int):=by
 unfold Rp at h;obtain⟨a,e,h⟩:=h;show⟨a,e,h.elim (λh=>.inl h.2) .inr⟩
theorem k8:VR K g H0 H .sh (.int i) (.int i):=⟨λ_=>False,λ_ z=>z.elim,λ_ z=>z,by unfold Rp;rfl⟩
theorem Dc:VR K g H0 H .sh (.bl i) (.bl i):=⟨λ_=>False,λ_ z=>z.elim,λ_ z=>z,by unfold Rp;rfl⟩
theorem A7:VR K g H0 H .sh (.str i) (.str i):=⟨λ_=>False,λ_ z=>z.elim,λ_ z=>z,by unfold Rp;rfl⟩
theorem IL:VR K g H0 H .sh .non .non:=⟨λ_=>False,λ_ z=>z.elim,λ_ z=>z,by unfold Rp;rfl⟩
theorem IM(h:Rp K H (Sg g) d v):VR K g H0 H .sh d v:=⟨λ_=>False,λ_ z=>z.elim,λ_ z=>z,h.weak λb z=>z.elim id λz=>z.elim⟩
theorem aj(a:H p=Sd):Same H (upd H p o):=λb u q=>by rw[ac (aB q a)];show q
theorem TrL.ofFz:∀{ds:List D} {xs:List V},RpL K H S ds xs->TrL K H S ds [] .fz xs λ_=>False
 |[],_,h=>by unfold TrL;show⟨h.nil_inv,λ_ z=>z⟩
 |d::ds,_,h=>by
  obtain⟨y,a,rfl,r,t⟩:=h.cons_inv;unfold TrL;show⟨y,a,_,_,rfl,λb=>⟨.inl,λz=>z.elim id id⟩,λ_ z=>z.elim,Tr.fz r,TrL.ofFz t⟩
theorem sr(a:H p=Sd)(r:RpL K H (Sg g) ds xs):VR K g H (upd H p (.lst xs)) (.fr bJ) (.lst ds) (.ref p):=by
 show⟨λb=>b=p,λb z=>z▸a,?_⟩;change Tr K _ _ _ _ _ _;unfold Tr
 show⟨p,_,xs,λ_=>False,rfl,ah,rfl,λ_ z=>z,(λh=>nomatch h),λb=>⟨λz=>.inl ⟨rfl,z⟩,λz=>z.elim (λz=>z.2) λz=>z.elim⟩,.ofFz (r.go λb o n e=>⟨aj a b o e,λz=>z.elim n λz=>?_⟩)⟩
 subst z;rw[a] at e;cases e
theorem IN(m:MuOk H (Sg g))(a:H p=Sd)(r:RpL K H (Sg g) ds xs):VR K g H (upd H p (.tup xs)) .sh (.tup ds) (.ref p):=by
 show IM ?_;unfold Rp;show⟨p,_,xs,rfl,λz=>?_,ah,rfl,r.same (aj a)⟩;obtain⟨o,e,_⟩:=m p z;rw[a] at e;cases e
theorem uu{es:List Ow}(h:jI (.own es r)=Se):(∀e∈es,e=.fz)/\r=.fz:=by
 simp only[jI,Oo,Pw] at h;show⟨λe a=>kg (h.1 e a),kg h.2⟩
theorem TrL.flat:∀{ds:List D} {es:List Ow} {xs:List V} {F:Pr},(∀e∈es,e=.fz)->TrL K H S ds es .fz xs F->(∀b,¬F b)/\RpL K H S ds xs
 |[],_,_,_,_,h=>by unfold TrL at h;show⟨h.2,by rw[h.1];show .nil⟩
 |d::ds,es,_,_,he,h=>by
  unfold TrL at h;obtain⟨y,l,n,m,rfl,g,k,c,f⟩:=h
  let e:es.headD .fz=.fz:=by
   cases es with
   |nil=>rfl
   |cons a r=>show he a (.head _)
  rw[e] at c;obtain⟨n1,i⟩:=c.fz_inv
  obtain⟨n2,j⟩:=TrL.flat (λe q=>he e (by cases es with|nil=>cases q|cons a r=>show .tail _ q)) f
  show⟨λb z=>((g b).mp z).elim (n1 b) (n2 b),.cons i j⟩
theorem VR.items(c:jd kd ds=Se)(m:MuOk H0 (Sg g))(s:Same H0 H)(h:VR K g H0 H kd (.nd hd ds) v):∃a o xs,v=.ref a/\H a=Sb o/\d4 K o hd xs/\RpL K H (Sg g) ds xs:=by
 let n:∀{j:Kd},i7 j (.nd hd ds)=Se->VR K g H0 H j (.nd hd ds) v->∃a o xs,v=.ref a/\H a=Sb o/\d4 K o hd xs/\RpL K H (Sg g) ds xs:=λc h=>by
  obtain⟨a,o,xs,e,_,q1,d,f⟩:=(h.sh c m s).nd;show⟨a,o,xs,e,q1,d,f⟩
 cases kd with
 |sh=>show n rfl h
 |fr k=>show n rfl h
 |bo i k=>
  simp only[jd,PL] at c;rcases c with c|c
  ·obtain⟨F,B,u,x,q,l⟩:=h
   cases k with
   |fz=>
    obtain⟨_,r⟩:=l.fz_inv;obtain⟨a,o,xs,e,_,q1,d,f⟩:=r.nd;show⟨a,o,xs,e,q1,d,f.weak λb z=>.inl z⟩
   |own A r=>
    obtain⟨p,rfl⟩:=uu c;unfold Tr at l;obtain⟨a,o,xs,w,e,q1,d,n1,n2,y,t⟩:=l;show⟨a,o,xs,e,q1,d,(t.flat p).2.weak λb z=>.inl z⟩
  ·obtain⟨a,o,xs,e,_,q1,d,f⟩:=h.rd.nd;show⟨a,o,xs,e,q1,d,f.im (m.same s) c⟩
end
def LZ(K:Om)(op:SJ):R2:=λx y H Q=>∃g H0 kx q kd d,MuOk H0 (Sg g)/\Same H0 H/\VR K g H0 H kx.1 kx.2 x/\VR K g H0 H q.1 q.2 y/\fw op kx q=Sb (kd,d)/\∀v H',Same H H'->VR K g H H' kd d v->Q v H'
theorem IP{i j:Int}(h:i.natAbs<lim/\j.natAbs<lim):IntMulOk i j:=
 IntMulOk.of_bits (OW (PyProof.Rows.intBits_le h.1) (by decide)) (OW (PyProof.Rows.intBits_le h.2) (by decide))
theorem A8{j:Int}(h:j.natAbs<lim):j.natAbs.log2<9000:=by
 by_cases z:j.natAbs=0
 ·rw[z];decide
 ·show Ov ((Nat.log2_lt z).mpr h) (by decide)
theorem A9:jY X (binaryOp .Mult) (rI (λi j=>i.natAbs<lim/\j.natAbs<lim) λi j=>.int (i*j)):=HG λ_ _ _ _ _ _ _ a q=>PyProof.Rows.mul_int q (IP a)
theorem x3:jY X (binaryOp .FloorDiv) (rI (λi j=>0<j/\j.natAbs<lim) λi j=>.int (i / j)):=HG λi j _ _ _ _ _ a q=>by
 let b:(0:Int)<j:=a.1;show PyProof.Rows.floordiv_int (by lia) (by rw[QN i (by lia)];show q) (.inl (PyProof.noPylong_of_log2 (A8 a.2)))
theorem Ba:jY X (binaryOp .LShift) (rI (λi j=>0<=j/\j<=1000000/\i.natAbs<lim) λi j=>.int (i*2^j.toNat)):=HG λi j _ _ _ _ _ a q=>by
 let b:=PyProof.Rows.intBits_le a.2.2;show PyProof.Rows.lshift_int a.1 (by have:=a.2.1;lia) q
theorem x4{X:Cx}(op:SJ):jY X (binaryOp op) (LZ X.K op):=by
 intro c s U H x y v u Q I r l h;obtain⟨g,H0,⟨Y,T⟩,⟨W,A⟩,M,d,m,sm,w,t,k,q⟩:=h;dsimp only at w t
 cases T with
 |int i=>cases A with
  |int j=>
   obtain⟨rfl,rfl⟩:x=.int i/\y=.int j:=⟨w.rd.int,t.rd.int⟩
   let k:(match pW op i j with|some z=>Sb (Kd.sh,D.int z)|none=>Sd)=Sb (M,d):=k
   cases f:pW op i j with
   |none=>rw[f] at k;cases k
   |some z=>
    rw[f] at k;cases k;let q:Q (.int z) H:=q _ H (Same.refl H) k8
    cases op with
    |Add=>cases f;show Ey c s U H _ _ v u Q I r l ⟨_,_,rfl,rfl,q⟩
    |Sub=>cases f;show Ez c s U H _ _ v u Q I r l ⟨_,_,rfl,rfl,q⟩
    |Mult=>obtain⟨hm,rfl⟩:=ut (f);show A9 c s U H _ _ v u Q I r l ⟨_,_,rfl,rfl,hm,q⟩
    |FloorDiv=>obtain⟨hm,rfl⟩:=ut (f);show x3 c s U H _ _ v u Q I r l ⟨_,_,rfl,rfl,hm,q⟩
    |Mod=>obtain⟨hm,rfl⟩:=ut (f);show EA c s U H _ _ v u Q I r l ⟨_,_,rfl,rfl,hm,q⟩
    |LShift=>obtain⟨hm,rfl⟩:=ut (f);show Ba c s U H _ _ v u Q I r l ⟨_,_,rfl,rfl,hm,q⟩
    |Pow=>obtain⟨hm,rfl⟩:=ut (f);show EB c s U H _ _ v u Q I r l ⟨_,_,rfl,rfl,hm,q⟩
    |RShift=>obtain⟨hm,rfl⟩:=ut (f);show EC c s U H _ _ v u Q I r l ⟨_,_,rfl,rfl,hm,q⟩
    |BitAnd=>cases f;show ED c s U H _ _ v u Q I r l ⟨_,_,rfl,rfl,q⟩
    |BitOr=>cases f;show Ik c s U H _ _ v u Q I r l ⟨_,_,rfl,rfl,q⟩
    |BitXor=>cases f;show EE c s U H _ _ v u Q I r l ⟨_,_,rfl,rfl,q⟩
    |_=>cases f
  |_=>cases k
 |nd L Z=>cases L with
  |lst=>cases op with
   |Add=>cases A with
    |nd B ys=>cases B with
     |lst=>
      obtain⟨f,e⟩:=ut (k);cases e;obtain⟨a,o,V,rfl,N,P,C⟩:=w.items f.1 m sm;obtain⟨b,o',O,rfl,S,R,F⟩:=t.items f.2.1 m sm;cases(P);cases(R);show EI c s U H _ _ v u Q I r l ⟨a,b,V,O,rfl,rfl,N,S,by rw[C.len,F.len];show aJ f.2.2,λp E=>q _ _ (aj E) (sr E (C.append F))⟩
     |_=>cases k
    |_=>cases k
   |_=>cases k
  |_=>cases k
 |str i=>
  obtain rfl:=w.rd.str
  cases op with
  |Add=>cases A with
   |str j=>
    obtain rfl:=t.rd.str;obtain⟨f,e⟩:=ut (k);cases e;show rR c s U H _ _ v u Q I r l ⟨i,j,rfl,rfl,aJ f,q _ H (Same.refl H) A7⟩
   |_=>cases k
  |Mult=>cases A with
   |int n=>
    obtain rfl:=t.rd.int;obtain⟨f,e⟩:=ut (k);cases e;show G.A6 c s U H _ _ v u Q I r l ⟨i,n,rfl,rfl,f.1,f.2.1,f.2.2,q _ H (Same.refl H) A7⟩
   |_=>cases k
  |_=>cases k
 |_=>cases k
end J
namespace G
open PySem PySem.Spec PySem.Calls PyProof.Rows L2
noncomputable def o8:List Int->List Int->Bool
 |[],[]=>Sf
 |[],_::_=>Se
 |_::_,[]=>Sf
 |a::r,b::t=>if a=b then o8 r t else decide (a<b)
theorem uw{xs:List Int}{a:List Sh}(h:Vals (xs.map V.int) a){i:Nat}(hi:i<xs.length):∃t,a[i]?=Sb (.int xs[i] t):=by
 obtain⟨u,e,r⟩:=h.get (by rw[Op,Ot hi];rfl);obtain⟨t,rfl⟩:=r;show⟨t,e⟩
theorem ww(l b:Sj)(c a:List Sh)(n n2:Nat)(N p:Option Sj)(E r:Array (Option Sh))(xs ys:List Int)(x:Vals (xs.map V.int) c)(B:Vals (ys.map V.int) a)(k:Nat) :
  ∀i:Nat,c.length-i=k->i<=c.length->i<=a.length->Meets (Builtin.«list.__eq__.loop» ⟨[.ref l,.ref b,SM i,SM 0],[]⟩)
   (λA R s=>s.heap.get? l=Sb { cls:=.type "list",dict:=N,data:=.seq c.toArray n,slots:=E }/\s.heap.get? b=Sb { cls:=.type "list",dict:=p,data:=.seq a.toArray n2,slots:=r }/\R (.ok (.ret (.bool (o8 (xs.drop i) (ys.drop i))))) s):=by
 let e1:c.length=xs.length:=by rw[<- x.length];simp
 let e2:a.length=ys.length:=by rw[<- B.length];simp
 induction k with
 |zero=>
  intro i hk hi v f w A R s h;obtain⟨L,g,d,M,C⟩:=s;obtain⟨hl,m,h⟩:=h
  wp_walk using wpAny_loadPart' hl,wpAny_loadPart' m
  let e:c.toArray[((i:Nat):Int).toNat]?=Sd:=by simp;lia
  rw[e]
  wp_walk using wpAny_loadPart' hl,wpAny_loadPart' m
  change R (.ok (.ret (.bool (decide (c.toArray.size<a.toArray.size))))) _;let H:xs.drop i=[]:=Qy (by lia);rw[H] at h;by_cases q:i<a.length
  ·rw[O2 (by lia:i<ys.length)] at h;rw[decide_eq_true (by simp;lia)];show h
  ·rw[Qy (by lia:ys.length<=i)] at h;rw[decide_eq_false (by simp;lia)];show h
 |succ k K=>
  intro i hk hi v f w A R s h;obtain⟨L,g,d,M,C⟩:=s;obtain⟨hl,m,h⟩:=h;let z:i<xs.length:=by lia
  obtain⟨t,D⟩:=uw x z;let e:c.toArray[((i:Nat):Int).toNat]?=Sb (.int xs[i] t):=by simpa using D
  rw[O2 z] at h;by_cases q:i<a.length
  ·let y:i<ys.length:=by lia
   obtain⟨u,F⟩:=uw B y;let j:a.toArray[((i:Nat):Int).toNat]?=Sb (.int ys[i] u):=by simpa using F
   let I:((i:Int)+1)=((i+1:Nat):Int):=by push_cast;rfl
   rw[O2 y] at h
   wp_walk using wpAny_loadPart' hl,wpAny_loadPart' m
   rw[e,j];show Sm (PySem.SeqAt.EqAt.int_int _ _ _ _ f w _ _ ?_);by_cases o:xs[i]=ys[i]
   ·rw[o8,if_pos o] at h;rw[beq_iff_eq.mpr o]
    wp_walk
    rw[I]
    show⟨plainId_quiet PySem.MeetsSeq3.plain_eq_loop _,codeAny_builtin PySem.MeetsSeq3.entry_eq_loop (by
     rw[Around.under_plainId PySem.MeetsSeq3.plain_eq_loop _];show K (i+1) (by lia) (by lia) (by lia) f w A R _ ⟨hl,m,h⟩)⟩
   ·rw[o8,if_neg o] at h;rw[beq_eq_false_iff_ne.mpr o]
    wp_walk using wpAny_loadPart' hl,wpAny_loadPart' m
    rw[e,j];show Sm (PyProof.Rows.lt_int ?_)
    wp_walk
    show h
  ·let j:a.toArray[((i:Nat):Int).toNat]?=Sd:=by simp;lia
   wp_walk using wpAny_loadPart' hl,wpAny_loadPart' m
   rw[e,j]
   wp_walk using wpAny_loadPart' hl,wpAny_loadPart' m
   change R (.ok (.ret (.bool (decide (c.toArray.size<a.toArray.size))))) _;rw[Qy (by lia:ys.length<=i)] at h;rw[decide_eq_false (by simp;lia)];show h
theorem wx(l b:Sj)(c a:List Sh)(n n2:Nat)(m e:Option Sj)(k i:Array (Option Sh))(xs ys:List Int)(o:Vals (xs.map V.int) c)(p:Vals (ys.map V.int) a):Meets (Builtin.«list.__lt__» ⟨[.ref l,.ref b],[]⟩)
   (λA R s=>s.heap.get? l=Sb { cls:=.type "list",dict:=m,data:=.seq c.toArray n,slots:=k }/\s.heap.get? b=Sb { cls:=.type "list",dict:=e,data:=.seq a.toArray n2,slots:=i }/\R (.ok (.ret (.bool (o8 xs ys)))) s):=by
 intro f w A R s h;obtain⟨r,g,d,u,q⟩:=s;obtain⟨hl,j,h⟩:=h;let t:=PySem.AutoSeq1.sub_list_list
 wp_walk using wpAny_loadPart' hl,wpAny_loadPart' j
 show⟨plainId_quiet PySem.MeetsSeq3.plain_eq_loop _,codeAny_builtin PySem.MeetsSeq3.entry_eq_loop (by
  rw[Around.under_plainId PySem.MeetsSeq3.plain_eq_loop _];show ww l b c a n n2 m e k i xs ys o p _ 0 rfl (OS _) (OS _) f w A R _ ⟨hl,j,h⟩)⟩
theorem ET{X:Cx}:jY X (compareOp .Lt) (λx y H Q=>∃a b xs ys,x=.ref a/\y=.ref b/\SqL X.K H a (xs.map V.int)/\SqL X.K H b (ys.map V.int)/\X.A.units<cLine/\Q (.bl (o8 xs ys)) H):=by
 intro r s U H x y v u Q I P C h;obtain⟨a,b,xs,ys,rfl,rfl,R,D,S,q⟩:=h;cases(P);cases(C);obtain⟨l,N,E,T⟩:=I.list R;obtain⟨e,k,i,O⟩:=I.list D;obtain⟨⟨B,M,z,L⟩,w,t,n,o⟩:=E.isList;obtain⟨⟨p,j,g,m⟩,f,d,n2,c⟩:=i.isList;simp only at t o d c;subst t o d c;show PySem.richCompare_meets_room (op:=.Lt) ⟨_,w,rfl⟩ ⟨_,f,rfl⟩ PySem.F.slot_list_lt PySem.F.entry_list_lt (PySem.F.args_list_lt_2 _ _) (wx a b l e n n2 M j L m xs ys N k)
  ⟨w,f,show Value.bool (o8 xs ys)≠Value.notImplemented/\_ from⟨(λx=>nomatch x),⟨.bl (o8 xs ys),H,I,rfl,q⟩⟩⟩ S
end G
namespace J
noncomputable def fF:D->Option ay
 |.int i=>Sb (.inl i)
 |.str x=>Sb (.inr x)
 |_=>Sd
def cc:List D->Option (List ay)
 |[]=>Sb []
 |d::ds=>match fF d,cc ds with
  |some k,Sb ks=>Sb (k::ks)
  |_,_=>Sd
def EU:D->Option (ay ⊕ List ay)
 |.nd .tup ds=>(cc ds).map .inr
 |d=>(fF d).map .inl
def pX:List D->Option (List (ay ⊕ List ay))
 |[]=>Sb []
 |d::ds=>match EU d,pX ds with
  |some k,Sb ks=>Sb (k::ks)
  |_,_=>Sd
noncomputable def Dd:Nat->List (ay ⊕ List ay)->Bool
 |_,[]=>Se
 |m,.inl _::r=>m%2==0&&Dd (m / 2) r
 |m,.inr _::r=>m%2==1&&Dd (m / 2) r
def j3:D->Option DK
 |.nd .tup ds=>(pX ds).map .inr
 |d=>(fF d).map .inl
noncomputable def aH(q:List DK)(k:DK):Option Nat:=q.findIdx? λx=>decide (x=k)
section
variable {K:Om} {H:Hp} {S:Pr}
theorem ki(h:fF d=Sb k)(r:Rp K H S d v):v=kV k:=by
 cases d<;>simp only[fF] at h<;>first|(cases h;done)|(cases h;first|show r.int|show r.str)
theorem k9:∀{ds:List D} {a:List ay} {vs:List V},cc ds=Sb a->RpL K H S ds vs->vs=a.map kV
 |[],a,vs,h,r=>by cases h;show r.nil_inv
 |d::ds,a,vs,h,r=>by
  obtain⟨y,f,rfl,c,e⟩:=r.cons_inv;unfold cc at h;split at h
  ·ext k b e1 e2;cases h;rw[ki e1 c,k9 e2 e];rfl
  ·cases h
theorem nX:∀{ds:List D} {b:List (ay ⊕ List ay)} {vs:List V} {m:Nat},pX ds=Sb b->RpL K H S ds vs->Dd m b=Se->TkIts H m b vs
 |[],b,vs,m,h,r,hm=>by cases h;show r.nil_inv
 |d::ds,b,vs,m,h,r,hm=>by
  obtain⟨y,c,rfl,f,i⟩:=r.cons_inv;unfold pX at h;split at h
  ·ext k j e1 e2;cases h
   cases k with
   |inl k=>
    simp only[Dd,Oo,beq_iff_eq] at hm;show⟨c,?_,hm.1,nX e2 i hm.2⟩
    have:fF d=Sb k:=by
     unfold EU at e1;split at e1
     ·cases e:cc _<;>rw[e] at e1<;>cases e1
     ·cases e:fF d with
      |none=>rw[e] at e1;cases e1
      |some z=>rw[e] at e1;cases e1;rfl
    rw[ki this f]
   |inr k=>
    simp only[Dd,Oo,beq_iff_eq] at hm;unfold EU at e1;split at e1
    ·ext n
     cases e:cc n with
     |none=>rw[e] at e1;cases e1
     |some z=>
      rw[e] at e1;cases e1;obtain⟨a,o,p,rfl,_,g,q,l⟩:=f.nd;cases(q);rw[k9 e l] at g;show⟨a,c,rfl,hm.1,g,nX e2 i hm.2⟩
    ·cases e:fF d<;>rw[e] at e1<;>cases e1
  ·cases h
theorem je(h:j3 d=Sb k)(r:Rp K H S d v):(∃x,k=.inl x/\v=kV x)\/∃xs b,k=.inr xs/\v=.ref b/\∀m,Dd m xs=Se->TkAt H m xs b:=by
 let i:∀{d:D},(fF d).map Sum.inl=Sb k->Rp K H S d v->(∃x,k=.inl x/\v=kV x):=λ{d} h r=>by
  cases e:fF d with
  |none=>rw[e] at h;cases h
  |some x=>rw[e] at h;cases h;show⟨x,rfl,ki e r⟩
 unfold j3 at h;split at h
 ·ext f
  cases e:pX f with
  |none=>rw[e] at h;cases h
  |some c=>
   rw[e] at h;cases h;obtain⟨a,o,xs,rfl,_,g,q,j⟩:=r.nd;cases(q);show .inr ⟨c,a,rfl,rfl,λm hm=>⟨xs,g,nX e j hm⟩⟩
 ·show .inl (i h r)
end
theorem jf{κ:Type}[DecidableEq κ]:∀(c:List (κ×V)) (k:κ),iq c k=(c.findIdx? λd=>decide (d.1=k)).bind λi=>(c.map (·.2))[i]?
 |[],k=>rfl
 |(a,b)::r,k=>by
  let f:=jf r k;unfold iq at f⊢;rw[PC,O3];by_cases h:a=k
  ·simp[h]
  ·simp only[h,decide_false];rw[f]
   cases e:r.findIdx? λd=>decide (d.1=k) with
   |none=>simp
   |some i=>simp
def jg(t:Nat):DK->Bool
 |.inl _=>t==0
 |.inr xs=>(match t with|0=>Sf|m+1=>Dd m xs)
theorem ux{K:Om}{H:Hp}{S:Pr}{a:Sj}{o:HO}{t:Nat}{e:List DK}{xs:List V}{d:D}{k:DK}{v:V}(g:H a=Sb o)(q:d4 K o (.dic t e) xs)(h:j3 d=Sb k)(r:Rp K H S d v)(hk:jg t k=Se) :
  DGet H a v ((aH e k).bind λi=>xs[i]?):=by
 rcases q with⟨rfl,c,rfl,e1,e2⟩|⟨m,rfl,c,n,rfl,e1,e2⟩
 ·rcases je h r with⟨x,rfl,rfl⟩|⟨f,b,rfl,rfl,l⟩
  ·have:=DGet.k (k:=x) g;rw[jf] at this
   let e3:aH e (.inl x)=c.findIdx? λj=>decide (j.1=x):=by
    unfold aH;rw[e1,P3];congr 1;funext p;simp[Sum.inl.injEq]
   rw[e3,e2];show this
  ·cases hk
 ·rcases je h r with⟨x,rfl,rfl⟩|⟨f,b,rfl,rfl,l⟩
  ·cases hk
  ·have:=DGet.t g (l m hk);rw[jf] at this
   let e3:aH e (.inr f)=c.findIdx? λj=>decide (j.1=f):=by
    unfold aH;rw[e1,P3];congr 1;funext p;simp[Sum.inr.injEq]
   rw[e3,e2];show this
noncomputable def IQ:D->Bool
 |.non=>Se
 |_=>Sf
noncomputable def toInts:List D->Option (List Int)
 |[]=>Sb []
 |.int b::r=>(toInts r).map (b::·)
 |_=>Sd
theorem eB:∀{ds:List D} {bs:List Int},toInts ds=Sb bs->ds=bs.map D.int
 |[],bs,h=>by cases h;rfl
 |d::r,bs,h=>by
  cases d<;>simp only[toInts] at h<;>try cases h
  ext b
  cases e:toInts r with
  |none=>rw[e] at h;cases h
  |some a=>rw[e] at h;cases h;rw[eB e];rfl
theorem RpL.toInts:∀{a:List Int} {vs:List V},RpL K H S (a.map D.int) vs->vs=a.map V.int
 |[],_,h=>h.nil_inv
 |b::bs,_,h=>by
  obtain⟨y,c,rfl,r,t⟩:=h.cons_inv;rw[r.int,RpL.toInts t];rfl
def L0(x y:D):Option Bool:=match x with
 |.int i=>(match y with|.int j=>Sb (decide (i<j))|_=>Sd)
 |.nd .lst as=>(match y with
  |.nd .lst bs=>(match toInts as with
   |some xs=>(match toInts bs with
    |some ys=>Sb (G.o8 xs ys)
    |none=>Sd)
   |none=>Sd)
  |_=>Sd)
 |_=>Sd
def aq(op:SI)(x y:D):Option Bool:=
 match op with
 |.Lt=>L0 x y
 |.LtE=>Sd
 |.Gt=>(match x,y with|.int i,.int j=>Sb (decide (j<i))|_,_=>Sd)
 |.GtE=>Sd
 |.Eq=>if cC 90 x=Se/\cC 90 y=Se then Sb (wu x y) else Sd
 |.NotEq=>if cC 90 x=Se/\cC 90 y=Se then Sb (!wu x y) else Sd
 |.In=>(match y with
  |.nd .tup ds=>if cC 90 x=Se/\gC 90 ds=Se then Sb (ds.any λz=>wu z x) else Sd
  |_=>Sd)
 |.NotIn=>Sd
 |.Is=>Sd
 |.IsNot=>Sd
abbrev Nv:Pr:=λ_=>False
def IU(K:Om)(op:SI):R2:=λx y H Q=>∃dx q b,Rp K H Nv dx x/\Rp K H Nv q y/\aq op dx q=Sb b/\Q (.bl b) H
theorem uy(x:D):∀ds:List D,((mU ds).any λz=>PyData.eqv z (py x))=ds.any λz=>wu z x
 |[]=>by simp[mU]
 |d::ds=>by simp only[mU,QO,uy x ds];rfl
theorem nY{X:Cx}(hu:X.A.units+100<cLine)(op:SI):jY X (compareOp op) (IU X.K op):=by
 intro f s U H x y v u Q I k r h;obtain⟨D,C,b,g,m,d,q⟩:=h;let he:X.A.units+1<cLine:=by lia
 let p:∀{P:Bool},P=b->EP X f U Q (.bool P) s:=λe=>⟨.bl b,H,I,by rw[e];rfl,q⟩
 let hg:C=.non->plainIs v u=Se/\(v==u)=IQ D:=λe=>by
  subst e;let Z:=m.non;subst Z;cases r
  cases D with
  |non=>have e:=g.non;subst e;cases k;show⟨rfl,rfl⟩
  |bl c=>have e:=g.bl;subst e;cases k;show⟨rfl,by cases c<;>rfl⟩
  |int i=>have e:=g.int;subst e;obtain⟨t,rfl⟩:=k;show⟨rfl,rfl⟩
  |str i=>have e:=g.str;subst e;obtain⟨t,rfl⟩:=k;show⟨rfl,rfl⟩
  |scr ns=>obtain⟨a,rfl,_⟩:=g.scr;cases k;show⟨rfl,rfl⟩
  |nd N R=>obtain⟨a,o,S,rfl,_⟩:=g.nd;cases k;show⟨rfl,rfl⟩
 cases op with
 |Lt=>
  replace d:L0 D C=Sb b:=d
  cases D with
  |int i=>cases C with
   |int j=>cases d;obtain rfl:=g.int;obtain rfl:=m.int;show Il f s U H _ _ v u Q I k r ⟨_,_,rfl,rfl,q⟩
   |_=>cases d
  |nd N R=>cases N with
   |lst=>cases C with
    |nd L hf=>cases L with
     |lst=>
      dsimp only[L0] at d;split at d
      ·ext S hx;split at d
       ·ext ys hy;cases d;rw[eB hx] at g;rw[eB hy] at m;obtain⟨a,o,us,rfl,n1,W,q1,r1⟩:=g.nd;obtain⟨Y,o',ha,rfl,hc,E,M,F⟩:=m.nd;cases(q1);cases(M);obtain rfl:=r1.toInts;obtain rfl:=F.toInts;show G.ET f s U H _ _ v u Q I k r ⟨a,Y,S,ys,rfl,rfl,.of W,.of E,by lia,q⟩
       ·cases d
      ·cases d
     |_=>cases d
    |_=>cases d
   |_=>cases d
  |_=>cases d
 |LtE=>cases d
 |Gt=>
  simp only[aq] at d;split at d
  ·cases d;obtain rfl:=g.int;obtain rfl:=m.int;show Im f s U H _ _ v u Q I k r ⟨_,_,rfl,rfl,q⟩
  ·cases d
 |GtE=>cases d
 |Eq=>
  simp only[aq] at d;split at d
  ·ext l;cases d;obtain⟨⟨O,z⟩,B,T⟩:=dN I l.1 g k;obtain⟨⟨V,w⟩,b1,b2⟩:=dN I l.2 m r;show SeqAt.compareEq_reads z w B b1 (by lia) (p rfl)
  ·cases d
 |NotEq=>
  simp only[aq] at d;split at d
  ·ext l;cases d;obtain⟨⟨O,z⟩,B,T⟩:=dN I l.1 g k;obtain⟨⟨V,w⟩,b1,b2⟩:=dN I l.2 m r;show SeqAt.compareNe_reads z w B b1 (by lia) (p rfl)
  ·cases d
 |In=>
  simp only[aq] at d;split at d
  ·ext R;split at d
   ·ext l;cases d;obtain⟨⟨O,z⟩,B,T⟩:=dN I l.1 g k;obtain⟨⟨V,w⟩,b1,b2⟩:=dN (n:=91) I (by simp only[cC,Oo];show⟨rfl,l.2⟩) m r;simp only[py,PyData.canLay0,PyData.depth] at w b1 b2;show SeqAt.in_tuple_reads w z b1 B (by lia) (p (uy _ _))
   ·cases d
  ·cases d
 |NotIn=>cases d
 |Is=>cases d
 |IsNot=>cases d
noncomputable def ss:D->Option Bool
 |.bl b=>Sb b
 |_=>Sd
theorem x5(t:Rp K H S d v)(h:ss d=Sb b):AN K v H b:=by
 cases d with
 |bl k=>obtain rfl:=t.bl;cases h;rfl
 |_=>cases h
noncomputable def Ow.ch:Ow->Nat->Ow
 |.fz,_=>.fz
 |.own es r,i=>es.getD i r
def o9:Kd->Nat->Kd
 |.sh,_=>.sh
 |.fr k,i=>(match k.ch i with|.fz=>.sh|c=>.fr c)
 |.bo j k,i=>(match k.ch i with|.fz=>.sh|c=>.bo j c)
section
variable {K:Om} {H H' H0:Hp} {S:Pr} {g:Gh}
theorem TrL.len:∀{ds:List D} {es:List Ow} {r:Ow} {xs:List V} {F:Pr},TrL K H S ds es r xs F->xs.length=ds.length
 |[],_,_,_,_,h=>by unfold TrL at h;rw[h.1];rfl
 |d::ds,es,r,xs,F,h=>by
  unfold TrL at h;obtain⟨y,c,e,b,rfl,_,_,_,a⟩:=h;rw[OM,OM,TrL.len a]
theorem TrL.get:∀{ds:List D} {es:List Ow} {r:Ow} {xs:List V} {F:Pr} {i:Nat} {d:D},TrL K H S ds es r xs F->ds[i]?=Sb d->∃x a,xs[i]?=Sb x/\(∀b,a b->F b)/\Tr K H S d (es.getD i r) x a
 |[],_,_,_,_,_,_,h,e=>by simp at e
 |d::ds,es,r,xs,F,0,d',h,e=>by
  unfold TrL at h;obtain⟨y,k,g,l,rfl,c,_,j,f⟩:=h;simp at e;subst e
  show⟨y,g,rfl,λb z=>(c b).mpr (.inl z),by cases es<;>simpa using j⟩
 |d::ds,es,r,xs,F,i+1,d',h,e=>by
  unfold TrL at h;obtain⟨y,k,g,l,rfl,c,_,j,f⟩:=h;obtain⟨x,a,e1,e2,e3⟩:=TrL.get f (by simpa using e)
  show⟨x,a,by simpa using e1,λb z=>(c b).mpr (.inr (e2 b z)),by cases es<;>simpa using e3⟩
theorem VR.ch{ds:List D}(h:VR K g H0 H kd (.nd hd ds) v):∃a o xs,v=.ref a/\H a=Sb o/\d4 K o hd xs/\xs.length=ds.length/\∀(i:Nat) d,ds[i]?=Sb d->∃x,xs[i]?=Sb x/\VR K g H0 H (o9 kd i) d x:=by
 obtain⟨F,I,m⟩:=h
 let l:∀{E:Pr},(∀b,g b≠Sd->E b)->Rp K H E (.nd hd ds) v->∃a o xs,v=.ref a/\H a=Sb o/\d4 K o hd xs/\xs.length=ds.length/\∀(i:Nat) d,ds[i]?=Sb d->∃x,xs[i]?=Sb x/\VR K g H0 H .sh d x:=λy r=>by
  obtain⟨a,o,xs,e,n,q1,f,p⟩:=r.nd;show⟨a,o,xs,e,q1,f,p.len,λi d e=>?_⟩;obtain⟨x,e1,e2⟩:=p.getD e;show⟨x,e1,IM (e2.weak λb z=>y b z)⟩
 cases kd with
 |sh=>show l (λb z=>.inl z) m.2
 |fr k=>
  let m:Tr K H (Sx g F) _ k v F:=m
  cases k with
  |fz=>
   obtain⟨a,o,xs,e,q1,f,p,B⟩:=l (λb z=>.inl z) m.fz_inv.2;show⟨a,o,xs,e,q1,f,p,B⟩
  |own s r=>
   unfold Tr at m;obtain⟨a,o,xs,M,e,q1,f,n1,n2,w,t⟩:=m;show⟨a,o,xs,e,q1,f,t.len,λi d e=>?_⟩;obtain⟨x,u,e1,e2,e3⟩:=t.get e;show⟨x,e1,?_⟩;let y:∀b o,H b=Sb o->¬Sx g F b->¬Sx g u b:=λb o _ n z=>n (z.imp id λz=>(w b).mpr (.inr (e2 b z)))
   change VR K g H0 H (match s.getD i r with|.fz=>.sh|c=>.fr c) d x
   cases q:s.getD i r with
   |fz=>
    rw[q] at e3;show IM (e3.fz_inv.2.weak λb z=>.inl z)
   |own C L=>
    rw[q] at e3;show⟨u,λb z=>I b ((w b).mpr (.inr (e2 b z))),e3.go (λ_ _ _ h=>h) y⟩
 |bo j k=>
  obtain⟨hn,O,N,A⟩:=m
  cases k with
  |fz=>
   obtain⟨a,o,xs,e,q1,f,p,B⟩:=l (λb z=>.inl z) A.fz_inv.2;show⟨a,o,xs,e,q1,f,p,B⟩
  |own s r=>
   unfold Tr at A;obtain⟨a,o,xs,M,e,q1,f,n1,n2,w,t⟩:=A;show⟨a,o,xs,e,q1,f,t.len,λi d e=>?_⟩;obtain⟨x,u,e1,e2,e3⟩:=t.get e;show⟨x,e1,?_⟩
   change VR K g H0 H (match s.getD i r with|.fz=>.sh|c=>.bo j c) d x
   cases q:s.getD i r with
   |fz=>
    rw[q] at e3;show IM (e3.fz_inv.2.weak λb z=>.inl z)
   |own C L=>
    rw[q] at e3;show⟨F,I,hn,u,λb z=>N b ((w b).mpr (.inr (e2 b z))),e3⟩
end
structure Cz where
 sc:SA
 N:List Str
 fn:Str->Bool
abbrev Fn:=List D->Option KD
structure fA where
 fn:Str->Option Fn
 fm:Str->Option (Om->Sp)
 cst:Str->Option D
 cf:Str->Option (List Str)
noncomputable def bm(x:Str):List Str->Option Nat
 |[]=>Sd
 |y::r=>if x=y then Sb 0 else(bm x r).map (·+1)
theorem aZ:∀{N:List Str} {i:Nat},bm x N=Sb i->N[i]?=Sb x
 |[],_,h=>by cases h
 |y::r,i,h=>by
  unfold bm at h;split at h
  ·ext e;cases h;simp[e]
  ·cases q:bm x r with
   |none=>rw[q] at h;cases h
   |some j=>
    rw[q] at h;cases h;simpa using aZ q
noncomputable def EV(sc:SA)(x:Str):Bool:=sc.names.lookup x==Sb .local||sc.names.lookup x==Sb .cell||sc.names.lookup x==Sb .free
noncomputable def pY(c:Cz)(x:Str):Bool:=c.sc.names.lookup x==Sb .local||(c.fn x&&c.sc.names.lookup x==Sb .cell)
noncomputable def fG(scope:SA)(x:Str):Bool:=scope.names.lookup x==Sb .cell
noncomputable def gY(sc:SA)(x:Str):Bool:=sc.names.lookup x==Sb .globalImplicit
theorem nZ(h:EV sc x=Se):KN sc x:=by
 simp only[EV,PL,beq_iff_eq] at h;rcases h with(h|h)|h
 ·show .inl h
 ·show .inr (.inl h)
 ·show .inr (.inr h)
noncomputable def n6(x:Str):Bool:=!(x==("__debug__":Str))&&!(x==("__classdict__":Str))
def wy(K:Om)(B:Fn):Sp:=λvs H Q _=>∃ds g kd d,RpL K H (Sg g) ds vs/\MuOk H (Sg g)/\B ds=Sb (kd,d)/\∀v H',Same H H'->VR K g H H' kd d v->Q v H'
noncomputable def aA:List Str:=["len","isinstance","int","bool","list","all","range","enumerate","str","sum","min","max","abs","tuple","zip","dict","sorted","reversed","any","set","repr"]
def su(C:Sj)(sp q:Sp):Prop:=∀vs H Q,sp vs H Q E0->∀a dx,H a=Sd->H dx=Sd->dx≠a->q (.ref a::vs) (upd (upd H dx (.own a)) a (.ins C dx [])) (λv H2=>v=.non/\Q (.ref a) H2) E0
def n8(X:Cx)(x:Str)(sp:Sp):Prop:=
 (∃k f fd ps,FnOk X.prog X.w X.K X.mg X.base rz k f fd ps sp/\Room k X.A/\X.mg x=Sb (.ref f)/\Pg X.K (.ref f)=Se/\Binds X.K fd ps []/\(x==("__debug__":Str))=Sf)\/
 (∃C k f fd ps q,Mk X.K C f/\FnOk X.prog X.w X.K X.mg X.base rz k f fd ps q/\Room (k+1) X.A/\X.mg x=Sb (.ref C)/\Binds X.K fd ps []/\(x==("__debug__":Str))=Sf/\su C sp q)
def Nq(sp:Sp)(t:TA):TE:=λU H Q=>t U H λvs H1=>sp vs H1 Q E0
theorem De{X:Cx}{t:TA}(tm:∀(U:L2.St) (H:Hp) (Q R:List V->Hp->Prop),t U H Q->(∀vs H1,Q vs H1->R vs H1)->t U H R)(h:n8 X x sp)(m:Gl X x)(j:PA X (e::es) t)(l:Sy (e::es) X.env=(Sf,eval e X.env)::Sy es X.env)(d:(backTo pos (Sy es X.env)).any (·.1)=Sf) :
  PE X (.Call (.Name x p) (e::es) [] pos) (Nq sp t):=by
 intro b s U H Q I q;rcases h with⟨k,f,w,v,F,i,hm,hk,g,c⟩|⟨C,k,f,w,v,n,M,F,i,hm,g,c,o⟩
 ·show ue F i m hm hk g .nil pK j c l d b s U H Q I (tm _ _ _ _ q λvs H1 z=>by rw[OZ];show z)
 ·show AT M F i m hm g .nil pK j c l d b s U H Q I (tm _ _ _ _ q λvs H1 z a y A r u=>by rw[OZ];show o vs H1 Q z a y A r u)
theorem EW(h:n8 X x sp)(g:Gl X x):PE X (.Call (.Name x p) [] [] pos) (Nq sp AS):=by
 intro b s U H Q I q;rcases h with⟨k,f,n,m,F,e,hm,hk,d,c⟩|⟨C,k,f,n,m,l,M,F,e,hm,d,c,r⟩
 ·show xz F e g hm hk d .nil pK c b s U H Q I q
 ·show xA M F e g hm d .nil pK c b s U H Q I λa o t j i=>r [] H Q q a o t j i
structure IV(X:Cx)(Z:fA):Prop where
 fn:∀x B,Z.fn x=Sb B->n8 X x (wy X.K B)
 cf:∀c fs C,Z.cf c=Sb fs->Ps X.K Sz c=Sb (Sb (.ref C))->Cls X.K C/\∀a∈fs,NoAttr X.K C a
 fm:∀x sp,Z.fm x=Sb sp->∃k f fd ps,FnOk X.prog X.w X.K X.mg X.base rz k f fd ps (sp X.K)/\Room k X.A/\X.mg x=Sb (.ref f)/\Pg X.K (.ref f)=Se/\Binds X.K fd ps []/\(x==("__debug__":Str))=Sf
 bl:∀x∈aA,X.mg x=Sd
 units:X.A.units+100<cLine
 gd:X.A.guards=Sb []
 cst:∀x d,Z.cst x=Sb d->∃u v,X.mg x=Sb u/\RelV v u/\(∀H S,Rp X.K H S d v)/\(x==("__debug__":Str))=Sf
structure av(X:Cx)(Z:fA)(c:Cz):Prop where
 sc:X.env.scope=c.sc
 N:X.N=c.N
 fn:∀x,c.fn x=Se->X.fn x=Se
 calm:X.calm=Se
 nd:c.N.Nodup
 tab:IV X Z
section
variable {X:Cx} {Z:fA} {c:Cz}
theorem cJ(O:av X Z c)(h:gY c.sc x=Se):Gl X x:=by
 change X.env.scope.names.lookup x=_;rw[O.sc];simpa[gY] using h
theorem lc(O:av X Z c){x:Str}(h:pY c x=Se):Ef X.env.scope x/\(X.fn x=Se\/X.env.scope.names.lookup x=Sb .local):=by
 simp only[pY,PL,Oo,beq_iff_eq] at h;rw[O.sc];rcases h with h|h
 ·show⟨.inl h,.inr h⟩
 ·show⟨.inr h.2,.inl (O.fn x h.1)⟩
def pZ(i:Nat)(o:Option (Option Sl)):Option KD:=match o with|some (Sb s)=>Sb (pU i s)|_=>Sd
def eR(c:Cz)(x:Str):Option Nat:=match bm x c.N with|some i=>if EV c.sc x&&n6 x then Sb i else Sd|none=>Sd
theorem Df(O:av X Z c){i:Nat}(a:eR c x=Sb i)(pos:Pos):SndE X (λY=>pZ i Y[i]?) (.Name x pos):=by
 intro Y m d h g U H Q k q;unfold eR at a;split at a
 ·ext j f;split at a
  ·ext b;cases a;simp only[Oo,n6,QR] at b;dsimp only[pZ] at h;split at h
   ·ext l e;cases h;obtain⟨v,e1,e2⟩:=k.get e;show ar (rJ (by rw[O.N];show aZ f) (by rw[O.sc];show nZ b.1) b.2.1 b.2.2) ⟨v,e1,q v H (Same.refl H) e2⟩
   ·cases h
  ·cases a
 ·cases a
theorem IW(i:Int)(j:Nat)(pos:Pos):SndE X (λ_=>Sb (.sh,.int i)) (.Constant (.int i) j pos):=by
 intro Y a d h g U H Q b q;cases h;show ar Eg (q _ H (Same.refl H) k8)
theorem L1(i:Bool)(j:Nat)(pos:Pos):SndE X (λ_=>Sb (.sh,.bl i)) (.Constant (.bool i) j pos):=by
 intro Y a d h g U H Q b q;cases h;show ar HZ (q _ H (Same.refl H) Dc)
theorem IX(j:Nat)(pos:Pos):SndE X (λ_=>Sb (.sh,.non)) (.Constant .none j pos):=by
 intro Y a d h g U H Q b q;cases h;show ar Eh (q _ H (Same.refl H) IL)
theorem IY(x:Str)(j:Nat)(pos:Pos):SndE X (λ_=>Sb (.sh,.str x)) (.Constant (.str x) j pos):=by
 intro Y a d h g U H Q b q;cases h;show ar Ei (q _ H (Same.refl H) A7)
theorem IZ(O:av X Z c)(j:gY c.sc x=Se)(e:Z.cst x=Sb d)(pos:Pos):SndE X (λ_=>Sb (.sh,d)) (.Name x pos):=by
 intro Y l k h g U H Q m q;cases h;obtain⟨u,v,i,b,a,f⟩:=O.tab.cst x d e;show ar (AD (cJ O j) i b f) (q v H (Same.refl H) (IM (a H _)))
theorem two{c d:Ro->Option KD}(f:SndE X c a)(h:SndE X d b)(k:c Y=Sb (ka,da))(j:d Y=Sb (kb,db)){R:V->V->Hp->Prop}(e:SE X.K g Y U H)(q:∀x y H',Same H H'->VR X.K g H H' ka da x->VR X.K g H H' kb db y->R x y H'):wE X a U H λx H1=>wE X b U H1 λy H2=>R x y H2:=
 f Y ka da k g U H _ e λx H1 s1 i=>h Y kb db j g U H1 _ (e.same s1) λy H2 s2 l=>q x y H2 (s1.trans s2) (i.same s2) (l.older s1)
def x6(op:SJ)(a b:Option KD):Option KD:=match a,b with
 |some x,Sb y=>fw op x y
 |_,_=>Sd
theorem I0{c e:Ro->Option KD}(i:SndE X c a)(j:SndE X e b):SndE X (λY=>x6 op (c Y) (e Y)) (.BinOp a op b pos):=by
 intro Y n d h g U H Q f q;dsimp only[x6] at h;split at h
 ·ext x y o m;show ar (C8 (x4 op) aw aw) (two i j o m f λw u t s l p=>⟨g,H,x,y,n,d,f.mu,s,l,p,h,λv k s2 r=>q v k (s.trans s2) (r.older s)⟩)
 ·cases h
def lf(op:SI)(a b:Option KD):Option Bool:=match a,b with
 |some (_,x),Sb (_,y)=>aq op x y
 |_,_=>Sd
noncomputable def bV(o:Option Bool):Option KD:=o.map λb=>(.sh,.bl b)
theorem Ja{f j:Ro->Option KD}{a b:Si}{op:SI}(O:av X Z c)(hm:SH op b=Sf)(m:SndE X f a)(n:SndE X j b):SndE X (λY=>bV (lf op (f Y) (j Y))) (.Compare a [op] [b] pos):=by
 intro Y u d h g U H Q t q
 cases e:lf op (f Y) (j Y) with
 |none=>simp only[e,bV] at h;cases h
 |some r=>
  simp only[e,bV] at h;cases h;unfold lf at e;split at e
  ·ext z x A y p o;show ar (ub (nY O.tab.units op) aw aw hm) (two m n p o t λw v l s i k=>⟨x,y,r,i.rd,k.rd,e,q _ l s Dc⟩)
  ·cases e
theorem fH{h i:Ro->Option KD}{a b:Si}{op:SI}(O:av X Z c)(hm:SH op b=Sf)(k:SndE X h a)(l:SndE X i b):SndT X (λY=>lf op (h Y) (i Y)) (.Compare a [op] [b] pos):=by
 intro Y r d g U H Q o q;dsimp only[lf] at d;split at d
 ·ext u x v y n m;show uq (uc (nY O.tab.units op) aw aw hm) (two k l n m o λt p j s e f=>⟨x,y,r,e.rd,f.rd,d,r,rfl,q j s⟩)
 ·cases d
def eC(a:Option KD):Option Bool:=match a with|some (_,d)=>ss d|none=>Sd
theorem Jb{i:Ro->Option KD}(l:SndE X i a):SndE X (λY=>bV ((eC (i Y)).map (!·))) (.UnaryOp .Not a pos):=by
 intro Y z d h g U H Q w q
 cases e:eC (i Y) with
 |none=>simp only[e,bV] at h;cases h
 |some b=>
  simp only[e,bV] at h;cases h;unfold eC at e;split at e
  ·ext k d e1;intro c s I;show PyProof.Rows.UnaryOp_ (bd (l Y _ _ e1 g U H (λv f=>AN X.K v f b/\Q (.bl (!b)) f) w (λv f s n=>⟨x5 n.rd e,q _ f s Dc⟩) c s I) λv s1 m=>?_);obtain⟨x,u,t,o,p,q1⟩:=m;show PyProof.Rows.not_of (bd (xt c s1 U u x v (λk j=>Q (.bl (!k)) j) t o ⟨b,p,q1⟩) λk s2 ⟨j,r,y⟩=>⟨.bl (!k),j,r,rfl,y⟩)
  ·cases e
theorem jJ{c:Ro->Option Bool}(f:SndT X c a):SndT X (λY=>(c Y).map (!·)) (.UnaryOp .Not a pos):=by
 intro Y r h g U H Q i q
 cases e:c Y with
 |none=>simp only[e] at h;cases h
 |some b=>
  simp only[e] at h;cases h;show uq (Ek iy) (f Y b e g U H _ i λd s=>q d s)
theorem x8{c:Ro->Option KD}{a:Si}(i:SndE X c a)(l:∀b,isTrue a X.env b=(do let v <- b;standAt a.pos;holding [v] (truthy v))):SndT X (λY=>eC (c Y)) a:=by
 intro Y r h g U H Q m q;dsimp only[eC] at h;split at h
 ·ext k d e;show uq (xu aw l) (i Y _ _ e g U H _ m λv f s j=>⟨r,x5 j.rd h,q f s⟩)
 ·cases h
noncomputable def Jc(t:Option Bool)(a b:Option KD):Option KD:=match t with|some Se=>a|some Sf=>b|none=>Sd
theorem L3{n:Ro->Option Bool}{j l:Ro->Option KD}(m:SndT X n t)(o:SndE X j a)(p:SndE X l b):SndE X (λY=>Jc (n Y) (j Y) (l Y)) (.IfExp t a b pos):=by
 intro Y k d h g U H Q c q;dsimp only[Jc] at h;split at h
 ·ext e;show ar (pq iy aw aw) (m Y _ e g U H _ c λi s1=>xM (o Y k d h g U i Q (c.same s1) λv f s2 r=>q v f (s1.trans s2) (r.older s1)))
 ·ext e;show ar (pq iy aw aw) (m Y _ e g U H _ c λi s1=>xL (p Y k d h g U i Q (c.same s1) λv f s2 r=>q v f (s1.trans s2) (r.older s1)))
 ·cases h
noncomputable def ak:Si->Bool
 |.Starred ..=>Sf
 |_=>Se
theorem ae(h:ak e=Se):Sy (e::es) env=(Sf,eval e env)::Sy es env:=by
 cases e<;>first|rfl|cases h
theorem bh{es:List Si}(h:es.all ak=Se):(backTo pos (Sy es env)).any (·.1)=Sf:=by
  let d:∀es:List Si,es.all ak=Se->∀p∈Sy es env,p.1=Sf:=by
    intro es
    induction es with
    |nil=>intro _ p b;cases b
    |cons e es g=>
      intro h p b;simp only[Pm,Oo] at h;rw[ae h.1] at b;rcases OD.mp b with rfl|b
      · rfl
      · show g h.2 p b
  let c:=d es h
  cases e:Sy es env with
  |nil=>rfl
  |cons p r=>
    rw[e] at c
    let i:∀q∈backTo pos (p::r),q.1=Sf:=by
      intro q a;unfold backTo at a
      first
        |show c q a
        | (simp only[Oy,OD] at a
           first
             |(obtain⟨z,f,rfl⟩:=a;show c z (by simpa using f))
             | (rcases a with rfl|a
                · show c p (by simp)
                · first
                    |show c q (by simp[a])
                    |(obtain⟨z,f,rfl⟩:=a;show c z (by simp[f]))))
    rw[RR];intro q a;rw[i q a];decide
noncomputable def fI(a:Option KD)(r:Option (List KD)):Option (List KD):=match a,r with|some x,Sb xs=>Sb (x::xs)|_,_=>Sd
theorem Bb:kZ X (λ_=>Sb []) []:=by
 intro Y a h g U H Q b q;cases h;show kY dL (q [] H (Same.refl H) .nil)
theorem Bc{a:Ro->Option KD}{f:Ro->Option (List KD)}(hn:ak e=Se)(l:SndE X a e)(o:kZ X f es):kZ X (λY=>fI (a Y) (f Y)) (e::es):=by
 intro Y s h g U H Q i q;dsimp only[fI] at h;split at h
 ·ext x j e1 e2;cases h;obtain⟨k,d⟩:=x;show kY (bu aw cW (ae hn)) (l Y k d e1 g U H _ i λv p s1 n=>?_);obtain⟨t,c,b⟩:=n;show o Y j e2 (g.plus t) U p _ (i.plus s1 c b.dom) λr m s2 u=>q (v::r) m (s1.trans s2) (.cons s1 s2 c b u)
 ·cases h
theorem VRs.two(h:VRs K g H0 H [(k,d),(k',d')] vs):∃v f,vs=[v,f]/\VR K g H0 H k d v/\VR K g H0 H k' d' f:=by
 obtain⟨F,i,y,r,j,t,rfl,m,q,l,z,s,c,u,rfl,a,o,n,rfl,p⟩:=h;let e:∀b,F b↔j b\/c b:=λb=>(m b).trans ⟨λz=>z.imp id λz=>((a b).mp z).elim id λz=>absurd z (p b),λz=>z.imp id λz=>(a b).mpr (.inl z)⟩;show⟨y,z,rfl,⟨j,λb z=>i b ((e b).mpr (.inl z)),l.go (λ_ _ h=>h) λb _ _ z=>(e b).mpr (.inl z)⟩,⟨c,λb z=>i b ((e b).mpr (.inr z)),n.go (λ_ _ h=>h) λb _ _ z=>(e b).mpr (.inr z)⟩⟩
end
mutual
noncomputable def Ow.le:Ow->Ow->Bool
 |.fz,_=>Se
 |.own es r,.own es' r'=>Ow.les es es'&&Ow.le r r'
 |.own _ _,.fz=>Sf
noncomputable def Ow.les:List Ow->List Ow->Bool
 |[],[]=>Se
 |a::as,b::bs=>Ow.le a b&&Ow.les as bs
 |_,_=>Sf
end
theorem Ow.les_hd:∀{es c:List Ow} {r d:Ow},Ow.les es c=Se->Ow.le r d=Se->(es.headD r).le (c.headD d)=Se/\Ow.les es.tail c.tail=Se
 |[],[],_,_,_,h=>⟨h,rfl⟩
 |a::as,b::bs,_,_,h,_=>by rw[Ow.les,Oo] at h;show h
 |[],_::_,_,_,h,_=>by simp[Ow.les] at h
 |_::_,[],_,_,h,_=>by simp[Ow.les] at h
section
variable {K:Om} {H:Hp} {S:Pr}
mutual
theorem Tr.ofIm:∀{d:D} {k:Ow} {v:V},si d=Se->Rp K H S d v->Tr K H S d k v (λ_=>False)
 |.non,_,_,_,h=>by unfold Tr;show⟨λ_ z=>z,h⟩
 |.bl _,_,_,_,h=>by unfold Tr;show⟨λ_ z=>z,h⟩
 |.int _,_,_,_,h=>by unfold Tr;show⟨λ_ z=>z,h⟩
 |.str _,_,_,_,h=>by unfold Tr;show⟨λ_ z=>z,h⟩
 |.scr _,_,_,i,_=>by simp[si] at i
 |.nd hd ds,.fz,_,_,h=>by unfold Tr;show⟨λ_ z=>z,h⟩
 |.nd hd ds,.own es r,v,i,h=>by
  rw[si,Oo] at i;let f:hd.mu=Sf:=by simpa using i.1
  unfold Rp at h;unfold Tr;obtain⟨a,o,c,e,n,g,q,t⟩:=h;show⟨a,o,c,λ_=>False,e,g,q,λ_ z=>z,λ_=>n,λb=>⟨λz=>z.elim,λz=>z.elim (λz=>by rw[f] at z;cases z.1) id⟩,TrL.ofIm i.2 t⟩
theorem TrL.ofIm:∀{ds:List D} {es:List Ow} {r:Ow} {vs:List V},A4 ds=Se->RpL K H S ds vs->TrL K H S ds es r vs (λ_=>False)
 |[],_,_,_,_,h=>by unfold TrL;show⟨h.nil_inv,λ_ z=>z⟩
 |d::ds,es,r,vs,i,h=>by
  rw[A4,Oo] at i;obtain⟨y,c,rfl,e,a⟩:=h.cons_inv;unfold TrL;show⟨y,c,_,_,rfl,λb=>⟨λz=>z.elim,λz=>z.elim id id⟩,λ_ z=>z.elim,Tr.ofIm i.1 e,TrL.ofIm i.2 a⟩
end
theorem Tr.leaf{S':Pr}(hd:∀h ds,d≠.nd h ds)(h:Tr K H S d c v F)(f:∀b,S' b->H b=Sd\/S b):Tr K H S' d k v (λ_=>False):=by
 cases d with
 |nd a ds=>show absurd rfl (hd a ds)
 |_=>
  unfold Tr at h⊢;show⟨λ_ z=>z,h.2.go λb o n e=>⟨e,λz=>(f b z).elim (λq=>by rw[e] at q;cases q) n⟩⟩
mutual
theorem Tr.part:∀{d:D} {k c:Ow} {v:V} {F:Pr},k.le c=Se->Tr K H S d c v F->∃F2:Pr,(∀b,F2 b->F b)/\∀S':Pr,(∀b,S' b->H b=Sd\/(S b/\(F b->F2 b)))->Tr K H S' d k v F2
 |.non,_,_,_,_,_,t=>⟨_,λ_ z=>z.elim,λS' i=>t.leaf (λ_ _ e=>nomatch e) λb z=>(i b z).imp id And.left⟩
 |.bl _,_,_,_,_,_,t=>⟨_,λ_ z=>z.elim,λS' i=>t.leaf (λ_ _ e=>nomatch e) λb z=>(i b z).imp id And.left⟩
 |.int _,_,_,_,_,_,t=>⟨_,λ_ z=>z.elim,λS' i=>t.leaf (λ_ _ e=>nomatch e) λb z=>(i b z).imp id And.left⟩
 |.str _,_,_,_,_,_,t=>⟨_,λ_ z=>z.elim,λS' i=>t.leaf (λ_ _ e=>nomatch e) λb z=>(i b z).imp id And.left⟩
 |.scr _,_,_,_,_,_,t=>⟨_,λ_ z=>z.elim,λS' i=>t.leaf (λ_ _ e=>nomatch e) λb z=>(i b z).imp id And.left⟩
 |.nd hd ds,.fz,c,v,F,_,t=>by
  show⟨λ_=>False,λ_ z=>z.elim,λS' i=>.fz ?_⟩;let r:Rp K H (λb=>S' b/\H b≠Sd) (.nd hd ds) v:=t.rp λb z=>(i b z.1).elim (λq=>absurd q z.2) λq=>⟨q.1,q.2⟩;show r.go λb o n e=>⟨e,λz=>n ⟨z,by rw[e];show λh=>by cases h⟩⟩
 |.nd hd ds,.own es r,.fz,_,_,l,_=>by simp[Ow.le] at l
 |.nd hd ds,.own es r,.own es' r',v,F,l,t=>by
  rw[Ow.le,Oo] at l;unfold Tr at t;obtain⟨a,o,p,x,e,g,q,n1,n2,m,u⟩:=t;obtain⟨G,j,s⟩:=TrL.part l.1 l.2 u;show⟨λb=>(hd.mu=Se/\b=a)\/G b,λb z=>(m b).mpr (z.imp id (j b)),λS' i=>?_⟩;unfold Tr;show⟨a,o,p,G,e,g,q,λhm z=>n1 hm (j a z),λhm z=>(i a z).elim (λq=>by rw[g] at q;cases q) λq=>n2 hm q.1,λb=>Iff.rfl,s S' λb z=>(i b z).imp id λq=>⟨q.1,λf=>?_⟩⟩;show(q.2 ((m b).mpr (.inr f))).elim (λw=>absurd f (by rw[w.2];show n1 w.1)) id
theorem TrL.part:∀{ds:List D} {es a:List Ow} {r i:Ow} {vs:List V} {F:Pr},Ow.les es a=Se->r.le i=Se->TrL K H S ds a i vs F->∃F2:Pr,(∀b,F2 b->F b)/\∀S':Pr,(∀b,S' b->H b=Sd\/(S b/\(F b->F2 b)))->TrL K H S' ds es r vs F2
 |[],_,_,_,_,_,_,_,_,t=>⟨λ_=>False,λ_ z=>z.elim,λS' _=>by unfold TrL at t⊢;show⟨t.1,λ_ z=>z⟩⟩
 |d::ds,es,a,r,i,vs,F,l1,l2,t=>by
  unfold TrL at t;obtain⟨y,n,v,F2,e,g,c,o,u⟩:=t;let k:=Ow.les_hd l1 l2;obtain⟨m,h,p⟩:=Tr.part k.1 o;obtain⟨j,b1,b2⟩:=TrL.part k.2 l2 u;show⟨λb=>m b\/j b,λb z=>(g b).mpr (z.imp (h b) (b1 b)),λS' l=>?_⟩;unfold TrL;show⟨y,n,m,j,e,λb=>Iff.rfl,λb s z2=>c b (h b s) (b1 b z2),p S' λb z=>(l b z).imp id λq=>⟨q.1,λf=>?_⟩,b2 S' λb z=>(l b z).imp id λq=>⟨q.1,λf=>?_⟩⟩
  ·show(q.2 ((g b).mpr (.inl f))).elim id λw=>absurd (b1 b w) (c b f)
  ·show(q.2 ((g b).mpr (.inr f))).elim (λw=>absurd f (c b (h b w))) id
end
end
def bE(k:Ow)(p:KD):Bool:=match k with
 |.fz=>i7 p.1 p.2
 |k=>(match p.1 with|.fr c=>k.le c|_=>Sf)||si p.2
def sw:List Ow->Ow->List KD->Bool
 |_,_,[]=>Se
 |es,r,p::ps=>bE (es.headD r) p&&sw es.tail r ps
section
variable {K:Om} {H H' H0:Hp} {g:Gh} {Ft F:Pr}
theorem VR1.fit{p:KD}(h:bE k p=Se)(m:MuOk H (Sx g Ft))(hd:∀b,F b->g b=Sd)(t:∀b,F b->Ft b)(r:VR1 K H g Ft p.1 p.2 v F):∃F2:Pr,(∀b,F2 b->F b)/\∀S':Pr,(∀b,S' b->H b=Sd\/g b≠Sd\/F2 b\/(Ft b/\¬F b))->Tr K H S' p.2 k v F2:=by
 obtain⟨l,d⟩:=p
 cases k with
 |fz=>
  show⟨λ_=>False,λb z=>z.elim,λS' a=>.fz ?_⟩
  let j:Rp K H (λb=>S' b/\H b≠Sd) d v:=by
   cases l with
   |sh=>
    show r.2.weak λb z=>?_;rcases a b z.1 with q|q|q|q
    ·show absurd q z.2
    ·show .inl q
    ·show q.elim
    ·show .inr q.1
   |fr c=>
    show Tr.rp (λb z=>?_) r;rcases a b z.1 with q|q|q|q
    ·show absurd q z.2
    ·show⟨.inl q,λz2=>q (hd b z2)⟩
    ·show q.elim
    ·show⟨.inr q.1,q.2⟩
   |bo i c=>
    show r.rd.im (λb z=>?_) h;rcases a b z.1 with q|q|q|q
    ·show absurd q z.2
    ·show m b (.inl q)
    ·show q.elim
    ·show m b (.inr q.1)
  show j.go λb o n e=>⟨e,λz=>n ⟨z,by rw[e];show λh=>by cases h⟩⟩
 |own w x=>
  rcases PL _ _▸(h) with h|h
  ·cases l with
   |sh=>cases h
   |bo i c=>cases h
   |fr c=>
    obtain⟨F2,s,u⟩:=Tr.part h r;show⟨F2,s,λS' a=>u S' λb z=>?_⟩;rcases a b z with q|q|q|q
    ·show .inl q
    ·show .inr ⟨.inl q,λf=>absurd (hd b f) q⟩
    ·show .inr ⟨.inr (t b (s b q)),λ_=>q⟩
    ·show .inr ⟨.inr q.1,λf=>absurd f q.2⟩
  ·show⟨λ_=>False,λb z=>z.elim,λS' a=>.ofIm h ?_⟩
   let j:Rp K H (λb=>S' b/\H b≠Sd) d v:=by
    show r.rd.im (λb z=>?_) h;rcases a b z.1 with q|q|q|q
    ·show absurd q z.2
    ·show m b (.inl q)
    ·show q.elim
    ·show m b (.inr q.1)
   show j.go λb o n e=>⟨e,λz=>n ⟨z,by rw[e];show λh=>by cases h⟩⟩
theorem VRL.fit:∀{kds:List KD} {es:List Ow} {r:Ow} {vs:List V} {F:Pr},sw es r kds=Se->MuOk H (Sx g Ft)->(∀b,F b->g b=Sd)->(∀b,F b->Ft b)->VRL K H g Ft kds vs F->
  ∃d:Pr,(∀b,d b->F b)/\∀c:Pr,(∀b,c b->H b=Sd\/g b≠Sd\/d b\/(Ft b/\¬F b))->TrL K H c (kds.map (·.2)) es r vs d
 |[],es,r,vs,F,_,_,_,_,h=>⟨λ_=>False,λb z=>z.elim,λc i=>by unfold QH TrL;show⟨h.1,λb z=>z⟩⟩
 |p::ps,es,r,vs,F,hf,m,hd,hs,h=>by
  obtain⟨y,n,u,d,rfl,a,f,t,l⟩:=h;unfold sw at hf;rw[Oo] at hf;obtain⟨k,e,o⟩:=VR1.fit hf.1 m (λb z=>hd b ((a b).mpr (.inl z))) (λb z=>hs b ((a b).mpr (.inl z))) t;obtain⟨j,b1,b2⟩:=VRL.fit hf.2 m (λb z=>hd b ((a b).mpr (.inr z))) (λb z=>hs b ((a b).mpr (.inr z))) l;show⟨λb=>k b\/j b,λb z=>(a b).mpr (z.imp (e b) (b1 b)),λc i=>?_⟩;unfold TrL;show⟨y,n,k,j,rfl,λb=>Iff.rfl,λb s z2=>f b (e b s) (b1 b z2),o c λb z=>?_,b2 c λb z=>?_⟩
  ·rcases i b z with q|q|(q|q)|q
   ·show .inl q
   ·show .inr (.inl q)
   ·show .inr (.inr (.inl q))
   ·show .inr (.inr (.inr ⟨hs b ((a b).mpr (.inr (b1 b q))),λz=>f b z (b1 b q)⟩))
   ·show .inr (.inr (.inr ⟨q.1,λz=>q.2 ((a b).mpr (.inl z))⟩))
  ·rcases i b z with q|q|(q|q)|q
   ·show .inl q
   ·show .inr (.inl q)
   ·show .inr (.inr (.inr ⟨hs b ((a b).mpr (.inl (e b q))),λz=>f b (e b q) z⟩))
   ·show .inr (.inr (.inl q))
   ·show .inr (.inr (.inr ⟨q.1,λz=>q.2 ((a b).mpr (.inr z))⟩))
theorem VRs.node{kds:List KD}{hd:Hd}(w:sw es r kds=Se)(m:MuOk H0 (Sg g))(s:Same H0 H)(h:VRs K g H0 H kds vs)(c:H p=Sd)(t:d4 K o hd vs)(hm:hd.mu=Se) :
  VR K g H0 (upd H p o) (.fr (.own es r)) (.nd hd (kds.map (·.2))) (.ref p):=by
 obtain⟨F,l,d⟩:=h
 let f:∀b,F b->g b=Sd:=λb z=>by
  cases e:g b with
  |none=>rfl
  |some i=>
   obtain⟨o,q,_⟩:=m b (by rw[Sg,e];show λh=>by cases h);rw[l b z] at q;cases q
 let v:MuOk H (Sx g F):=λb z=>z.elim (λz=>m.same s b z) (λz=>d.dom b z);obtain⟨a,k,u⟩:=d.fit w v f λb z=>z
 let x:¬a p:=λz=>by
  obtain⟨o,q,_⟩:=d.dom p (k p z);rw[c] at q;cases q
 show⟨λb=>b=p\/a b,λb z=>z.elim (λz=>z▸s.free c) λz=>l b (k b z),?_⟩;change Tr _ _ _ _ _ _ _;unfold Tr;show⟨p,o,vs,a,rfl,ah,t,λ_=>x,λh=>by (rw[hm] at h;cases h),λb=>⟨λz=>z.imp (λz=>⟨hm,z⟩) id,λz=>z.imp (λz=>z.2) id⟩,?_⟩;show(u (λb=>g b≠Sd\/a b) λb z=>.inr (z.imp id λz=>.inl z)).go (λb j _ e=>aj c b j e) λb j e n z=>?_;rcases z with z|z|z
 ·show n (.inl z)
 ·subst z;rw[c] at e;cases e
 ·show n (.inr z)
theorem VRs.tupO{kds:List KD}(v:sw es r kds=Se)(m:MuOk H0 (Sg g))(s:Same H0 H)(h:VRs K g H0 H kds vs)(d:H p=Sd) :
  VR K g H0 (upd H p (.tup vs)) (.fr (.own es r)) (.tup (kds.map (·.2))) (.ref p):=by
 obtain⟨F,l,c⟩:=h
 let f:∀b,F b->g b=Sd:=λb z=>by
  cases e:g b with
  |none=>rfl
  |some i=>
   obtain⟨o,q,_⟩:=m b (by rw[Sg,e];show λh=>by cases h);rw[l b z] at q;cases q
 let u:MuOk H (Sx g F):=λb z=>z.elim (λz=>m.same s b z) (λz=>c.dom b z);obtain⟨a,k,t⟩:=c.fit v u f λb z=>z
 let w:¬a p:=λz=>by
  obtain⟨o,q,_⟩:=c.dom p (k p z);rw[d] at q;cases q
 show⟨a,λb z=>l b (k b z),?_⟩;change Tr _ _ _ _ _ _ _;unfold Tr
 show⟨p,_,vs,a,rfl,ah,rfl,(λh=>nomatch h),λ_ z=>?_,λb=>⟨λz=>.inr z,λz=>z.elim (λz=>nomatch z.1) id⟩,?_⟩
 ·rcases z with z|z
  ·obtain⟨o,q,_⟩:=m.same s p z;rw[d] at q;cases q
  ·show w z
 ·show(t (λb=>g b≠Sd\/a b) λb z=>.inr (z.imp id λz=>.inl z)).go (λb j _ e=>aj d b j e) λb j e n z=>n z
end
def x9(k:Ow)(a:Option (List KD)):Option KD:=match a with
 |some kds=>(match k with|.own es r=>if sw es r kds=Se/\kds.length<=100000 then Sb (.fr (.own es r),.lst (kds.map (·.2))) else Sd|.fz=>Sd)
 |none=>Sd
def iC(k:Ow)(a:Option (List KD)):Option KD:=match a with
 |some kds=>(match k with
  |.own es r=>if sw es r kds=Se/\kds.length<=100000 then Sb (.fr (.own es r),.tup (kds.map (·.2))) else Sd
  |.fz=>if(kds.all λp=>i7 p.1 p.2)=Se/\kds.length<=100000 then Sb (.sh,.tup (kds.map (·.2))) else Sd)
 |none=>Sd
section
variable {X:Cx} {Z:fA} {c:Cz}
theorem VRs.len{kds:List KD}{vs:List V}(h:VRs K g H0 H kds vs):vs.length=kds.length:=by
 have:=h.rd.len;rw[On] at this;show this
theorem Jd{f:Ro->Option (List KD)}(l:kZ X f es):SndE X (λY=>x9 k (f Y)) (.List es pos):=by
 intro Y n d h g U H Q j q;dsimp only[x9] at h;split at h
 ·ext a e;split at h
  ·split at h
   ·ext b;cases h;show ar (EG cW) (l Y a e g U H _ j λo m s1 c=>⟨by rw[c.len];show aJ b.2,λp i=>?_⟩);show q _ _ (s1.trans (aj i)) (c.node b.1 j.mu s1 i rfl rfl)
   ·cases h
  ·cases h
 ·cases h
theorem Je{f:Ro->Option (List KD)}(l:kZ X f es):SndE X (λY=>iC k (f Y)) (.Tuple es n pos):=by
 intro Y r d h g U H Q j q;dsimp only[iC] at h;split at h
 ·ext i e;split at h
  ·split at h
   ·ext a;cases h;show ar (nM cW) (l Y i e g U H _ j λo m s1 b=>⟨by rw[b.len];show aJ a.2,λp c=>?_⟩);show q _ _ (s1.trans (aj c)) (b.tupO a.1 j.mu s1 c)
   ·cases h
  ·split at h
   ·ext a;cases h;show ar (nM cW) (l Y i e g U H _ j λo m s1 b=>⟨by rw[b.len];show aJ a.2,λp c=>?_⟩);show q _ _ (s1.trans (aj c)) ((IN (j.mu.same s1) c (b.sh a.1 j.mu s1)).older s1)
   ·cases h
 ·cases h
noncomputable def dA:Si->Bool
 |.Slice ..=>Sf
 |_=>Se
theorem ce(h:dA b=Se):uf b:=by
 intro o i
 cases b<;>first|rfl|cases h
def ya(z:Str)(i:Int):Option Str:=(L2.o6 z.cps.toList i).map λc=>⟨#[c]⟩
def KS(k:Kd)(xs:List D)(i:Int):Option KD:=match kf xs.length i with|some j=>(xs[j]?).map λd=>(o9 k j,d)|none=>Sd
def L4(k:Kd)(x:D)(i:Int):Option KD:=match x with
 |.nd hd xs=>(match hd with|.lst=>KS k xs i|.tup=>KS k xs i|_=>Sd)
 |.scr ns=>(L2.o6 ns i).map λd=>(.sh,.int d)
 |.str z=>if z.length<=100000 then(ya z i).map λd=>(.sh,.str d) else Sd
 |_=>Sd
noncomputable def EX(x:D):Option (Nat×List DK×List D):=match x with
 |.nd hd xs=>(match hd with|.dic t ks=>Sb (t,ks,xs)|_=>Sd)
 |_=>Sd
def sA(k:Kd)(p:Nat×List DK×List D)(y:D):Option KD:=match j3 y with
 |some q=>if jg p.1 q=Se then(match aH p.2.1 q with|some j=>(p.2.2[j]?).map λd=>(o9 k j,d)|none=>Sd) else Sd
 |none=>Sd
def EY(x y:KD):Option KD:=match EX x.2 with
 |some p=>sA x.1 p y.2
 |none=>(match y.2 with|.int i=>L4 x.1 x.2 i|_=>Sd)
def sB(a b:Option KD):Option KD:=match a with
 |some x=>(match b with|some y=>EY x y|none=>Sd)
 |none=>Sd
def yb(f:Str)(a:Option KD):Option KD:=match a with
 |some (ka,.nd (.obj _ ns) xs)=>(match bm f ns with|some j=>(xs[j]?).map λd=>(o9 ka j,d)|none=>Sd)
 |_=>Sd
theorem sC{v:V}:∀{a:List Str} {us:List V} {j:Nat},bm f a=Sb j->us[j]?=Sb v->(a.zip us).lookup f=Sb v
 |[],_,_,h,_=>by cases h
 |_::_,[],_,_,e=>by simp at e
 |n::a,u::us,j,h,e=>by
  unfold bm at h;rw[PY,OU];split at h
  ·ext hn;cases h;rw[hn,beq_self_eq_true];simpa using e
  ·ext hn;obtain⟨c,b,rfl⟩:=Rg.mp h;rw[beq_eq_false_iff_ne.mpr hn];show sC b (by simpa using e)
theorem Jf{b:Ro->Option KD}(w:attributeBase a f X.env (eval a X.env)=eval a X.env)(m:SndE X b a):SndE X (λY=>yb f (b Y)) (.Attribute a f pos):=by
 intro Y E d h g U H Q z q;dsimp only[yb] at h;split at h
 ·ext F c D u r;split at h
  ·ext j i
   cases e:u[j]? with
   |none=>rw[e] at h;cases h
   |some B=>
    rw[e] at h;cases h;show ar (xx aw w) (m Y _ _ r g U H _ z λx l s A=>?_);obtain⟨p,o,K,rfl,k,q1,I,c1⟩:=A.ch;obtain⟨C,y,_,⟨t,n⟩,rfl,_⟩:=q1;obtain⟨v,e1,e2⟩:=c1 j _ e;show⟨p,C,y,_,v,rfl,k,t,n f (OK (aZ i)),sC i e1,q v l s e2⟩
  ·cases h
 ·cases h
theorem Bd{α β:Type}(f:α->β)(xs:List α)(i:Int):L2.o6 (xs.map f) i=(L2.o6 xs i).map f:=by
 unfold L2.o6;rw[On]
 cases kf xs.length i with
 |none=>rfl
 |some j=>simp
theorem yc{α β:Type}{o:Option α}{g:α->β}{b:β}(h:o.map g=Sb b):∃a,o=Sb a/\b=g a:=by
 cases o with
 |none=>cases h
 |some a=>cases h;show⟨a,rfl,rfl⟩
theorem yd{xs:List D}{i:Int}{r:KD}(h:KS k xs i=Sb r):∃j,kf xs.length i=Sb j/\xs[j]?=Sb r.2/\r.1=o9 k j:=by
 unfold KS at h
 cases e:kf xs.length i with
 |none=>rw[e] at h;cases h
 |some j=>
  rw[e] at h;obtain⟨d,e1,e2⟩:=yc h;show⟨j,rfl,by rw[e1,e2],by rw[e2]⟩
theorem Be{p:Nat×List DK×List D}{r:KD}(h:sA k p y=Sb r):∃q j,j3 y=Sb q/\jg p.1 q=Se/\aH p.2.1 q=Sb j/\p.2.2[j]?=Sb r.2/\r.1=o9 k j:=by
 unfold sA at h
 cases e:j3 y with
 |none=>rw[e] at h;cases h
 |some q=>
  rw[e] at h;by_cases a:jg p.1 q=Se
  ·dsimp only at h;rw[if_pos a] at h
   cases e1:aH p.2.1 q with
   |none=>rw[e1] at h;cases h
   |some j=>
    rw[e1] at h;obtain⟨d,e2,e3⟩:=yc h;show⟨q,j,rfl,a,e1,by rw[e2,e3],by rw[e3]⟩
  ·dsimp only at h;rw[if_neg a] at h;cases h
theorem Bf{p:Nat×List DK×List D}(h:EX x=Sb p):x=.nd (.dic p.1 p.2.1) p.2.2:=by
 cases x with
 |nd a c=>cases a with
  |dic t b=>cases h;rfl
  |_=>cases h
 |_=>cases h
theorem uz{x y r:KD}(h:EY x y=Sb r):(∃i,y.2=.int i/\L4 x.1 x.2 i=Sb r)\/∃p,x.2=.nd (.dic p.1 p.2.1) p.2.2/\sA x.1 p y.2=Sb r:=by
 unfold EY at h
 cases e:EX x.2 with
 |some p=>rw[e] at h;show .inr ⟨p,Bf e,h⟩
 |none=>
  rw[e] at h;obtain⟨b,a⟩:=y
  cases a with
  |int i=>show .inl ⟨i,rfl,h⟩
  |_=>cases h
theorem uA{Q:VK}(h:L4 k dx i=Sb (kd,d))(b:VR K g H0 H2 k dx vx)(q:∀v,VR K g H0 H2 kd d v->Q v H2):Np K vx (.int i) H2 Q:=by
 cases dx with
 |nd r t=>cases r with
  |lst=>
   obtain⟨j,l,e,rfl⟩:=yd h;obtain⟨p,o,n,rfl,a,q1,m,c1⟩:=b.ch;cases(q1);obtain⟨v,e1,e2⟩:=c1 j _ e;show .inl ⟨p,n,i,v,rfl,rfl,.of a,by unfold L2.o6;rw[m,l];show e1,q v e2⟩
  |tup=>
   obtain⟨j,l,e,rfl⟩:=yd h;obtain⟨p,o,n,rfl,a,q1,m,c1⟩:=b.ch;cases(q1);obtain⟨v,e1,e2⟩:=c1 j _ e;show .inr (.inl ⟨p,n,i,v,rfl,rfl,.of a,by unfold L2.o6;rw[m,l];show e1,q v e2⟩)
  |_=>cases h
 |scr u=>
  obtain⟨f,e,s⟩:=yc (h);cases s;obtain⟨p,rfl,a⟩:=b.rd.scr;show .inl ⟨p,_,i,.int f,rfl,rfl,a,by rw[Bd,e];rfl,q _ k8⟩
 |str z=>
  by_cases c:z.length<=100000
  ·let h:(ya z i).map _=Sb (kd,d):=(if_pos c).symm.trans h;unfold ya at h
   cases e:L2.o6 z.cps.toList i with
   |none=>rw[e] at h;cases h
   |some f=>
    rw[e] at h;cases h;obtain rfl:=b.rd.str;show .inr (.inr ⟨z,i,f,rfl,rfl,aJ c,e,q _ A7⟩)
  ·cases(if_neg c).symm.trans h
 |_=>cases h
theorem p6{p:Nat×List DK×List D}{Q:VK}(h:sA k p dy=Sb (kd,d))(m:VR K g H0 H2 k (.nd (.dic p.1 p.2.1) p.2.2) vx)(c:VR K g H0 H2 ky dy vy)(q:∀v,VR K g H0 H2 kd d v->Q v H2):∃b v,vx=.ref b/\DGet H2 b vy (Sb v)/\Q v H2:=by
 obtain⟨t,j,n,f,e,l,rfl⟩:=Be h;obtain⟨b,o,s,rfl,i,q1,r,c1⟩:=m.ch;obtain⟨v,e1,e2⟩:=c1 j _ l;let a:=ux i q1 n c.rd f;rw[e,Pe,e1] at a;show⟨b,v,rfl,a,q v e2⟩
theorem L5(O:av X Z c){k n:Ro->Option KD}(u:SndE X k a)(w:SndE X n b)(z:dA b=Se):SndE X (λY=>sB (k Y) (n Y)) (.Subscript a b pos):=by
 intro Y K d h g U H Q A q;dsimp only[sB] at h
 cases f:k Y with
 |none=>rw[f] at h;cases h
 |some x=>cases j:n Y with
  |none=>rw[f,j] at h;cases h
  |some y=>
   rw[f,j] at h;obtain⟨E,I⟩:=x;obtain⟨D,F⟩:=y;rcases uz h with⟨i,e,o⟩|⟨p,e,o⟩
   ·cases(e);show ar (ug nP aw aw (ce z)) (two u w f j A λC B m s t l=>?_);obtain rfl:=l.rd.int;show uA o t λv r=>q v m s r
   ·cases(e);show ar (nS (by have:=O.tab.units;lia) aw aw (ce z)) (two u w f j A λC B m s t l=>p6 o t l λv r=>q v m s r)
def jh(xs:List D)(lo hi:Option Int):List D:=(xs.drop (HT.jZ xs.length 0 lo)).take (HT.jZ xs.length xs.length hi-HT.jZ xs.length 0 lo)
theorem RpL.cut(h:RpL K H S ds vs)(lo hi:Option Int):RpL K H S (jh ds lo hi) (xB vs lo hi):=by
 unfold jh xB;rw[h.len];show(h.drop _).take _
def wO(X:Cx)(e:Option Si):TO:=λU H Q=>∃t,PO X e t/\t U H Q
theorem Bg:PO X e (wO X e):=λa s U H Q I h=>let ⟨t,p,q⟩:=h;p a s U H Q I q
def yf(X:Cx)(f:Ro->Option (Option Int))(e:Option Si):Prop:=∀Y o,f Y=Sb o->∀g U H Q,SE X.K g Y U H->(∀H',Same H H'->Q o H')->wO X e U H Q
noncomputable def Bh(a:Option KD):Option (Option Int):=match a with|some (_,.int i)=>Sb (Sb i)|_=>Sd
theorem EZ:yf X (λ_=>Sb Sd) Sd:=λY o h g U H Q a q=>by cases h;show⟨_,AV,q H (Same.refl H)⟩
theorem E1{f:Ro->Option KD}(b:SndE X f e):yf X (λY=>Bh (f Y)) (Sb e):=λY o h g U H Q d q=>by
 dsimp only[Bh] at h;split at h
 ·ext k i c;cases h;show⟨_,AW aw,b Y _ _ c g U H _ d λv a s r=>⟨i,r.rd.int,q a s⟩⟩
 ·cases h
def HI(a:Option KD)(lo hi:Option (Option Int)):Option KD:=match a,lo,hi with
 |some (ka,.nd .lst xs),Sb l,Sb u=>if jd ka xs=Se then Sb (.fr bJ,.lst (jh xs l u)) else Sd
 |some (_,.scr ns),Sb l,Sb u=>Sb (.fr bJ,.lst (jh (ns.map .int) l u))
 |_,_,_=>Sd
theorem L6{s:Ro->Option KD}{w v:Ro->Option (Option Int)}(t:SndE X s a)(hl:yf X w lo)(y:yf X v hi):SndE X (λY=>HI (s Y) (w Y) (v Y)) (.Subscript a (.Slice lo hi Sd p2) pos):=by
 intro Y E d h g U H Q c q;dsimp only[HI] at h;split at h
 ·ext B F l u j m k;split at h
  ·ext hk;cases h;show ar (pH uh aw Bg Bg) (t Y _ _ j g U H _ c λx i s1 n=>hl Y _ m g U i _ (c.same s1) λf s2=>y Y _ k g U f _ ((c.same s1).same s2) λA s3=>?_);obtain⟨p,o,D,rfl,e,q1,r⟩:=((n.same s2).same s3).items hk c.mu ((s1.trans s2).trans s3);cases(q1);show⟨p,D,rfl,.of e,λC b=>q _ _ (((s1.trans s2).trans s3).trans (aj b)) ((sr b (r.cut l u)).older ((s1.trans s2).trans s3))⟩
  ·cases h
 ·ext B z l u j m k;cases h;show ar (pH uh aw Bg Bg) (t Y _ _ j g U H _ c λx i s1 n=>hl Y _ m g U i _ (c.same s1) λf s2=>y Y _ k g U f _ ((c.same s1).same s2) λA s3=>?_);obtain⟨p,rfl,e⟩:=((n.same s2).same s3).rd.scr;show⟨p,_,rfl,e,λC b=>q _ _ (((s1.trans s2).trans s3).trans (aj b)) ((sr b ((RpL.ints z).cut l u)).older ((s1.trans s2).trans s3))⟩
 ·cases h
end
end J
namespace G
open PyProof.Rows
def Jg(x:Int):List Int->List Int
 |[]=>[x]
 |y::ys=>if x<y then x::y::ys else if x=y then y::ys else y::Jg x ys
def Jh(xs:List Int):List Int:=xs.foldr Jg []
theorem sG:typeLookup (.type "list_reverseiterator") "__len__" = pure Sd:=by rw[typeLookup_type,builtinLookup_eq_fast];kernel_rfl
theorem yg:typeLookup (.type "list_reverseiterator") "__length_hint__" = pure (Sb (.builtin "list_reverseiterator.__length_hint__")):=by rw[typeLookup_type,builtinLookup_eq_fast];kernel_rfl
section
variable {prog:Sr} {w:Ss} {A:Sv} {E:Sh->Sk->Prop} {s:Sk} {R:Result->Sk->Prop}
theorem sH{c:Array Sh}(y:A.handled=Sd)(p:l≠it)(j:S≠it)(o:S≠l)(g:s.heap.IsRevIter it l ((c.size:Int)-1)/\s.heap.IsList l c)(z:s.heap.get? S=Sb { cls:=.type "list",data:=.seq #[] c₀ })(r:c.size<=100000)(x:∀s' d h,Moved [S,it] (λa b=>b=a) s s'->s'.heap.get? S=Sb { cls:=.type "list",dict:=Sd,data:=.seq d h,slots:=#[] }->ItemsOf (λi v=>c[c.size-1-i]?=Sb v) d c.size->R (.ok (.ret .none)) s') :
  Sq (So prog w) A.in1 (Builtin.List.listExtendWith (.ref S) (.ref it) .none)
   (λq s'=>match q with|.done f=>R (.ok f) s'|.again h=>h.quiet=Se/\codeAny (So prog w) A h R s') (λe s'=>R (.error e) s') s:=by
 let W:=(Walks.listRev (prog:=prog) (w:=w) (A:=A.in1) (by simpa using y) it l p c).toS;let m:s.TypeIs (.ref it) "list_reverseiterator":=g.1.typeIs;unfold Builtin.List.listExtendWith;show Sm (wpAny_typeOf m ?_);let B:Builtin.List.listSameRef (.ref S) (.ref it)=Sf:=by simp[Builtin.List.listSameRef,j]
 let t:(Value.type "list_reverseiterator" == Value.type "list")=Sf:=by decide
 let u:(Value.type "list_reverseiterator" == Value.type "tuple")=Sf:=by decide
 simp only[B,t,u,Ry,O8,if_false];show Sm (wpAny_pyIter_revIter g.1 ?_);show Sm (SB ?_);unfold Builtin.List.listLengthHint;show Sm (wpAny_specialOf m sG ?_);show Sm (wpAny_specialOf m yg ?_)
 wp_delta
 show Sm (wpAny_isInstance (b:=Se) m (by rw[isSubtype_type];kernel_rfl) ?_);show Sn ?_;rw[if_neg (by decide)];show Sn ⟨plainId_quiet PySem.F.plain_extend_loop _,codeAny_extend_loopS W (by rw[sizeLine_eq];lia) _ (by simp[j,o]) _ c.size 0 _ _ _ rfl (OS _) ⟨OS _,by simpa using g.1,g.2⟩ z (ItemsOf.nil _) λs' d h hm n k=>x s' d h hm n k⟩
theorem mj{it l:Sj}{a:Array Sh}{Q:Sh->Sk->Prop}(R:A.handled=Sd)(u:l≠it)(h:s.heap.IsRevIter it l ((a.size:Int)-1)/\s.heap.IsList l a)(x:a.size<=100000)
  (hQ:∀n P c B,(∀b o,b≠it->s.heap.get? b=Sb o->n.get? b=Sb o)->n.get? s.heap.objs.size=Sb { cls:=.type "list",dict:=Sd,data:=.seq c B,slots:=#[] }->c.toList=a.toList.reverse->Q (.ref s.heap.objs.size) { s with heap:=n,toks:=P }) :
  Sq (So prog w) A (call (.type "list") [.ref it]) Q E s:=by
 show callType_codes (Q₁:=λk D=>k=.ref s.heap.objs.size/\D={ s with heap:=s.heap.push { cls:=.type "list",data:=.seq #[] } }) PySem.F.called_list (PySem.F.typeCall_list_1 _) PySem.F.entry_list_init
  (code_list_new _ ⟨rfl,rfl⟩) λk D I=>?_
 obtain⟨rfl,rfl⟩:=I;let r:(s.heap.push { cls:=.type "list",data:=.seq #[] }).get? s.heap.objs.size=Sb { cls:=.type "list",data:=.seq #[] }:=OJ _ rfl;obtain⟨H,p,M⟩:=id h.1;obtain⟨O,q,S⟩:=id h.2;let m:it<s.heap.objs.size:=Os p;let j:l<s.heap.objs.size:=Os q;show⟨⟨_,r,rfl⟩,PySem.F.args_list_init_2 _ _,?_⟩;show Sm ?_;unfold Builtin.List.listItems;show Sm (wpAny_seqItems r rfl (Sn ?_));show Sm (wpAny_updateSeq r rfl ?_);let t:=Rk (Obj.mapSeq (λ_=>(#[]:Array Sh))) r rfl
 let f:∀b o,b≠s.heap.objs.size->s.heap.get? b=Sb o->((s.heap.push { cls:=.type "list",data:=.seq #[] }).update s.heap.objs.size (Obj.mapSeq (λ_=>(#[]:Array Sh)))).get? b=Sb o:=
  λb o y e=>(Qx _ _ (Ne.symm y)).trans (Oq _ e)
 show Sm (wpAny_letGo ?_);show sH (by simpa using R) u (PB m) (PB j) ⟨⟨H,f _ _ (OG m) p,M⟩,⟨O,f _ _ (OG j) q,S⟩⟩ t x λK c B hm z d=>?_;obtain⟨n,N,L,v,C⟩:=K;obtain rfl:N=s.gens:=hm.gens;obtain rfl:L=s.drawn:=hm.drawn;obtain rfl:C=s.os:=hm.os;show⟨rfl,hQ n v c B (λb o y e=>hm.heap b o (by simp only[OD,O0,or_false,not_or];show⟨OG (Os e),y⟩) (f b o (OG (Os e)) e)) z ?_⟩;show Qu λi=>?_;let T:c.toList.length=a.size:=by rw[PR,d.1]
 rcases Nat.lt_or_ge i a.size with g|g
 ·let hi:i<c.size:=by rw[d.1];show g
  have:=d.2 i c[i] (QT hi);rw[List.getElem?_reverse (by simpa using g),Rn,Rn,QT hi,PR,this]
 ·rw[O7 (by lia),O7 (by simpa using g)]
end
section
variable {X:Cx}
def Ji(X:Cx)(ta:TA):TE:=λU H Q=>ta U H λvs H1=>∃l xs,vs=[.ref l]/\SqL X.K H1 l xs/\xs.length<=100000/\∀p,H1 p=Sd->Q (.ref p) (upd H1 p (.lst xs.reverse))
theorem p7:∀{xs:List V} {vs:List Sh},Vals xs vs->Vals xs.reverse vs.reverse
 |_,_,.nil=>.nil
 |_,_,.cons h t=>by
  rw[RU,RU];show(p7 t).append (.cons h .nil)
theorem Bi{a:Si}(K:X.calm=Se)(Y:Gl X "list")(hm:X.mg "list" = Sd)(v:Gl X "reversed")(x:X.mg "reversed" = Sd)(C:PA X [a] ta)(z:Sy [a] X.env=[(Sf,eval a X.env)])(m:Sy [.Call (.Name "reversed" p2) [a] [] pos2] X.env=[(Sf,eval (.Call (.Name "reversed" p2) [a] [] pos2) X.env)]:=by rfl) :
  PE X (.Call (.Name "list" p) [.Call (.Name "reversed" p2) [a] [] pos2] [] pos) (Ji X ta):=by
 intro f s U H Q I h;show Call_ (dJ I Y hm boot_list (PyProof.Rows.callWith_type1 ?_ m rfl));rw[m];show Calls.spliced_cons ?_;show Call_ (dJ I v x PyProof.Rows.boot_reversed (PyProof.Rows.callWith_type1 (bd (C pos2 f s U H _ I h) λus s1 ⟨Z,E,n,N,l,r,e,V,B,q⟩=>?_) z rfl));subst e;obtain⟨u,rfl,F⟩:=N.one;cases F;obtain⟨c,y,P,_⟩:=n.list V;let k:c.length=r.length:=y.length.symm;let T:X.A.handled=Sd:=n.ok.hd K;let d:=P.isList;let R:l<s1.heap.objs.size:=by obtain⟨o,L,_⟩:=id d;show Os L
 show call_reversed_list d (Calls.spliced_nil ?_);let S:(s1.heap.push (revObj l ((c.toArray.size:Int)-1))).objs.size=s1.heap.objs.size+1:=Pn ..;show mj T (OG R) ⟨⟨_,OJ _ rfl,rfl,rfl⟩,d.push _⟩ (by rw[OC,k];show B) λM tk i O W t j=>?_;let g:s1.heap.objs.size<=(s1.heap.push (revObj l ((c.toArray.size:Int)-1))).objs.size:=by rw[S];show Qa _
 let D:ObjOk X.prog X.w (upd E (s1.heap.push (revObj l ((c.toArray.size:Int)-1))).objs.size (.lst r.reverse)) M (s1.heap.push (revObj l ((c.toArray.size:Int)-1))).objs.size (.lst r.reverse):=
  ⟨by rw[List.length_reverse,sizeLine_eq];lia,i.toList,O,by rw[j];show p7 y,by simpa using t⟩
 show⟨.ref (s1.heap.push (revObj l ((c.toArray.size:Int)-1))).objs.size,_,n.laid (λb o e=>W b o (OG (Os e)) (Oq _ e)) g D,rfl,q _ (n.hok.fresh g)⟩
end
end G
namespace J
section
variable {X:Cx}
theorem ml(y:X.calm=Se):fB X (.builtin "all") (λxs H Q=>∃(p:Sj) (bs:List Bool),xs=[.ref p]/\SqL X.K H p (bs.map V.bl)/\Q (.bl (bs.all id)) H):=by
 intro t s U H xs T Q I r h;obtain⟨p,bs,rfl,F,q⟩:=h;obtain⟨u,rfl,L⟩:=kO r;cases L;obtain⟨a,k,j,N⟩:=I.list F;let d:=k.length;let E:X.A.in1.handled=Sd:=I.ok.hd y
 let f:p≠s.heap.objs.size:=by
  obtain⟨o,n,e,_⟩:=j;show OG (Os e)
 show call_all_walk (SN j.isList ?_)
 let B:(s.heap.push { cls:=.type "list_iterator",data:=.fields #[.ref p,.int 0 0] }).IsList p a.toArray:=by
  obtain⟨o,e,r⟩:=j.isList;show⟨o,Oq _ e,r⟩
 show⟨s.heap.objs.size,_,_,_,_,_,λi=>(bs[i]?).getD Sf,rfl,Walks.list E s.heap.objs.size p f a.toArray,⟨⟨_,OJ _ rfl,rfl,rfl⟩,B⟩,λi v M S O C w=>?_,λR P hk=>?_⟩
 ·let c:a[i]?=Sb v:=by simpa using C
  cases g:bs[i]? with
  |none=>
   let l:(bs.map V.bl)[i]?=Sd:=by rw[Op,g];rfl
   rw[k.none_of l] at c;cases c
  |some b=>
   let l:(bs.map V.bl)[i]?=Sb (.bl b):=by rw[Op,g];rfl
   obtain⟨u,e1,e2⟩:=k.get l;rw[c] at e1;cases e1;cases e2;simp only[g,RY] at w;show SL w
 ·let e:((O9 a.toArray.size).all λi=>(bs[i]?).getD Sf)=bs.all id:=by
   let hl:a.toArray.size=bs.length:=by rw[OC,<- d,On]
   rw[hl,Bool.eq_iff_iff];simp only[Pw,P5,id];constructor
   ·intro h x D;obtain⟨i,hi,rfl⟩:=List.mem_iff_getElem.mp D;have:=h i hi;rw[Ot hi] at this;show this
   ·intro h i hi;rw[Ot hi];show h _ (RZ hi)
  rw[e];show⟨.bl (bs.all id),H,I.kept λb o m=>hk b o (λz=>?_) (Oq _ m),rfl,q⟩;have:b=s.heap.objs.size:=by simpa using z
  show absurd (this▸Os m) (Pa _)
theorem p8:fB X (.builtin "isinstance") (λxs H Q=>∃x T t b,xs=[x,.ty T]/\rU X.K H x t/\PP X.K t (.type T)=Sb b/\Q (.bl b) H):=by
 intro a s U H xs j Q I r h;obtain⟨x,T,t,b,rfl,d,e,q⟩:=h;obtain⟨u,g,rfl,c,f⟩:=xv r;cases f;show wb I c d e λi=>⟨.bl b,H,I.tok _,rfl,q⟩
theorem wz:fB X (.type "int") (λxs H Q=>∃b:Bool,xs=[.bl b]/\Q (.int (if b then 1 else 0)) H):=by
 intro a s U H xs d Q I r h;obtain⟨b,rfl,q⟩:=h;obtain⟨u,rfl,c⟩:=kO r;cases c;show call_int_bool ⟨.int _,H,I.tok _,⟨_,rfl⟩,q⟩
end
noncomputable def Bj:D->Option Nat
 |.nd .lst ds=>Sb ds.length
 |.nd .tup ds=>Sb ds.length
 |.scr ns=>Sb ns.length
 |_=>Sd
noncomputable def dB:List D->Option (List Bool)
 |[]=>Sb []
 |.bl b::r=>(dB r).map (b::·)
 |_=>Sd
theorem lg:∀{ds:List D} {bs:List Bool},dB ds=Sb bs->ds=bs.map D.bl
 |[],bs,h=>by cases h;rfl
 |d::r,bs,h=>by
  cases d<;>simp only[dB] at h<;>try cases h
  ext b
  cases e:dB r with
  |none=>rw[e] at h;cases h
  |some a=>rw[e] at h;cases h;rw[lg e];rfl
theorem jK:∀a:List Bool,dB (a.map D.bl)=Sb a
 |[]=>rfl
 |n::a=>by simp[dB,jK a]
theorem RpL.bools:∀{bs:List Bool} {vs:List V},RpL K H S (bs.map D.bl) vs->vs=bs.map V.bl
 |[],_,h=>h.nil_inv
 |b::bs,_,h=>by
  obtain⟨y,a,rfl,r,t⟩:=h.cons_inv;rw[r.bl,RpL.bools t];rfl
def yh(kds:List KD):Option KD:=match kds with|[(_,d)]=>(Bj d).map λn=>(.sh,.int n)|_=>Sd
def E2(kds:List KD):Option KD:=match kds with|[(_,.nd .lst ds)]=>(dB ds).map λbs=>(.sh,.bl (bs.all id))|_=>Sd
def yj(kds:List KD):Option KD:=match kds with
 |[(k,.nd .lst ds)]=>if jd k ds=Se then Sb (.fr bJ,.lst ds) else Sd
 |[(k,.nd .tup ds)]=>if jd k ds=Se then Sb (.fr bJ,.lst ds) else Sd
 |[(_,.scr ns)]=>Sb (.fr bJ,.lst (ns.map D.int))
 |_=>Sd
def N5(kds:List KD):Option KD:=match kds with|[(_,.int i)]=>if i.natAbs.log2<1920 then Sb (.sh,.str (toString i)) else Sd|_=>Sd
def E3(kds:List KD):Option KD:=match kds with|[(_,.nd .lst ds)]=>(toInts ds).map λq=>(.sh,.int q.sum)|[(_,.scr q)]=>Sb (.sh,.int q.sum)|_=>Sd
noncomputable def E4(kds:List KD):Option KD:=match kds with
 |[(_,.int i),(_,.int j)]=>Sb (.sh,.int (if j<i then j else i))
 |_=>Sd
noncomputable def E5(kds:List KD):Option KD:=match kds with
 |[(_,.int i),(_,.int j)]=>Sb (.sh,.int (if j > i then j else i))
 |_=>Sd
def N6(a b:Option KD):Option KD:=match a,b with
 |some (_,.nd .lst ds),Sb (_,.int k)=>(match toInts ds with|some ns=>(match ns.findIdx? (·==k) with|some j=>Sb (.sh,.int j)|none=>Sd)|none=>Sd)
 |_,_=>Sd
noncomputable def E6(kds:List KD):Option KD:=match kds with|[(_,.bl b)]=>Sb (.sh,.int (if b then 1 else 0))|_=>Sd
noncomputable def Bk:ay->D
 |.inl i=>.int i
 |.inr x=>.str x
noncomputable def Nr:D->Option ay
 |.int z=>Sb (.inl z)
 |.str x=>Sb (.inr x)
 |_=>Sd
theorem E7:∀{d:D} {k:ay},Nr d=Sb k->d=Bk k
 |.int _,_,h=>by cases h;rfl
 |.str _,_,h=>by cases h;rfl
 |.non,_,h=>by cases h
 |.bl _,_,h=>by cases h
 |.scr _,_,h=>by cases h
 |.nd _ _,_,h=>by cases h
theorem Bl:∀{k:ay} {v:V},Rp K H S (Bk k) v->v=kV k
 |.inl _,_,h=>h.int
 |.inr _,_,h=>h.str
def gu:List D->Option (List (ay×D))
 |[]=>Sb []
 |d::r=>match d with
  |.nd .tup ds=>(match ds with
   |[a,x]=>(match Nr a with|some z=>(gu r).map ((z,x)::·)|none=>Sd)
   |_=>Sd)
  |_=>Sd
theorem li:∀{ds:List D} {ps:List (ay×D)},gu ds=Sb ps->ds=ps.map λp=>D.tup [Bk p.1,p.2]
 |[],ps,h=>by cases h;rfl
 |d::r,ps,h=>by
  unfold gu at h;split at h
  ·split at h
   ·split at h
    ·ext b
     obtain⟨a,c,rfl⟩:∃a,gu r=Sb a/\ps=_::a:=by
      cases e:gu r with
      |none=>rw[e] at h;cases h
      |some a=>rw[e] at h;cases h;show⟨a,rfl,rfl⟩
     rw[li c,E7 b];rfl
    ·cases h
   ·cases h
  ·cases h
noncomputable def Jj(ps:List (ay×D)):D:=.nd (.dic 0 (ps.map λp=>Sum.inl p.1)) (ps.map (·.2))
def yk(kds:List KD):Option KD:=match kds with
 |[(k,.nd .lst ds)]=>if jd k ds=Se then(match gu ds with|some ps=>if(ps.map (·.1)).Nodup/\ps.length<=100000 then Sb (.fr bJ,Jj ps) else Sd|none=>Sd) else Sd
 |_=>Sd
theorem Dg{H:Hp}{hd:Hd}(hm:hd.mu=Se)(c:d4 K o hd xs)(a:H p=Sd)(r:RpL K H (Sg g) ds xs):VR K g H (upd H p o) (.fr bJ) (.nd hd ds) (.ref p):=by
 show⟨λb=>b=p,λb z=>z▸a,?_⟩;change Tr K _ _ _ _ _ _;unfold Tr;show⟨p,_,xs,λ_=>False,rfl,ah,c,λ_ z=>z,(λh=>by rw[hm] at h;cases h),λb=>⟨λz=>.inl ⟨hm,z⟩,λz=>z.elim (λz=>z.2) λz=>z.elim⟩,.ofFz (r.go λb o n e=>⟨aj a b o e,λz=>z.elim n λz=>?_⟩)⟩;subst z;rw[a] at e;cases e
theorem p9:∀{ps:List (ay×D)} {us:List V},RpL K H S (ps.map λp=>D.tup [Bk p.1,p.2]) us->∃c:List (ay×V),c.map (·.1)=ps.map (·.1)/\RpL K H S (ps.map (·.2)) (c.map (·.2))/\us.length=c.length/\∀(i:Nat) (z:ay) (x:V),c[i]?=Sb (z,x)->∃a,us[i]?=Sb (V.ref a)/\SqT K H a [kV z,x]
 |[],us,h=>by
  have:us=[]:=Q4.mp (by rw[h.len];rfl);subst this;show⟨[],rfl,.nil,rfl,λi z x e=>by simp at e⟩
 |p::ps,us,h=>by
  rw[OI] at h;unfold RpL at h;obtain⟨y,t,rfl,r,j⟩:=h;obtain⟨a,o,s,rfl,n1,q1,q,f⟩:=r.nd;cases(q);unfold RpL at f;obtain⟨b,u,rfl,c1,d⟩:=f;unfold RpL at d;obtain⟨b2,k,rfl,m,g⟩:=d;unfold RpL at g;subst g;obtain rfl:=Bl c1;obtain⟨c,e1,e2,e3,e4⟩:=p9 j;show⟨(p.1,b2)::c,by simp[e1],.cons m e2,by simp[e3],λi z x e=>?_⟩
  cases i with
  |zero=>cases e;show⟨a,rfl,.of q1⟩
  |succ i=>
   obtain⟨n,l,f2⟩:=e4 i z x (by simpa using e);show⟨n,by simpa using l,f2⟩
theorem eS:∀{b:List (ay×V)} {a:List (ay×V)},(∀p∈b,∀c∈a,c.1≠p.1)->(b.map (·.1)).Nodup->b.foldl (λm p=>bI m p.1 p.2) a=a++b
 |[],a,_,_=>by simp
 |q::b,a,h,hn=>by
  rw[OI,OX] at hn
  let e:bI a q.1 q.2=a++[q]:=by
   unfold bI;rw[if_neg];intro z;obtain⟨c,hk,e⟩:=R0.mp z;show h q OL c hk (by simpa using e)
  rw[Ra,e,eS (λp d c hk=>?_) hn.2]
  ·simp
  ·rcases OQ.mp hk with hk|hk
   ·show h p (OH _ d) c hk
   ·rw[OV.mp hk];intro z;have:q.1=p.1:=by simpa using z
    show hn.1 (this▸Oy.mpr ⟨p,d,rfl⟩)
def fx(x:Str):List KD->Option KD:=
 if x="len" then yh else if x="all" then E2 else if x="any" then(λ_=>Sd) else if x="list" then yj else if x="tuple" then(λ_=>Sd) else if x="str" then(λ_=>Sd) else if x="sum" then E3
 else if x="min" then E4 else if x="max" then E5 else if x="abs" then(λ_=>Sd) else if x="int" then E6 else if x="dict" then yk else if x="repr" then(λ_=>Sd) else λ_=>Sd
def sI(x:Str)(a:Option (List KD)):Option KD:=match a with|some kds=>fx x kds|none=>Sd
def Nt(X:Cx)(kds:List KD)(kd:Kd)(d:D)(Q:VK)(vs:List V)(H1:Hp):Prop:=∃g H0,MuOk H0 (Sg g)/\Same H0 H1/\VRs X.K g H0 H1 kds vs/\∀v H',Same H1 H'->VR X.K g H0 H' kd d v->Q v H'
def StrictOk(X:Cx)(f:List KD->Option KD)(es:List Si)(q:Si):Prop:=∀kds kd d,f kds=Sb (kd,d)->∀U H Q,wA X es U H (Nt X kds kd d Q)->wE X q U H Q
theorem bz{H:Hp}{Q d:List V->Hp->Prop}(h:wA X es U H Q)(k:∀vs H,Q vs H->d vs H):wA X es U H d:=λb a s I=>bd (h b a s I) λg f ⟨vs,c,e,r,q⟩=>⟨vs,c,e,r,k vs c q⟩
theorem d7{H:Hp}{Q c:VK}(h:wE X e U H Q)(k:∀v H,Q v H->c v H):wE X e U H c:=λa s I=>bd (h a s I) λu f ⟨v,b,d,r,q⟩=>⟨v,b,d,r,k v b q⟩
theorem StrictOk.snd{c:Ro->Option (List KD)}(h:StrictOk X f es node)(k:kZ X c es):SndE X (λY=>(c Y).bind f) node:=by
 intro Y m d a g U H Q i q;dsimp only at a
 cases e:c Y with
 |none=>rw[e] at a;cases a
 |some b=>
  rw[e] at a;show h b m d a U H Q (k Y b e g U H _ i λo n s1 l=>⟨g,H,i.mu,s1,l,λv j s r=>q v j (s1.trans s) r⟩)
def eD(X:Cx)(x:Str)(f:List KD->Option KD):Prop:=∀(e:Si) (es:List Si) (p pos:Pos),Gl X x->ak e=Se->es.all ak=Se->StrictOk X f (e::es) (.Call (.Name x p) (e::es) [] pos)
section
variable {X:Cx} {Z:fA} {c:Cz}
theorem Jk(O:av X Z c):eD X "len" yh:=by
 intro e L p z A n1 n2 y C d h U H Q u;unfold yh at h;split at h
 ·ext F j
  cases hl:Bj j with
  |none=>rw[hl] at h;cases h
  |some n=>
   rw[hl] at h;cases h;show ar (dM (nR) A (O.tab.bl _ (by simp[aA])) PySem.boot_len cW (by decide) (by decide) (ae n1) (bh n2)) (bz u λD b l=>?_);obtain⟨g,K,m,s1,x,q⟩:=l;obtain⟨v,rfl,r⟩:=x.one;let t:=r.rd
   cases j with
   |scr w=>
    obtain⟨a,rfl,f⟩:=t.scr;cases hl;show⟨a,_,rfl,.inl f,q _ b (Same.refl b) (by rw[On];show k8)⟩
   |nd s E=>
    obtain⟨a,o,k,rfl,_,f,q1,i⟩:=t.nd
    cases s with
    |lst=>cases hl;cases(q1);show⟨a,k,rfl,.inl (.of f),q _ b (Same.refl b) (by rw[i.len];show k8)⟩
    |tup=>cases hl;cases(q1);show⟨a,k,rfl,.inr (.of f),q _ b (Same.refl b) (by rw[i.len];show k8)⟩
    |dic I B=>cases hl
    |obj c w=>cases hl
   |_=>cases hl
 ·cases h
theorem Jl(O:av X Z c):eD X "all" E2:=by
 intro e B p t w n1 n2 s x d h U H Q k;unfold E2 at h;split at h
 ·ext z l
  cases hl:dB l with
  |none=>rw[hl] at h;cases h
  |some u=>
   rw[hl] at h;cases h;show ar (dM (ml O.calm) w (O.tab.bl _ (by simp[aA])) PyProof.Rows.boot_all cW (by decide) (by decide) (ae n1) (bh n2)) (bz k λy f j=>?_);obtain⟨g,A,m,s1,n,q⟩:=j;obtain⟨v,rfl,r⟩:=n.one;obtain⟨a,o,C,rfl,_,i,q1,b⟩:=r.rd.nd;cases(q1);rw[lg hl] at b;show⟨a,u,rfl,.of (by rw[i,b.bools]),q _ f (Same.refl f) Dc⟩
 ·cases h
theorem E8(O:av X Z c):eD X "list" yj:=by
 intro e D p B n n1 n2 A C d h U H Q k;unfold yj at h;split at h
 ·ext w z;split at h
  ·ext hk;cases h;show ar (en eP n (O.tab.bl _ (by simp[aA])) PyProof.Rows.boot_list cW (by decide) (by decide) (ae n1) (bh n2)) (bz k λu t f=>?_);obtain⟨g,x,m,s1,i,q⟩:=f;obtain⟨v,rfl,r⟩:=i.one;obtain⟨a,o,s,rfl,b,q1,j⟩:=r.items hk m s1;cases(q1);show⟨a,s,rfl,.inl (.of b),λl hl=>q _ _ (aj hl) ((sr hl j).older s1)⟩
  ·cases h
 ·ext w z;split at h
  ·ext hk;cases h;show ar (en eP n (O.tab.bl _ (by simp[aA])) PyProof.Rows.boot_list cW (by decide) (by decide) (ae n1) (bh n2)) (bz k λu t f=>?_);obtain⟨g,x,m,s1,i,q⟩:=f;obtain⟨v,rfl,r⟩:=i.one;obtain⟨a,o,s,rfl,b,q1,j⟩:=r.items hk m s1;cases(q1);show⟨a,s,rfl,.inr (.of b),λl hl=>q _ _ (aj hl) ((sr hl j).older s1)⟩
  ·cases h
 ·ext w y;cases h;show ar (en eP n (O.tab.bl _ (by simp[aA])) PyProof.Rows.boot_list cW (by decide) (by decide) (ae n1) (bh n2)) (bz k λu t f=>?_);obtain⟨g,x,m,s1,i,q⟩:=f;obtain⟨v,rfl,r⟩:=i.one;obtain⟨a,rfl,b⟩:=r.rd.scr;show⟨a,_,rfl,.inl b,λl hl=>q _ _ (aj hl) ((sr hl (RpL.ints y)).older s1)⟩
 ·cases h
theorem Jm(O:av X Z c):eD X "sum" E3:=by
 intro e B p z s n1 n2 y A d h U H Q n;unfold E3 at h;split at h
 ·ext w u
  cases hl:J.toInts u with
  |none=>rw[hl] at h;cases h
  |some j=>
   rw[hl] at h;cases h;show ar (dM (gJ O.calm) s (O.tab.bl _ (by simp[aA])) PyProof.Rows.boot_sum cW (by decide) (by decide) (ae n1) (bh n2)) (bz n λt b i=>?_);obtain⟨g,x,m,s1,k,q⟩:=i;obtain⟨v,rfl,r⟩:=k.one;obtain⟨a,o,C,rfl,_,f,q1,l⟩:=r.rd.nd;cases(q1);rw[eB hl] at l;show⟨a,j,rfl,.of (by rw[f,l.toInts]),q _ b (Same.refl b) k8⟩
 ·ext w j;cases h;show ar (dM (gJ O.calm) s (O.tab.bl _ (by simp[aA])) PyProof.Rows.boot_sum cW (by decide) (by decide) (ae n1) (bh n2)) (bz n λt b i=>?_);obtain⟨g,x,m,s1,k,q⟩:=i;obtain⟨v,rfl,r⟩:=k.one;obtain⟨a,rfl,f⟩:=r.rd.scr;show⟨a,j,rfl,f,q _ b (Same.refl b) k8⟩
 ·cases h
theorem Jn(O:av X Z c):eD X "min" E4:=by
 intro e w p n s n1 n2 l x d h U H Q f;unfold E4 at h;split at h
 ·ext A i z j;cases h;show ar (dM (v8 O.calm) s (O.tab.bl _ (by simp[aA])) PyProof.Rows.boot_min cW (by decide) (by decide) (ae n1) (bh n2)) (bz f λy a b=>?_);obtain⟨g,t,m,s1,k,q⟩:=b;obtain⟨v,u,rfl,r,o⟩:=k.two;obtain rfl:=r.rd.int;obtain rfl:=o.rd.int;show⟨i,j,rfl,q _ a (Same.refl a) k8⟩
 ·cases h
theorem Jo(O:av X Z c):eD X "max" E5:=by
 intro e w p n s n1 n2 l x d h U H Q f;unfold E5 at h;split at h
 ·ext A i z j;cases h;show ar (dM (v7 O.calm) s (O.tab.bl _ (by simp[aA])) PyProof.Rows.boot_max cW (by decide) (by decide) (ae n1) (bh n2)) (bz f λy a b=>?_);obtain⟨g,t,m,s1,k,q⟩:=b;obtain⟨v,u,rfl,r,o⟩:=k.two;obtain rfl:=r.rd.int;obtain rfl:=o.rd.int;show⟨i,j,rfl,q _ a (Same.refl a) k8⟩
 ·cases h
theorem lj{e:Si}{a:Env}{cp:Pos}(h:ak e=Se):((backTo cp (Sy [e] a)).all (λx=>!x.1)&&(backToKw cp (keywordEach [] a)).all (λx=>x.1.isSome)
      && decide ([e].length+([]:List Keyword).length+(if([]:List Keyword).isEmpty then 0 else 1)<30))=Se:=by
  rw[ae h];rfl
noncomputable def gM:Si->Bool
 |.Name x _=>!(x==("super":Str))
 |.Subscript ..=>Se
 |.Attribute ..=>Se
 |_=>Sf
theorem gw{b:Si}{m:Str}{c:Env}{w:Sem Sh}(h:gM b=Se):attributeBase b m c w=w:=by
 cases b with
 |Name x p=>
  unfold attributeBase;let h:(x==("super":Str))=Sf:=by simpa[gM] using h
  simp[h]
 |Subscript a b p=>rfl
 |Attribute a b p=>rfl
 |_=>cases h
def Nu(a:Option KD):Option KD:=match a with
 |some (_,.nd .lst ds)=>(match toInts ds with|some ks=>if ks.length<=60 then Sb (.fr bJ,.lst ((G.Jh ks).map D.int)) else Sd|none=>Sd)
 |_=>Sd
def qc(a:Option KD):Option KD:=match a with
 |some (_,.nd .lst ds)=>(match toInts ds with|some ks=>if ks.length<=100000 then Sb (.fr bJ,.lst (ks.reverse.map D.int)) else Sd|none=>Sd)
 |_=>Sd
theorem E9(O:av X Z c){f:Ro->Option KD}{a:Si}(w:Gl X "list")(b:Gl X "reversed")(hn:ak a=Se)(n:SndE X f a):SndE X (λY=>qc (f Y)) (.Call (.Name "list" p) [.Call (.Name "reversed" p2) [a] [] pos2] [] pos):=by
 intro Y y d h g U H Q u q;dsimp only[qc] at h;split at h
 ·ext A z r;split at h
  ·ext j hk;obtain⟨m,e⟩:=ut h;cases e;show ar (G.Bi O.calm w (O.tab.bl _ (by simp[aA])) b (O.tab.bl _ (by simp[aA])) (bu aw dL (ae hn)) (ae hn)) (n Y _ _ r g U H _ u λv x s1 t=>?_);obtain⟨s,o,B,rfl,_,k,q1,i⟩:=t.rd.nd;cases(q1);rw[eB hk] at i;show⟨s,j.map V.int,rfl,.of (by rw[k,i.toInts]),by rw[On];show m,λl hl=>q _ _ (s1.trans (aj hl)) ?_⟩;rw[<- R1];show(sr hl (RpL.ints j.reverse)).older s1
  ·cases h
 ·cases h
inductive Dsp (X:Cx) (Y:Ro):List (Option Expr)->List Expr->List ay->List KD->Prop
 |nil:Dsp X Y [] [] [] []
 |cons {k v:Si} {kD:D} {x:ay} {kv:Kd} {d:D} {f:Ro->Option KD} {ks:List (Option Si)} {vs:List Si} {xs:List ay} {kds:List KD}:SndE X (λ_=>Sb (.sh,kD)) k->fF kD=Sb x->SndE X f v->f Y=Sb (kv,d)->i7 kv d=Se->Dsp X Y ks vs xs kds->Dsp X Y (Sb k::ks) (v::vs) (x::xs) ((kv,d)::kds)
noncomputable def L7(X:Cx):List (Option Si)->List Si->List (TE×TE)
 |some k::ks,v::vs=>(wE X k,wE X v)::L7 X ks vs
 |_,_=>[]
theorem Dsp.pps{a:List (Option Si)}{vs:List Si}{xs:List ay}{kds:List KD}(h:Dsp X Y a vs xs kds):ID X pos a vs (L7 X a vs)/\a.all (·.isSome)=Se/\a.length=vs.length/\a.length=xs.length/\xs.length=kds.length:=by
 induction h with
 |nil=>show⟨uk,rfl,rfl,rfl,rfl⟩
 |cons _ _ _ _ _ _ b=>show⟨pQ aw aw b.1,by simpa using b.2.1,by simp[b.2.2.1],by simp[b.2.2.2.1],by simp[b.2.2.2.2]⟩
theorem Dsp.run{xs:List ay}{kds:List KD}(h:Dsp X Y ks vs xs kds):∀{g:Gh} {U:L2.St} {H:Hp} {Q:List (V×V)->Hp->Prop},SE X.K g Y U H->(∀ys H',Same H H'->RpL X.K H' (Sg g) (kds.map (·.2)) ys->Q ((xs.zip ys).map λb=>(kV b.1,b.2)) H')->nT (L7 X ks vs) U H Q:=by
 induction h with
 |nil=>intro g U H Q a q;show q [] H (Same.refl H) .nil
 |cons hk f i e d _ k=>
  intro g U H Q a q;show hk Y _ _ rfl g U H _ a λp j s1 l=>i Y _ _ e g U j _ (a.same s1) λy o s2 c=>k ((a.same s1).same s2) λys m s3 n=>?_;obtain rfl:=ki f l.rd;show q (y::ys) m ((s1.trans s2).trans s3) (.cons ((c.sh d (a.same s1).mu s2).same s3) n)
theorem mV:∀(b a:List (ay×V)),((a++b).map (·.1)).Nodup->eQ a b=a++b
 |[],a,_=>by simp[eQ]
 |p::r,a,h=>by
  let e:bI a p.1 p.2=a++[p]:=by
   unfold bI;rw[if_neg];intro z;obtain⟨q,c,e⟩:=R0.mp z;let e:q.1=p.1:=of_decide_eq_true e;rw[Oz,Qv] at h;show h.2.2 q.1 (RD c) p.1 (by simp) e
  change eQ (bI a p.1 p.2) r=_;rw[e,mV r (a++[p]) (by simpa using h)];simp
def jL(q:List D)(B:Option (List KD)):Option KD:=match cc q,B with
 |some xs,Sb kds=>if decide (xs.Nodup)=Se/\0<xs.length/\xs.length<=15/\kds.all (λkd=>i7 kd.1 kd.2)=Se then Sb (.fr bJ,.nd (.dic 0 (xs.map Sum.inl)) (kds.map (·.2))) else Sd
 |_,_=>Sd
theorem Fa{fs:Ro->Option (List KD)}(hd:∀Y kds xs,fs Y=Sb kds->kds.all (λkd=>i7 kd.1 kd.2)=Se->cc kDs=Sb xs->Dsp X Y ks vs xs kds):SndE X (λY=>jL kDs (fs Y)) (.Dict ks vs pos):=by
 intro Y kd d h g U H Q x q;dsimp only[jL] at h;split at h
 ·ext xs kds t s;obtain⟨f,e⟩:=ut h;cases e;let D:=hd Y kds xs s f.2.2.2 t;obtain⟨v,u,r,j,m⟩:=D.pps;show ar (ul v u r (λz=>?_) (by lia)) λp c=>?_
  ·rw[z] at j;have:=f.2.1;simp at j
   lia
  let i:SE X.K (g.plus λb=>b=p) Y U (upd H p (.dK [])):=x.plus (aj c) (λb z=>z▸c) λb z=>⟨.dK [],by rw[z];show ah,λxs e=>nomatch e⟩
  show D.run i λa A s2 l=>?_;let B:a.length=xs.length:=by rw[l.len,On,m]
  let k1:(xs.zip a).map (·.1)=xs:=R3 (by lia);let w:(xs.zip a).map (·.2)=a:=R4 (by lia)
  let y:eQ [] (xs.zip a)=xs.zip a:=by
   have:=mV (xs.zip a) [] (by rw[Qd,k1];show of_decide_eq_true f.1);rw[this,Qd]
  show⟨s2 _ _ ah,xs.zip a,rfl,by rw[QD];lia,?_⟩;rw[y];show q _ _ (λb o e=>?_) ?_
  ·rw[ac (aB e c)];show s2 _ _ (aj c b o e)
  ·show⟨λb=>b=p,λb z=>z▸c,?_⟩;change Tr X.K _ _ _ _ _ _;unfold Tr
   show⟨p,_,a,λ_=>False,rfl,ah,.inl ⟨rfl,xs.zip a,rfl,?_,w.symm⟩,λ_ z=>z,(λh=>nomatch h),λb=>⟨λz=>.inl ⟨rfl,z⟩,λz=>z.elim (λz=>z.2) λz=>z.elim⟩,.ofFz (l.go λb o n e=>?_)⟩
   ·conv=>lhs;rw[<- k1]
    rw[OE];rfl
   let k:¬(Sg g b\/b=p):=λz=>n ((am b).mpr z);show⟨by rw[ac λz=>k (.inr z)];show e,k⟩
 ·cases h
def qe(m:Nat)(k a:Option KD):Option KD:=match k,a with
 |some (_,dk),Sb (kv,d)=>(match j3 dk with
  |some (.inr xs)=>if Dd m xs=Se/\i7 kv d=Se then Sb (.fr bJ,.nd (.dic (m+1) [.inr xs]) [d]) else Sd
  |some (.inl x)=>if i7 kv d=Se then Sb (.fr bJ,.nd (.dic 0 [.inl x]) [d]) else Sd
  |none=>Sd)
 |_,_=>Sd
theorem Fb(O:av X Z c){E A:Ro->Option KD}{m:Nat}{k a:Si}{pos:Pos}(hk:SndE X E k)(B:SndE X A a):SndE X (λY=>qe m (E Y) (A Y)) (.Dict [Sb k] [a] pos):=by
 intro Y kd d h g U H Q L q;dsimp only[qe] at h;split at h
 ·ext V dk kv I D F;split at h
  ·ext l v;obtain⟨C,e⟩:=ut h;cases e;show ar (A0 (m:=m) (by have:=O.tab.units;lia) aw aw) λp i=>?_
   let f:SE X.K (g.plus λb=>b=p) Y U (upd H p (.dT m 0 [])):=L.plus (aj i) (λb z=>z▸i) λb z=>⟨.dT m 0 [],by rw[z];show ah,λl e=>nomatch e⟩
   show hk Y _ _ D _ U _ _ f λP t s1 w=>B Y _ _ F _ U t _ (f.same s1) λy r s2 u=>?_;rcases je v w.rd with⟨x,e,_⟩|⟨S,b,e,rfl,T⟩
   ·cases e
   cases e;let s:Rp X.K r (Sg (g.plus λb=>b=p)) I y:=u.sh C.2 (f.same s1).mu s2;show⟨s2 _ _ (s1 _ _ ah),l,b,rfl,(T m C.1).keep λc zs M=>s2 _ _ M,λN=>q _ _ (λb o e=>?_) ?_⟩
   ·rw[ac (aB e i)];show s2 _ _ (s1 _ _ (aj i b o e))
   ·show⟨λb=>b=p,λb z=>z▸i,?_⟩;change Tr X.K _ _ _ _ _ _;unfold Tr
    show⟨p,_,[y],λ_=>False,rfl,ah,.inr ⟨m,rfl,[(l,y)],N,rfl,rfl,rfl⟩,λ_ z=>z,(λh=>nomatch h),λb=>⟨λz=>.inl ⟨rfl,z⟩,λz=>z.elim (λz=>z.2) λz=>z.elim⟩,.ofFz (.cons (s.go λb o n e=>?_) .nil)⟩
    let j:¬(Sg g b\/b=p):=λz=>n ((am b).mpr z);show⟨by rw[ac λz=>j (.inr z)];show e,j⟩
  ·ext x v;obtain⟨R,e⟩:=ut h;cases e;show ar (ul (pQ aw aw uk) rfl rfl (by simp) (by change 1<=15;decide)) λp i=>?_
   let f:SE X.K (g.plus λb=>b=p) Y U (upd H p (.dK [])):=L.plus (aj i) (λb z=>z▸i) λb z=>⟨.dK [],by rw[z];show ah,λl e=>nomatch e⟩
   show hk Y _ _ D _ U _ _ f λP t s1 w=>B Y _ _ F _ U t _ (f.same s1) λy r s2 u=>?_;rcases je v w.rd with⟨W,e,rfl⟩|⟨S,b,e,_⟩
   ·cases e;let s:Rp X.K r (Sg (g.plus λb=>b=p)) I y:=u.sh R (f.same s1).mu s2;show⟨s2 _ _ (s1 _ _ ah),[(x,y)],rfl,by change 1<=15;decide,q _ _ (λb o e=>?_) ?_⟩
    ·rw[ac (aB e i)];show s2 _ _ (s1 _ _ (aj i b o e))
    ·show⟨λb=>b=p,λb z=>z▸i,?_⟩;change Tr X.K _ (λb=>Sg g b\/b=p) _ _ _ _;unfold Tr
     show⟨p,_,[y],λ_=>False,rfl,ah,.inl ⟨rfl,[(x,y)],rfl,rfl,rfl⟩,λ_ z=>z,(λh=>nomatch h),λb=>⟨λz=>.inl ⟨rfl,z⟩,λz=>z.elim (λz=>z.2) λz=>z.elim⟩,.ofFz (.cons (s.go λb o n e=>?_) .nil)⟩
     let j:¬(Sg g b\/b=p):=λz=>n ((am b).mpr z);show⟨by rw[ac λz=>j (.inr z)];show e,j⟩
   ·cases e
  ·cases h
 ·cases h
theorem Jp(O:av X Z c):eD X "int" E6:=by
 intro e s p l n n1 n2 k t d h U H Q i;unfold E6 at h;split at h
 ·ext w b;cases h;show ar (en wz n (O.tab.bl _ (by simp[aA])) PyProof.Rows.boot_int cW (by decide) (by decide) (ae n1) (bh n2)) (bz i λu a f=>?_);obtain⟨g,o,m,s1,j,q⟩:=f;obtain⟨v,rfl,r⟩:=j.one;obtain rfl:=r.rd.bl;show⟨b,rfl,q _ a (Same.refl a) k8⟩
 ·cases h
theorem Fc(O:av X Z c):eD X "dict" yk:=by
 intro e M p y A n1 n2 x E d h U H Q t;unfold yk at h;split at h
 ·ext K I;split at h
  ·ext hk;split at h
   ·ext n j;split at h
    ·ext i;cases h;show ar (en (G.wo O.calm) A (O.tab.bl _ (by simp[aA])) (by nofun) cW (by decide) (by decide) (ae n1) (bh n2)) (bz t λF D i=>?_);obtain⟨g,L,m,s1,w,q⟩:=i;obtain⟨v,rfl,r⟩:=w.one;obtain⟨a,o,B,rfl,s,q1,k⟩:=r.items hk m s1;cases(q1);rw[li j] at k;obtain⟨b,e1,e2,e3,e4⟩:=p9 k;let hl:b.length=n.length:=by have:=congrArg Pq e1;simpa using this
     let u:G.bp b=b:=by
      unfold G.bp;rw[eS (λp _ C hk=>by simp at hk) (by rw[e1];show i.1)];rfl
     show⟨a,B,b,rfl,.of s,⟨e3,e4⟩,by rw[hl];show aJ i.2,λl f=>q _ _ (aj f) ((Dg (hd:=.dic 0 (n.map λp=>Sum.inl p.1)) rfl (.inl ⟨rfl,b,by rw[u],?_,rfl⟩) f e2).older s1)⟩;have:=congrArg (QH λz:ay=>(Sum.inl z:DK)) e1;rw[OE,OE] at this;show this.symm
    ·cases h
   ·cases h
  ·cases h
 ·cases h
theorem eE:eD X x (λ_=>Sd):=λe c p b g n1 n2 a f d h=>by cases h
theorem ji{x y:Str}(h1:x=y->eD X x f)(h2:eD X x g):eD X x (if x=y then f else g):=by
 by_cases h:x=y
 ·rw[if_pos h];show h1 h
 ·rw[if_neg h];show h2
theorem qf(O:av X Z c)(x:Str):eD X x (fx x):=by
 unfold fx;show ji (λh=>?_) ?_
 ·first|show eE|(subst h;show Jk O)
 show ji (λh=>?_) ?_
 ·first|show eE|(subst h;show Jl O)
 show ji (λh=>?_) ?_
 ·first|show eE|(subst h;show b_any O)
 show ji (λh=>?_) ?_
 ·first|show eE|(subst h;show E8 O)
 show ji (λh=>?_) ?_
 ·first|show eE|(subst h;show b_tuple O)
 show ji (λh=>?_) ?_
 ·first|show eE|(subst h;show b_str O)
 show ji (λh=>?_) ?_
 ·first|show eE|(subst h;show Jm O)
 show ji (λh=>?_) ?_
 ·first|show eE|(subst h;show Jn O)
 show ji (λh=>?_) ?_
 ·first|show eE|(subst h;show Jo O)
 show ji (λh=>?_) ?_
 ·first|show eE|(subst h;show b_abs O)
 show ji (λh=>?_) ?_
 ·first|show eE|(subst h;show Jp O)
 show ji (λh=>?_) ?_
 ·first|show eE|(subst h;show Fc O)
 show ji (λh=>?_) ?_
 ·first|show eE|(subst h;show b_repr O)
 ·intro e f p b i n1 n2 a g d h;cases h
theorem Jq(O:av X Z c){es:List Si}{a:Ro->Option (List KD)}(b:kZ X a (e::es))(d:gY c.sc x=Se)(n1:ak e=Se)(n2:es.all ak=Se):SndE X (λY=>sI x (a Y)) (.Call (.Name x p) (e::es) [] pos):=by
 have:=(qf O x e es p pos (cJ O d) n1 n2).snd b
 rw[show(λY=>sI x (a Y))=λY=>(a Y).bind (fx x) by funext Y;unfold sI;cases a Y<;>rfl]
 show this
end
inductive Src where
 |non|l (a:Sj) (ds:List D)|t (a:Sj) (ds:List D)|two (s u:Src)|ob (a:Sj) (u:HO) (xs:List V) (ds:List D)
def Src.P(K:Om):Src->Gh->Hp->Prop
 |.non,_,_=>True
 |.l a ds,g,H=>∃xs,SqL K H a xs/\RpL K H (Sg g) ds xs
 |.ob a u xs ds,g,H=>H a=Sb u/\RpL K H (Sg g) ds xs
 |.t a ds,g,H=>∃xs,SqT K H a xs/\RpL K H (Sg g) ds xs
 |.two s u,g,H=>s.P K g H/\u.P K g H
def Src.isL(b:Sj):Src->Prop
 |.non=>False
 |.l a _=>a=b
 |.ob a ..=>a=b
 |.t _ _=>False
 |.two s u=>s.isL b\/u.isL b
def Src.isT(b:Sj):Src->Prop
 |.non=>False
 |.l _ _=>False
 |.ob ..=>False
 |.t a _=>a=b
 |.two s u=>s.isT b\/u.isT b
def Src.from(g:Gh)(H:Hp)(bs:List Nat):Src->Prop
 |.non=>True
 |.l a _=>g a=Sd\/∃i∈bs,g a=Sb (Sb i)
 |.ob a ..=>g a=Sd\/∃i∈bs,g a=Sb (Sb i)
 |.t a _=>g a=Sd
 |.two s u=>s.from g H bs/\u.from g H bs
theorem Src.from.from_l{g:Gh}{bs:List Nat}{b:Sj}:∀{s:Src},s.from g H bs->s.isL b->g b=Sd\/∃i∈bs,g b=Sb (Sb i)
 |.l a _,h,e=>by cases(e);show h
 |.ob a ..,h,e=>by cases(e);show h
 |.two s u,h,e=>by
  rcases(e) with e|e
  ·show Src.from.from_l (h).1 e
  ·show Src.from.from_l (h).2 e
 |.non,_,e=>e.elim
 |.t _ _,_,e=>e.elim
theorem Src.from.from_t{g:Gh}{bs:List Nat}{b:Sj}:∀{s:Src},s.from g H bs->s.isT b->g b=Sd
 |.t a _,h,e=>by cases(e);show h
 |.two s u,h,e=>by
  rcases(e) with e|e
  ·show Src.from.from_t (h).1 e
  ·show Src.from.from_t (h).2 e
 |.non,_,e=>e.elim
 |.l _ _,_,e=>e.elim
 |.ob ..,_,e=>e.elim
theorem Src.from.from_H{bs:List Nat}:∀{s:Src},s.from g H bs->s.from g H' bs
 |.t a _,h=>h
 |.l a _,h=>h
 |.ob ..,h=>h
 |.non,_=>trivial
 |.two s u,h=>⟨Src.from.from_H (h).1,Src.from.from_H (h).2⟩
theorem Src.from.from_mono{bs b:List Nat}(k:∀i∈bs,i∈b):∀{s:Src},s.from g H bs->s.from g H b
 |.t a _,h=>h
 |.l a _,h=>Or.imp_right (λ⟨i,d,c⟩=>⟨i,k i d,c⟩) h
 |.ob ..,h=>Or.imp_right (λ⟨i,d,c⟩=>⟨i,k i d,c⟩) h
 |.non,_=>trivial
 |.two s u,h=>⟨Src.from.from_mono k (h).1,Src.from.from_mono k (h).2⟩
section
variable {K:Om} {H H':Hp} {g g':Gh}
theorem ym(k:∀o,H a=Sb o->H' a=Sb o)(h:SqL K H a xs):SqL K H' a xs:=by
 rcases h with(h|⟨o,h⟩)|h
 ·show .inl (.inl (k _ h))
 ·show .inl (.inr ⟨o,k _ h⟩)
 ·show .inr h
theorem yn(k:∀o,H a=Sb o->H' a=Sb o)(h:SqT K H a xs):SqT K H' a xs:=by
 rcases h with(h|⟨o,h⟩)|h
 ·show .inl (.inl (k _ h))
 ·show .inl (.inr ⟨o,k _ h⟩)
 ·show .inr h
theorem Src.mono(c:∀b o,H b=Sb o->¬Sg g b->¬Sg g' b):∀{s:Src},(∀b o,(¬Sg g b\/s.isL b)->H b=Sb o->H' b=Sb o)->(∀a,s.isT a->g a=Sd)->s.P K g H->s.P K g' H'
 |.non,_,_,_=>trivial
 |.l a ds,k,ht,h=>by
  obtain⟨d,i,f⟩:=h;show⟨d,ym (λo e=>k a o (.inr rfl) e) i,f.go λb o n e=>⟨k b o (.inl n) e,c b o e n⟩⟩
 |.ob a u d ds,k,ht,h=>⟨k a _ (.inr rfl) (h).1,(h).2.go λb o n e=>⟨k b o (.inl n) e,c b o e n⟩⟩
 |.t a ds,k,ht,h=>by
  obtain⟨d,i,f⟩:=h;show⟨d,yn (λo e=>k a o (.inl (by rw[Sg,ht a rfl];simp)) e) i,f.go λb o n e=>⟨k b o (.inl n) e,c b o e n⟩⟩
 |.two s u,k,ht,h=>⟨Src.mono c (λb o z=>k b o (z.imp id .inl)) (λa z=>ht a (.inl z)) (h).1,Src.mono c (λb o z=>k b o (z.imp id .inr)) (λa z=>ht a (.inr z)) (h).2⟩
end
def iF(K:Om)(J:It)(s:Src)(ds:List D):Prop:=∀(i:Nat) (g:Gh) (H:Hp),s.P K g H->MuOk H (Sg g)->
 (ds.length<=i->J.stop i H)/\∀d,ds[i]?=Sb d->J.go i H/\∀x H',J.yld i H x H'->Same H H'/\Rp K H' (Sg g) d x
section
variable {K:Om}
theorem Fd:iF K (HF K a) (.l a ds) ds:=by
 rintro i g H ⟨e,c,r⟩ m
 show⟨λhi=>⟨e,c,by rw[r.len];show hi⟩,λd f=>?_⟩;obtain⟨x,e1,e2⟩:=r.getD f;show⟨⟨e,x,c,e1⟩,λy h b=>?_⟩;obtain⟨rfl,b⟩:=b;have:=b e c;rw[e1] at this;cases this;show⟨Same.refl _,e2⟩
theorem L8:iF K (LH K a) (.t a ds) ds:=by
 rintro i g H ⟨e,c,r⟩ m
 show⟨λhi=>⟨e,c,by rw[r.len];show hi⟩,λd f=>?_⟩;obtain⟨x,e1,e2⟩:=r.getD f;show⟨⟨e,x,c,e1⟩,λy h b=>?_⟩;obtain⟨rfl,b⟩:=b;have:=b e c;rw[e1] at this;cases this;show⟨Same.refl _,e2⟩
theorem Fe{ds:List D}:iF K (G.KR K a) (.l a ds) (ds.mapIdx λi d=>D.tup [.int i,d]):=by
 rintro i g H ⟨h,e,r⟩ m
 show⟨λhi=>⟨h,e,by rw[r.len];simpa using hi⟩,λd b=>?_⟩;rw[Rr] at b
 cases q:ds[i]? with
 |none=>rw[q] at b;cases b
 |some k=>
  rw[q] at b;cases b;obtain⟨x,e1,e2⟩:=r.getD q;show⟨⟨h,x,e,e1⟩,λy j c=>?_⟩;obtain⟨p,v,f,rfl,rfl,c⟩:=c;have:=c h e;rw[e1] at this;cases this;show⟨aj f,?_⟩;unfold Rp;show⟨p,_,_,rfl,λz=>?_,ah,rfl,.cons (by unfold Rp;rfl) (.cons (e2.same (aj f)) .nil)⟩;obtain⟨o,q,_⟩:=m p z;rw[f] at q;cases q
theorem Ff(lo:Int)(n:Nat):iF K (Ie lo n) .non ((O9 n).map λ(k:Nat)=>D.int (lo+(k:Int))):=by
 rintro i g H _ m
 show⟨λhi=>(by let c:n<=i:=(by simpa using hi);show c),λd a=>?_⟩;rw[Op] at a
 cases q:(O9 n)[i]? with
 |none=>rw[q] at a;cases a
 |some j=>
  rw[q] at a;cases a
  let b:i<n:=by
   have:=(OA.mp q).1;simpa using this
  let e:j=i:=by
   rw[Qc b] at q;cases q;rfl
  subst e;show⟨b,λx h f=>?_⟩;obtain⟨rfl,rfl⟩:=f;show⟨Same.refl _,by unfold Rp;rfl⟩
end
def SndI(X:Cx)(f:Ro->Option (List Nat×List D))(tg iter:Si):Prop:=∀Y bs ds,f Y=Sb (bs,ds)->∀g U H R,SE X.K g Y U H->
 (∀J s H1,Same H H1->iF X.K J s ds->s.P X.K g H1->s.from g H bs->R J H1)->wI X tg iter U H R
noncomputable def mn:Kd->List Nat
 |.bo i _=>[i]
 |_=>[]
def fj(a:Option KD):Option (List Nat×List D):=match a with
 |some (k,.nd .lst ds)=>if jd k ds=Se then Sb (mn k,ds) else Sd
 |some (_,.scr ns)=>Sb ([],ns.map D.int)
 |_=>Sd
noncomputable def n9(x:Str):List D:=x.cps.toList.map λc=>D.str ⟨#[c]⟩
theorem L9(x:Str):iF K (G.LX x) .non (n9 x):=by
 rintro i g H _ m
 show⟨λhi=>(by let b:x.cps.size<=i:=(by simpa[n9] using hi);show b),λd a=>?_⟩;unfold n9 at a;rw[Op] at a
 cases q:x.cps.toList[i]? with
 |none=>rw[q] at a;cases a
 |some z=>
  rw[q] at a;cases a;let c:x.cps[i]?=Sb z:=by simpa using q
  show⟨(Array.getElem?_eq_some_iff.mp c).1,λv f e=>?_⟩;obtain⟨rfl,h,e1,rfl⟩:=e;rw[c] at e1;cases e1;show⟨Same.refl _,by unfold Rp;rfl⟩
def sJ(a:Option KD):Option (List Nat×List D):=match a with
 |some (_,.str x)=>Sb ([],n9 x)
 |some (k,.nd .tup ds)=>if jd k ds=Se then Sb ([],ds) else Sd
 |a=>fj a
def yo(a:Option KD):Option (List Nat×List D):=(fj a).map λp=>(p.1,p.2.mapIdx λi d=>D.tup [.int i,d])
def oa(xs ys:List D):List D:=O6 (λx y=>D.tup [x,y]) xs ys
def sK(a b:Option KD):Option (List Nat×List D):=match fj a with
 |some (bs,xs)=>(match fj b with|some (bs',ys)=>Sb (bs++bs',oa xs ys)|none=>Sd)
 |none=>Sd
noncomputable def eT(i j:Int):Bool:=decide (-(2^62)<=i)&&decide (i<2^62)&&decide (-(2^62)<=j)&&decide (j<2^62)&&decide (j-i<=100000)
noncomputable def d8(i j:Int):List D:=(O9 (j-i).toNat).map λ(k:Nat)=>D.int (i+(k:Int))
def iG(a b:Option KD):Option (List Nat×List D):=match a,b with
 |some (_,.int i),Sb (_,.int j)=>if eT i j then Sb ([],d8 i j) else Sd
 |_,_=>Sd
noncomputable def mW:Si->Bool
 |.Tuple ..=>Se
 |_=>Sf
section
variable {X:Cx} {Z:fA} {c:Cz}
theorem VR.scrK{g:Gh}{f:List Int}(h:VR K g H H1 k (.scr f) v):∃a,v=.ref a/\((g a=Sd/\Rd H1 a (.lst (f.map V.int)))\/LW K a (f.map V.int)):=by
 let c:∀{S:Pr},(∀b,g b≠Sd->S b)->Rp K H1 S (.scr f) v->∃a,v=.ref a/\((g a=Sd/\Rd H1 a (.lst (f.map V.int)))\/LW K a (f.map V.int)):=λl r=>by
  unfold Rp at r;obtain⟨a,e,r⟩:=r;show⟨a,e,r.imp (λr=>⟨?_,r.2⟩) id⟩
  cases q:g a with
  |none=>rfl
  |some i=>show absurd (l a (by rw[q];simp)) r.1
 obtain⟨F,n,d⟩:=h
 cases k with
 |sh=>show c (λb z=>.inl z) d.2
 |fr k=>have d:Tr _ _ _ _ _ _ _:=d;unfold Tr at d;show c (λb z=>.inl z) d.2
 |bo i k=>obtain⟨_,m,_,j⟩:=d;unfold Tr at j;show c (λb z=>.inl z) j.2
theorem Ma{g:Gh}{hd:Hd}(hm:hd.mu=Se)(m:MuOk H (Sg g))(s1:Same H H1)(h:VR K g H H1 k (.nd hd ds) (.ref a)):g a=Sd\/∃i∈mn k,g a=Sb (Sb i):=by
 let f:∀{S:Pr},(∀b,g b≠Sd->S b)->¬S a->g a=Sd:=λo n=>by
  cases q:g a with
  |none=>rfl
  |some i=>show absurd (o a (by rw[q];simp)) n
 cases k with
 |sh=>
  left;obtain⟨F,t,p,d⟩:=h;obtain⟨l,j,c,e1,n1,_⟩:=d.nd;cases e1;show f (λb z=>.inl z) n1
 |fr k=>
  left;obtain⟨l,j,c,e1,n1,_⟩:=(h.sh rfl m s1).nd;cases e1;show f (λb z=>z) n1
 |bo i k=>
  obtain⟨F,t,p,v,d,e⟩:=h
  cases k with
  |fz=>
   left;obtain⟨l,j,c,e1,n1,_⟩:=e.fz_inv.2.nd;cases e1;show f (λb z=>.inl z) n1
  |own w r=>
   right;unfold Tr at e;obtain⟨l,j,c,u,e1,_,_,_,_,s,_⟩:=e;cases e1;show⟨i,OV.mpr rfl,d a ((s a).mpr (.inl ⟨hm,rfl⟩))⟩
theorem iH{ds:List D}(m:MuOk H (Sg g))(s1:Same H H1)(h:VR K g H H1 k d v)(e:fj (Sb (k,d))=Sb (bs,ds)) :
  ∃a s,v=.ref a/\(∃y,SqL K H1 a y)/\iF K (HF K a) s ds/\iF K (G.KR K a) s (ds.mapIdx λi d=>D.tup [.int i,d])/\s.P K g H1/\s.from g H bs:=by
 unfold fj at e;split at e
 ·ext w x c;cases c;split at e
  ·ext hk;cases e;obtain⟨a,o,r,rfl,p,q1,u⟩:=h.items hk m s1;cases(q1);show⟨a,.l a ds,rfl,⟨r,.of p⟩,Fd,Fe,⟨r,.of p,u⟩,Ma rfl m s1 h⟩
  ·cases e
 ·ext w j c;cases c;cases e;obtain⟨a,rfl,q⟩:=h.scrK;rcases q with⟨q1,t⟩|q
  ·show⟨a,.l a _,rfl,⟨_,.inl t⟩,Fd,Fe,⟨_,.inl t,RpL.ints j⟩,.inl q1⟩
  ·show⟨a,.non,rfl,⟨_,.inr q⟩,λi f b _ n=>Fd i f b ⟨_,.inr q,RpL.ints j⟩ n,λi f b _ n=>Fe i f b ⟨_,.inr q,RpL.ints j⟩ n,trivial,trivial⟩
 ·cases e
theorem Jr{m:Ro->Option KD}{tg e:Si}(r:SndE X m e):SndI X (λY=>sJ (m Y)) tg e:=by
 intro Y L y h g U H R c q;dsimp only at h
 cases j:m Y with
 |none=>rw[j] at h;cases h
 |some E=>
  obtain⟨k,d⟩:=E;rw[j] at h;by_cases z:∃x,d=.str x
  ·obtain⟨x,rfl⟩:=z;cases h;show iz (G.ES aw) (r Y k _ j g U H _ c λv f s1 l=>?_);obtain rfl:=l.rd.str;show⟨x,rfl,q _ .non f s1 (L9 x) trivial trivial⟩
  by_cases A:∃b,d=.tup b
  ·obtain⟨b,rfl⟩:=A;simp only[sJ] at h;split at h
   ·ext hk;cases h;show iz (Eu aw) (r Y k _ j g U H _ c λv f s1 l=>?_);obtain⟨a,o,u,rfl,p,q1,B⟩:=l.items hk c.mu s1;cases(q1);show⟨a,rfl,⟨u,.of p⟩,q _ (.t a y) f s1 L8 ⟨u,.of p,B⟩ ?_⟩
    cases w:g a with
    |none=>show w
    |some i=>
     obtain⟨o,e1,n⟩:=c.mu.same s1 a (by rw[Sg,w];simp);rw[p] at e1;cases e1;show absurd rfl (n u)
   ·cases h
  ·let K:fj (Sb (k,d))=Sb (L,y):=by
    cases d with
    |nd D b=>cases D with
     |tup=>show absurd ⟨b,rfl⟩ A
     |_=>show h
    |str x=>show absurd ⟨x,rfl⟩ z
    |_=>show h
   show iz (AL aw) (r Y k d j g U H _ c λv f s1 l=>?_);obtain⟨a,s,rfl,M,I,_,F,C⟩:=iH c.mu s1 l K;show⟨a,rfl,M,q _ s f s1 I F C⟩
theorem Js(O:av X Z c){b:Ro->Option KD}{tg e:Si}(B:gY c.sc "enumerate" = Se)(hn:ak e=Se)(y:mW tg=Se)(l:SndE X b e):SndI X (λY=>yo (b Y)) tg (.Call (.Name "enumerate" p) [e] [] pos):=by
 intro Y I E h g U H R j q;dsimp only at h
 cases f:b Y with
 |none=>rw[f] at h;cases h
 |some o=>
  obtain⟨k,d⟩:=o;rw[f] at h;unfold yo at h
  cases i:fj (Sb (k,d)) with
  |none=>rw[i] at h;cases h
  |some r=>
   obtain⟨w,z⟩:=r;rw[i] at h;cases h
   cases tg with
   |Tuple F C D=>
    show iz (G.A1 (cJ O B) (O.tab.bl _ (by simp[aA])) (bu aw dL (ae hn)) (ae hn)) (l Y _ _ f g U H _ j λv n s1 x=>?_);obtain⟨a,s,rfl,A,_,u,t,m⟩:=iH j.mu s1 x i;show⟨a,rfl,A,q _ s n s1 u t m⟩
   |_=>show absurd y (by simp[mW])
theorem Fg(O:av X Z c){b:Ro->Option KD}{tg e:Si}(n:gY c.sc "range" = Se)(hn:ak e=Se)(d:SndE X b e):SndI X (λY=>iG (Sb (.sh,.int 0)) (b Y)) tg (.Call (.Name "range" p) [e] [] pos):=by
 intro Y r s h g U H R m q;dsimp only[iG] at h;split at h
 ·ext k1 i o j e1 l;cases e1;split at h
  ·ext a;simp only[eT,Oo,decide_eq_true_eq] at a;cases h;show iz (mF (cJ O n) (O.tab.bl _ (by simp[aA])) (bu aw dL (ae hn)) (ae hn)) (d Y _ _ l g U H _ m λv k s1 f=>?_);obtain rfl:=f.rd.int;show⟨j,rfl,a.1.1.2,a.1.2,q _ .non k s1 ?_ trivial trivial⟩;unfold d8;rw[RJ];show Ff 0 _
  ·cases h
 ·cases h
theorem Fh(O:av X Z c){d f:Ro->Option KD}(n:gY c.sc "range" = Se)(hn:ak e=Se)(a:ak e2=Se)(l:SndE X d e)(m:SndE X f e2):SndI X (λY=>iG (d Y) (f Y)) tg (.Call (.Name "range" p) [e,e2] [] pos):=by
 intro Y w z h g U H R t q;dsimp only[iG] at h;split at h
 ·ext k1 i v j s o;split at h
  ·ext b;simp only[eT,Oo,decide_eq_true_eq] at b;cases h;show iz (v5 (cJ O n) (O.tab.bl _ (by simp[aA])) (bu aw (bu aw dL (ae a)) (ae hn)) (by rw[ae hn,ae a];rfl) (ae a)) ?_;show two l m s o t λx y r s1 u k=>?_;obtain rfl:=u.rd.int;obtain rfl:=k.rd.int;show⟨i,j,rfl,⟨b.1.1.1.1,b.1.1.1.2,b.1.1.2,b.1.2⟩,q _ .non r s1 (Ff i _) trivial trivial⟩
  ·cases h
 ·cases h
theorem Fk(h1:iF K (HF K a) s xs)(h2:iF K (HF K b) u ys):iF K (G.LU K a b) (.two s u) (oa xs ys):=by
 intro i g H h m;let h:s.P K g H/\u.P K g H:=h;obtain⟨s1,r⟩:=h1 i g H h.1 m;obtain⟨s2,t⟩:=h2 i g H h.2 m
 let q1:∃c,SqL K H a c/\(xs.length<=i->c.length<=i):=by
  by_cases hi:xs.length<=i
  ·obtain⟨c,e1,e2⟩:=s1 hi;show⟨c,e1,λ_=>e2⟩
  ·obtain⟨⟨c,x,e1,_⟩,_⟩:=r _ (Ot (R5 hi));show⟨c,e1,λz=>absurd z hi⟩
 let E:∃c,SqL K H b c/\(ys.length<=i->c.length<=i):=by
  by_cases hi:ys.length<=i
  ·obtain⟨c,e1,e2⟩:=s2 hi;show⟨c,e1,λ_=>e2⟩
  ·obtain⟨⟨c,x,e1,_⟩,_⟩:=t _ (Ot (R5 hi));show⟨c,e1,λz=>absurd z hi⟩
 obtain⟨c,C,O⟩:=q1;obtain⟨D,b1,b2⟩:=E;show⟨λhi=>⟨c,D,C,b1,?_⟩,λd e=>?_⟩
 ·unfold oa at hi;rw[RE] at hi;by_cases M:xs.length<=i
  ·show .inl (O M)
  ·show .inr (b2 (by lia))
 ·unfold oa at e;rw[Rq] at e
  cases j:xs[i]? with
  |none=>rw[j] at e;simp at e
  |some x=>
   cases k:ys[i]? with
   |none=>rw[j,k] at e;simp at e
   |some y=>
    rw[j,k] at e;simp only[Option.some.injEq] at e;subst e;obtain⟨⟨n,A,e1,e2⟩,R⟩:=r x j;obtain⟨⟨l,F,e3,e4⟩,S⟩:=t y k;show⟨⟨n,l,A,F,e1,e3,e2,e4⟩,λz T L=>?_⟩;obtain⟨p,v,w,f,rfl,rfl,B,Q⟩:=L;let N:=(R v H ⟨rfl,B⟩).2;let I:=(S w H ⟨rfl,Q⟩).2;show⟨aj f,?_⟩;unfold Rp;show⟨p,_,_,rfl,λz=>?_,ah,rfl,.cons (N.same (aj f)) (.cons (I.same (aj f)) .nil)⟩;obtain⟨o,q,_⟩:=m p z;rw[f] at q;cases q
theorem Jt(O:av X Z c){l n:Ro->Option KD}(T:gY c.sc "zip" = Se)(hn:ak e=Se)(f:ak e2=Se)(L:mW tg=Se)(t:SndE X l e)(K:SndE X n e2):SndI X (λY=>sK (l Y) (n Y)) tg (.Call (.Name "zip" p) [e,e2] [] pos):=by
 intro Y bs ds h g U H R r q;dsimp only[sK] at h
 cases j:l Y with
 |none=>rw[j] at h;cases h
 |some D=>
  obtain⟨k,d⟩:=D
  cases o:n Y with
  |none=>
   rw[j,o] at h;split at h
   ·cases h
   ·cases h
  |some m=>
   obtain⟨k2,d2⟩:=m;rw[j,o] at h;split at h
   ·ext P xs S;split at h
    ·ext w ys I;cases h
     cases tg with
     |Tuple es V W=>
      show iz (G.EQ (cJ O T) (O.tab.bl _ (by simp[aA])) (bu aw (bu aw dL (ae f)) (ae hn)) (by rw[ae hn,ae f];rfl) (ae f)) ?_;show two t K j o r λx y A s1 Q F=>?_;obtain⟨a,s,rfl,M,N,_,E,B⟩:=iH r.mu s1 Q S;obtain⟨b,u,rfl,l2,C,_,v,f2⟩:=iH r.mu s1 F I;show⟨a,b,rfl,M,l2,q _ (.two s u) A s1 (Fk N C) ⟨E,v⟩ ⟨B.from_mono λi z=>O5 _ z,f2.from_mono λi z=>OB _ z⟩⟩
     |_=>show absurd L (by simp[mW])
    ·cases h
   ·cases h
noncomputable def Ju:D->Option String
 |.bl _=>Sb "bool"
 |.int _=>Sb "int"
 |.nd .lst _=>Sb "list"
 |.nd .tup _=>Sb "tuple"
 |_=>Sd
def qg(T:Str)(d:D):Option Bool:=match Ju d with
 |some t=>if T="int" then Sb (t=="int" || t=="bool") else if T="bool" then Sb (t=="bool") else if T="list" then Sb (t=="list") else if T="tuple" then Sb (t=="tuple") else Sd
 |none=>Sd
theorem Jv{t:String}(h:Rp K H S d v)(e:Ju d=Sb t):rU K H v (.type t):=by
 cases d with
 |bl b=>obtain rfl:=h.bl;cases e;show .bl b
 |int b=>obtain rfl:=h.int;cases e;show .int b
 |nd c i=>
  cases c with
  |lst=>
   obtain⟨a,o,f,rfl,_,g,q,r⟩:=h.nd;cases e;cases(q);show .lst g
  |tup=>
   obtain⟨a,o,f,rfl,_,g,q,r⟩:=h.nd;cases e;cases(q);show .tup g
  |_=>cases e
 |_=>cases e
noncomputable def eG:List Str:=["int","bool","list","tuple"]
noncomputable def sM:List String:=["bool","int","list","tuple"]
theorem Bm{p:String->Prop}(b:p "bool")(c:p "int")(e:p "list")(f:p "tuple"):∀t∈sM,p t:=by
 intro t a;simp only[sM,OD,O0,or_false] at a
 rcases a with rfl|rfl|rfl|rfl<;>assumption
theorem Bn{t:String}(a:Ju d=Sb t):t∈sM:=by
 cases d with
 |nd b c=>cases b with
  |lst=>cases a;show .tail _ (.tail _ (.head _))
  |tup=>cases a;show .tail _ (.tail _ (.tail _ (.head _)))
  |_=>cases a
 |bl _=>cases a;show .head _
 |int _=>cases a;show .tail _ (.head _)
 |_=>cases a
theorem Fl:∀t∈sM,PP K (.type t) (.type "int")=Sb (t=="int" || t=="bool"):=Bm (by with_unfolding_all rfl) (by with_unfolding_all rfl) (by with_unfolding_all rfl) (by with_unfolding_all rfl)
theorem Bo:∀t∈sM,PP K (.type t) (.type "bool")=Sb (t=="bool"):=Bm (by with_unfolding_all rfl) (by with_unfolding_all rfl) (by with_unfolding_all rfl) (by with_unfolding_all rfl)
theorem Bp:∀t∈sM,PP K (.type t) (.type "list")=Sb (t=="list"):=Bm (by with_unfolding_all rfl) (by with_unfolding_all rfl) (by with_unfolding_all rfl) (by with_unfolding_all rfl)
theorem yp:∀t∈sM,PP K (.type t) (.type "tuple")=Sb (t=="tuple"):=Bm (by with_unfolding_all rfl) (by with_unfolding_all rfl) (by with_unfolding_all rfl) (by with_unfolding_all rfl)
theorem Bq(h:qg T d=Sb b):∃t c,Ju d=Sb t/\T∈eG/\bootBuiltins T=Sb (.type c)/\PP K (.type t) (.type c)=Sb b:=by
 unfold qg at h
 cases a:Ju d with
 |none=>rw[a] at h;cases h
 |some t=>
  rw[a] at h;let hm:=Bn a;dsimp only at h;by_cases e:T="int"
  ·subst e;rw[if_pos rfl] at h;show⟨t,"int",rfl,by simp[eG],by rfl,(Fl t hm).trans h⟩
  by_cases e1:T="bool"
  ·subst e1;rw[if_neg (by decide),if_pos rfl] at h;show⟨t,"bool",rfl,by simp[eG],by rfl,(Bo t hm).trans h⟩
  by_cases e2:T="list"
  ·subst e2;rw[if_neg (by decide),if_neg (by decide),if_pos rfl] at h;show⟨t,"list",rfl,by simp[eG],by rfl,(Bp t hm).trans h⟩
  by_cases e3:T="tuple"
  ·subst e3;rw[if_neg (by decide),if_neg (by decide),if_neg (by decide),if_pos rfl] at h;show⟨t,"tuple",rfl,by simp[eG],by rfl,(yp t hm).trans h⟩
  rw[if_neg e,if_neg e1,if_neg e2,if_neg e3] at h;cases h
def sN(T:Str)(a:Option KD):Option KD:=match a with|some (_,d)=>bV (qg T d)|none=>Sd
theorem Jw(O:av X Z c){i:Ro->Option KD}(y:gY c.sc "isinstance" = Se)(e:gY c.sc T=Se)(hn:ak a=Se)(m:SndE X i a):SndE X (λY=>sN T (i Y)) (.Call (.Name "isinstance" p) [a,.Name T p2] [] pos):=by
 intro Y z d h g U H Q w q;dsimp only[sN] at h;split at h
 ·ext A u s
  cases hi:qg T u with
  |none=>rw[hi] at h;cases h
  |some b=>
   rw[hi] at h;cases h;obtain⟨t,k,x,j,l,n⟩:=Bq hi
   let f:T∈aA/\T≠"__name__"/\(T==("__debug__":Str))=Sf:=by
    simp only[eG,OD,O0,or_false] at j
    rcases j with rfl|rfl|rfl|rfl|rfl|rfl<;>show⟨by simp[aA],by decide,by decide⟩
   show ar (dM p8 (cJ O y) (O.tab.bl _ (by simp[aA])) PyProof.Rows.boot_isinstance (bu aw (bu (AE (v:=.ty k) (cJ O e) (O.tab.bl _ f.1) l rfl f.2.1 f.2.2) dL (ae rfl)) (ae hn)) (by decide) (by decide) (ae hn) (bh rfl)) ?_;show m Y _ _ s g U H _ w λv r s1 o=>⟨v,k,_,b,rfl,Jv o.rd x,n,q _ r s1 Dc⟩
 ·cases h
end
mutual
def jk:D->Ow->Bool
 |.nd _ ds,.own es r=>fJ ds es r
 |d,_=>si d
def fJ:List D->List Ow->Ow->Bool
 |[],_,_=>Se
 |d::ds,es,r=>jk d (es.headD r)&&fJ ds es.tail r
end
section
variable {K:Om} {H H' H0:Hp} {S S':Pr} {g:Gh}
mutual
theorem Tr.clean(m:MuOk H S'):∀{d:D} {k:Ow} {v:V} {F:Pr},jk d k=Se->Tr K H S d k v F->Tr K H S' d k v F
 |.non,_,_,_,c,h=>by unfold Tr at h⊢;show⟨h.1,h.2.im m rfl⟩
 |.bl _,_,_,_,c,h=>by unfold Tr at h⊢;show⟨h.1,h.2.im m rfl⟩
 |.int _,_,_,_,c,h=>by unfold Tr at h⊢;show⟨h.1,h.2.im m rfl⟩
 |.str _,_,_,_,c,h=>by unfold Tr at h⊢;show⟨h.1,h.2.im m rfl⟩
 |.scr ns,k,_,_,c,h=>by simp[jk,si] at c
 |.nd hd ds,.fz,_,_,c,h=>by
  let c:si (.nd hd ds)=Se:=by simpa[jk] using c
  unfold Tr at h⊢;show⟨h.1,h.2.im m c⟩
 |.nd hd ds,.own es r,v,F,c,h=>by
  let c:fJ ds es r=Se:=by simpa[jk] using c
  unfold Tr at h⊢;obtain⟨a,o,j,g,e,q1,f,n1,n2,i,t⟩:=h;show⟨a,o,j,g,e,q1,f,n1,λhm z=>?_,i,TrL.clean m c t⟩;obtain⟨l,b,n⟩:=m a z;rw[q1] at b;cases b
  cases hd with
  |tup=>show n _ f
  |_=>show absurd hm (by simp[Hd.mu])
theorem TrL.clean(m:MuOk H S'):∀{ds:List D} {es:List Ow} {r:Ow} {vs:List V} {F:Pr},fJ ds es r=Se->TrL K H S ds es r vs F->TrL K H S' ds es r vs F
 |[],_,_,_,_,_,h=>by unfold TrL at h⊢;show h
 |d::ds,es,r,vs,F,c,h=>by
  simp only[fJ,Oo] at c;unfold TrL at h⊢;obtain⟨y,i,k,b,e,g,f,j,a⟩:=h;show⟨y,i,k,b,e,g,f,Tr.clean m c.1 j,TrL.clean m c.2 a⟩
end
def ll:Kd->D->Bool
 |.sh,d=>si d
 |.fr k,d=>jk d k
 |.bo _ _,_=>Sf
theorem VR.clean(c:ll kd d=Se)(m:MuOk H0 (Sg g))(s:Same H0 H)(h:VR K g' H0 H kd d v):VR K g H0 H kd d v:=by
 obtain⟨F,f,a⟩:=h;let e:MuOk H (Sx g F):=λb z=>z.elim (λz=>m.same s b z) λz=>a.dom b z;show⟨F,f,?_⟩
 cases kd with
 |sh=>show⟨a.1,a.2.im e c⟩
 |fr k=>show Tr.clean e c a
 |bo i k=>cases c
end
noncomputable def bv:Kd->Bool
 |.bo _ _=>Se
 |_=>Sf
def uB(B:Fn)(kds:List KD):Option KD:=
 match B (kds.map (·.2)) with
 |some (kd,d)=>if(kds.all λp=>i7 p.1 p.2)=Se then(if bv kd=Se then Sd else Sb (kd,d)) else if ll kd d=Se then Sb (kd,d) else Sd
 |none=>Sd
def Aw(B:Option Fn)(a:Option (List KD)):Option KD:=match B,a with|some B,Sb kds=>uB B kds|_,_=>Sd
section
variable {X:Cx} {Z:fA} {c:Cz}
theorem og(K:Om)(h:uB B kds=Sb (kd,d)){Q:VK}(m:MuOk H0 (Sg g))(s:Same H0 H)(r:VRs K g H0 H kds vs)(q:∀v H',Same H H'->VR K g H0 H' kd d v->Q v H'):wy K B vs H Q E:=by
 unfold uB at h;split at h
 ·ext k p i;split at h
  ·ext j;split at h
   ·cases h
   ·cases h;show⟨_,g,_,_,r.sh j m s,m.same s,i,λv c s2 f=>q v c s2 (f.older s)⟩
  ·split at h
   ·ext l;cases h;show⟨_,λ_=>Sd,_,_,r.rd.go (λb o n e=>⟨e,λz=>z rfl⟩),λa z=>absurd rfl z,i,λv c s2 f=>q v c s2 ((f.clean l (m.same s) s2).older s)⟩
   ·cases h
 ·cases h
theorem Mb(O:av X Z c){es:List Si}{a:Ro->Option (List KD)}(k:kZ X a (e::es))(n:gY c.sc x=Se)(n1:ak e=Se)(n2:es.all ak=Se):SndE X (λY=>Aw (Z.fn x) (a Y)) (.Call (.Name x p) (e::es) [] pos):=by
 intro Y s d h g U H Q b q;dsimp only[Aw] at h;split at h
 ·ext B m l j;show ar (De (t:=wA X (e::es)) (λ_ _ _ _=>bz) (O.tab.fn x B l) (cJ O n) cW (ae n1) (bh n2)) (k Y _ j g U H _ b λu r s1 i=>?_);show og X.K h b.mu s1 i λv f s2 o=>q v f (s1.trans s2) o
 ·cases h
theorem Jx(O:av X Z c)(j:gY c.sc x=Se):SndE X (λ_=>Aw (Z.fn x) (Sb [])) (.Call (.Name x p) [] [] pos):=by
 intro Y l d h g U H Q i q;dsimp only[Aw] at h;split at h
 ·ext B f e b;cases b;show ar (EW (O.tab.fn x B e) (cJ O j)) ?_;show og (E:=λ_ _ _=>False) X.K h i.mu (Same.refl H) VRs.nil λv a s2 k=>q v a s2 k
 ·cases h
end
inductive IT where
 |nm (i:Nat)
 |tp (ts:List IT)
mutual
noncomputable def rA:IT->D->Option (List (Nat×D))
 |.nm i,d=>Sb [(i,d)]
 |.tp ts,.nd .tup ds=>sO ts ds
 |_,_=>Sd
noncomputable def sO:List IT->List D->Option (List (Nat×D))
 |[],[]=>Sb []
 |t::ts,d::ds=>match rA t d,sO ts ds with
  |some a,Sb b=>Sb (a++b)
  |_,_=>Sd
 |_,_=>Sd
end
noncomputable def KU(d:D):Sl:=⟨Sf,.fz,d⟩
def setAll:List (Nat×D)->Ro->Ro
 |[],Y=>Y
 |(i,d)::r,Y=>setAll r (Y.set i (Sb (KU d)))
noncomputable def yq(f:Si->Option IT):List Si->Option (List IT)
 |[]=>Sb []
 |e::es=>match f e,yq f es with
  |some a,Sb b=>Sb (a::b)
  |_,_=>Sd
def oh(c:Cz):Nat->Si->Option IT
 |0,_=>Sd
 |n+1,e=>match e with
  |.Name x _=>if pY c x then(bm x c.N).map .nm else Sd
  |.Tuple es _ _=>if es.all ak then(yq (oh c n) es).map .tp else Sd
  |_=>Sd
theorem SE.set{Y:Ro}{U:L2.St}(h:SE K g Y U H)(i:Nat)(r:Rp K H (Sg g) d v):SE K g (Y.set i (Sb (KU d))) (U.set i (Sb v)) H:=by
 show⟨λj f e=>?_,h.mu,by simp[h.len]⟩;by_cases c:j=i
 ·subst c
  let a:j<Y.length:=by
   have:=(OA.mp e).1;simpa using this
  rw[OO a] at e;cases e;show⟨v,_,OO (by rw[<- h.len];show a),λb z=>z.elim,.fz r⟩
 ·rw[ON (Ne.symm c)] at e⊢;show h.slot j f e
theorem SE.pass{Y:Ro}{U:L2.St}(h:SE K g Y U H)(i:Nat)(n:∀a,Y[i]?≠Sb (Sb a)):SE K g Y (U.set i (Sb v)) H:=by
 show⟨λj a e=>?_,h.mu,by simp[h.len]⟩;let b:j≠i:=λz=>n a (z▸e);rw[ON (Ne.symm b)];show h.slot j a e
noncomputable def iI:List (Nat×V)->L2.St->L2.St
 |[],U=>U
 |(i,v)::r,U=>iI r (U.set i (Sb v))
theorem qi:∀(a b:List (Nat×V)) (U:L2.St),iI (a++b) U=iI b (iI a U)
 |[],_,_=>rfl
 |(i,v)::a,b,U=>qi a b _
section
variable {X:Cx} {Z:fA} {c:Cz}
def RpP(K:Om)(H:Hp)(S:Pr):List (Nat×D)->List (Nat×V)->Prop
 |[],vs=>vs=[]
 |(i,d)::r,vs=>∃v q,vs=(i,v)::q/\Rp K H S d v/\RpP K H S r q
theorem RpP.app:∀{a b:List (Nat×D)} {x y:List (Nat×V)},RpP K H S a x->RpP K H S b y->RpP K H S (a++b) (x++y)
 |[],_,_,_,h,g=>by rw[(h)];show g
 |(i,d)::a,b,_,y,h,g=>by
  obtain⟨v,e,rfl,f,c⟩:=h;show⟨v,e++y,rfl,f,RpP.app c g⟩
mutual
def Dh(K:Om):IT->TG
 |.nm i=>ik i
 |.tp ts=>Ic K ts.length (qj K ts)
def qj(K:Om):List IT->xn
 |[]=>Er
 |t::ts=>xo (Dh K t) (qj K ts)
end
mutual
theorem iJ:∀{t:IT} {d:D} {ps:List (Nat×D)} {v:V} {U:L2.St} {Q:L2.St->Hp->Prop},rA t d=Sb ps->Rp K H S d v->(∀vs,RpP K H S ps vs->Q (iI vs U) H)->Dh K t v U H Q
 |.nm i,d,ps,v,U,Q,ht,r,q=>by
  simp only[rA] at ht;cases ht;simp only[Dh];show q [(i,v)] ⟨v,[],rfl,r,rfl⟩
 |.tp ts,d,ps,v,U,Q,ht,r,q=>by
  cases d with
  |nd e j=>
   cases e with
   |tup=>
    simp only[rA] at ht;obtain⟨a,o,h,rfl,_,b,q1,g⟩:=r.nd;cases(q1);obtain⟨f,c⟩:=lq ht g q;simp only[Dh];show⟨a,h,rfl,.of b,c,f⟩
   |_=>simp[rA] at ht
  |_=>simp[rA] at ht
theorem lq:∀{c:List IT} {ds:List D} {ps:List (Nat×D)} {vs:List V} {U:L2.St} {Q:L2.St->Hp->Prop},sO c ds=Sb ps->RpL K H S ds vs->(∀i,RpP K H S ps i->Q (iI i U) H)->qj K c vs U H Q/\vs.length=c.length
 |[],[],ps,vs,U,Q,ht,r,q=>by
  simp only[sO] at ht;cases ht;simp only[qj];rw[r.nil_inv];show⟨⟨rfl,q [] rfl⟩,rfl⟩
 |t::c,d::ds,ps,vs,U,Q,ht,r,q=>by
  simp only[sO] at ht;split at ht
  ·ext a b l h;cases ht;obtain⟨y,m,rfl,n,j⟩:=r.cons_inv;simp only[qj];let f:=(lq (U:=U) (Q:=λ_ _=>True) h j λ_ _=>trivial).2;show⟨⟨y,m,rfl,iJ l n λg o=>(lq h j λe k=>?_).1⟩,by simp[f]⟩;have:=q (g++e) (o.app k);rw[qi] at this;show this
  ·cases ht
 |[],_::_,ps,vs,U,Q,ht,r,q=>by simp[sO] at ht
 |_::_,[],ps,vs,U,Q,ht,r,q=>by simp[sO] at ht
end
theorem c8(h:ak e=Se):SD (e::es) env=(Sf,assign e env)::SD es env:=by
 cases e<;>first|rfl|cases h
theorem qk(O:av X Z c):∀(n:Nat) {e:Si} {t:IT},oh c n e=Sb t->PG X e (Dh X.K t)
 |0,e,t,h=>by cases h
 |n+1,e,t,h=>by
  let v:∀{e:Si} {t:IT},oh c n e=Sb t->PG X e (Dh X.K t):=λh=>qk O n h
  let r:∀{d:List Si} {f:List IT},d.all ak=Se->yq (oh c n) d=Sb f->Eo X d (qj X.K f)/\(SD d X.env).length=f.length/\(SD d X.env).findIdx? (·.1)=Sd:=by
   intro d
   induction d with
   |nil=>intro f _ h;cases h;simp only[qj];show⟨ua,rfl,rfl⟩
   |cons e d m=>
    intro f hn h;rw[Pm,Oo] at hn;unfold yq at h;split at h
    ·ext a b s u;cases h;obtain⟨g,o,q⟩:=m hn.2 u;simp only[qj];show⟨pv (v s) g (by rw[c8 hn.1];rfl),by rw[c8 hn.1,OM,o];rfl,?_⟩;rw[c8 hn.1,O3];simp[q]
    ·cases h
  unfold oh at h;split at h
  ·ext x p;split at h
   ·ext hl
    cases hi:bm x c.N with
    |none=>rw[hi] at h;cases h
    |some i=>
     rw[hi] at h;cases h;let l:=lc O hl;simp only[Dh];show t9 (by rw[O.N];show O.nd) (by rw[O.N];show aZ hi) l.1 l.2
   ·cases h
  ·ext d k p;split at h
   ·ext hn
    cases j:yq (oh c n) d with
    |none=>rw[j] at h;cases h
    |some f=>
     rw[j] at h;cases h;obtain⟨g,o,q⟩:=r hn j;simp only[Dh];show xp O.calm g o q
   ·cases h
  ·cases h
theorem SE.setAll{H:Hp}:∀{ps:List (Nat×D)} {vs:List (Nat×V)} {Y:Ro} {U:L2.St},RpP K H (Sg g) ps vs->SE K g Y U H->SE K g (setAll ps Y) (iI vs U) H
 |[],vs,Y,U,h,se=>by rw[(h)];show se
 |(i,d)::ps,vs,Y,U,h,se=>by
  obtain⟨v,b,rfl,c,a⟩:=h;show SE.setAll (Y:=Y.set i (Sb (KU d))) (vs:=b) a (se.set i c)
noncomputable def bA(ps:List (Nat×D))(Y:Ro):Bool:=ps.all λp=>match Y[p.1]? with|some Sd=>Se|_=>Sf
theorem SE.passAll{H:Hp}:∀{ps:List (Nat×D)} {vs:List (Nat×V)} {Y:Ro} {U:L2.St},RpP K H S ps vs->bA ps Y=Se->SE K g Y U H->SE K g Y (iI vs U) H/\∀(j:Nat) a,Y[j]?=Sb (Sb a)->(iI vs U)[j]?=U[j]?
 |[],vs,Y,U,h,_,se=>by rw[(h)];show⟨se,λ_ _ _=>rfl⟩
 |(i,d)::ps,vs,Y,U,h,hn,se=>by
  obtain⟨v,l,rfl,m,c⟩:=h;simp only[bA,Pm,Oo] at hn
  let b:∀a,Y[i]?≠Sb (Sb a):=λa e=>by
   have:=hn.1;rw[e] at this;cases this
  obtain⟨f,k⟩:=SE.passAll c (by simpa[bA] using hn.2) (se.pass i b);show⟨f,λj a e=>(k j a e).trans (ON (λz=>b a (by rw[z];show e)))⟩
end
noncomputable def Gh.re(m:Nat->Option Nat)(g:Gh):Gh:=λb=>match g b with
 |some (Sb i)=>Sb (m i)
 |x=>x
section
variable {K:Om} {H H':Hp} {g:Gh} {F F2:Pr} {m:Nat->Option Nat}
theorem mq(b:Sj):Sg (g.re m) b↔Sg g b:=by
 unfold Gh.re Sg
 cases h:g b with
 |none=>simp[h]
 |some x=>cases x<;>simp[h]
theorem jl:(g.plus F).plus F2=g.plus (λb=>F b\/F2 b):=by
 funext b;unfold Gh.plus;by_cases c:F2 b
 ·simp[c]
 ·by_cases a:F b
  ·simp[a]
  ·simp[a,c]
theorem aV(h:F b):g.plus F b=Sb Sd:=by
 unfold Gh.plus;rw[if_pos h]
theorem SE.upd(h:SE K g Y U H)(d:g p=Sb Sd)(j:∀xs,o≠.tup xs):SE K g Y U (upd H p o):=by
 let f:∀b c,b≠p->H b=Sb c->L2.upd H p o b=Sb c:=λb c n e=>by rw[ac n];show e
 show⟨λi k e=>?_,λb z=>?_,h.len⟩
 ·obtain⟨v,F,e1,e2,e3⟩:=h.slot i k e;show⟨v,F,e1,e2,e3.go (λb c a e=>f b c (λz=>?_) e) λ_ _ _ n=>n⟩;subst z;rcases a with a|a
  ·show a (by rw[Sg,d];simp)
  ·rw[e2 b a] at d;cases d
 ·by_cases a:b=p
  ·show⟨o,by rw[a];show ah,j⟩
  ·obtain⟨c,e,n⟩:=h.mu b z;show⟨c,f b c a e,n⟩
noncomputable def bi(Y:Ro)(cap:List (Option Nat)):Ro:=cap.map λo=>o.bind λi=>(Y[i]?).join
noncomputable def jm(cap:List (Option Nat))(i:Nat):Option Nat:=cap.findIdx? λo=>o==Sb i
noncomputable def lr(cap:List (Option Nat)):Bool:=decide (cap.filterMap id).Nodup
theorem uC:∀{cap:List (Option Nat)} {j i:Nat},(cap.filterMap id).Nodup->cap[j]?=Sb (Sb i)->jm cap i=Sb j
 |[],j,i,_,e=>by simp at e
 |o::cap,0,i,hn,e=>by
  simp at e;subst e;simp[jm,O3]
 |o::cap,j+1,i,hn,e=>by
  let c:cap[j]?=Sb (Sb i):=by simpa using e
  let hm:i∈cap.filterMap id:=OT.mpr ⟨Sb i,OK c,rfl⟩
  let a:(o==Sb i)=Sf:=by
   cases o with
   |none=>rfl
   |some k=>
    simp only[Pi,id] at hn;have:=(OX.mp hn).1;simp only[beq_eq_false_iff_ne,ne_eq,Option.some.injEq];intro z;subst z;show this hm
  let b:(cap.filterMap id).Nodup:=by
   cases o with
   |none=>simpa using hn
   |some k=>simp only[Pi,id] at hn;show(OX.mp hn).2
  let d:=uC b c;unfold jm at d⊢;rw[O3,a,d];rfl
theorem SE.cap(h:SE K g Y U H){cap:List (Option Nat)}(k:lr cap=Se):SE K (g.re (jm cap)) (bi Y cap) (cV U cap) H:=by
 show⟨λj c e=>?_,λb z=>h.mu b ((mq b).mp z),by simp[bi,cV]⟩;unfold bi at e;unfold cV;rw[Op] at e⊢
 cases q:cap[j]? with
 |none=>rw[q] at e;cases e
 |some o=>
  rw[q] at e
  cases o with
  |none=>cases e
  |some i=>
   let a:(Y[i]?).join=Sb c:=by simpa using e
   let e2:Y[i]?=Sb (Sb c):=by
    cases z:Y[i]? with
    |none=>rw[z] at a;cases a
    |some w=>rw[z] at a;have:w=Sb c:=a;rw[this]
   obtain⟨v,F,d,f,l⟩:=h.slot i c e2;show⟨v,F,by simp[d],λb z=>?_,l.go (λ_ _ _ h=>h) λb o _ n z=>n ((mq b).mp z)⟩;unfold Gh.re;rw[f b z];change Sb (jm cap i)=_;rw[uC (by simpa[lr] using k) q]
end
noncomputable def fy(scope sc:SA):SA:=
 { scope with names:=scope.names.map λ(n,k)=>if(k==.free&&sc.kind==.function&&sc.names.lookup n==Sb .cell) then(n,.cell) else(n,k) }
theorem Br{a:Env}(h:a.scope=sc):relabel scope a=fy scope sc:=by
 subst h;rfl
def ax(c:Cz)(scope:SA):List (Option Nat):=scope.names.map λ(x,k)=>if k=.free then bm x c.N else Sd
noncomputable def ag(scope:SA):List Str:=scope.names.map (·.1)
def bj(c:Cz)(scope:SA):Bool:=
 scope.kind==.function&&decide (ag scope).Nodup&&lr (ax c scope)&&scope.names.all λ(x,k)=>(k != .free||c.sc.names.lookup x==Sb .cell||c.sc.names.lookup x==Sb .free)
theorem dC:∀{l:List (Str×SF)} {x:Str} {k:SF},(l.map (·.1)).Nodup->(x,k)∈l->l.lookup x=Sb k
 |(y,j)::r,x,k,hn,hm=>by
  rw[OU];rw[OI,OX] at hn;rcases OD.mp hm with e|hm
  ·cases e;simp
  ·have:x≠y:=λz=>hn.1 (by rw[<- z];show Oy.mpr ⟨(x,k),hm,rfl⟩);let e:(x==y)=Sf:=by simpa using this
   rw[e];show dC hn.2 hm
theorem dO(O:av X Z c)(h:bj c scope=Se):fC X (ag scope) scope (ax c scope):=by
 simp only[bj,Oo,decide_eq_true_eq,Pw,beq_iff_eq] at h;obtain⟨⟨⟨o,l⟩,_⟩,n⟩:=h;let hk:∀x,X.env.kindOf x=c.sc.names.lookup x:=λx=>by change X.env.scope.names.lookup x=_;rw[O.sc]
 let a:∀y∈scope.names,y.2=.free->X.env.kindOf y.1=Sb .cell\/X.env.kindOf y.1=Sb .free:=λy f e=>by
  have:=n y f;simp only[PL,bne_iff_ne,beq_iff_eq] at this;rw[hk];rcases this with(z|z)|z
  ·show absurd e z
  ·show .inl z
  ·show .inr z
 show⟨o,λy f e=>?_,λy f e=>?_,a,by simp[ax,ag],λj i x d g=>?_⟩
 ·obtain⟨x,k⟩:=y;let m:k=.cell:=e;subst m;show dC l f
 ·obtain⟨x,k⟩:=y;let m:k=.local:=e;subst m;show dC l f
 ·unfold ag at d;unfold ax at g;rw[Op] at d g
  cases q:scope.names[j]? with
  |none=>rw[q] at d;cases d
  |some y=>
   rw[q] at d g;obtain⟨y,k⟩:=y;cases d
   let b:(if k=.free then bm y c.N else Sd)=Sb i:=by simpa using g
   split at b
   ·ext e;subst e;let hm:=OK q;show⟨by rw[O.N];show aZ b,dC l hm,a _ hm rfl⟩
   ·cases b
theorem cR{c:Cz}(O:av X Z c)(h:bj c scope=Se)(C:Sj)(s:Sk)(H:Hp)(ex:List Sj):av (ao X (ag scope) scope C s H ex) Z ⟨fy scope c.sc,ag scope,fG scope⟩:=by
 simp only[bj,Oo,decide_eq_true_eq] at h;show⟨Br O.sc,rfl,λx z=>z,O.calm,h.1.1.2,⟨O.tab.fn,O.tab.cf,O.tab.fm,O.tab.bl,O.tab.units,O.tab.gd,O.tab.cst⟩⟩
def dP(tg:IT)(q:Ro->Option Bool)(B:Ro->Option KD)(Y0:Ro)(d:D):Option (Option KD):=match rA tg d with
 |some ps=>if bA ps Y0=Se then(match q (setAll ps Y0) with|some Se=>(B (setAll ps Y0)).map Sb|some Sf=>Sb Sd|none=>Sd) else Sd
 |none=>Sd
def aT(r:Ow)(f:D->Option (Option KD)):List D->Option (List D)
 |[]=>Sb []
 |d::ds=>match f d,aT r f ds with
  |some (Sb kd),Sb ys=>if bE r kd=Se then Sb (kd.2::ys) else Sd
  |some Sd,Sb ys=>Sb ys
  |_,_=>Sd
theorem jo:∀{a b:List D} {ys:List D},aT r f (a++b)=Sb ys->∃x y,aT r f a=Sb x/\aT r f b=Sb y/\ys=x++y
 |[],b,ys,h=>⟨[],ys,rfl,h,rfl⟩
 |d::a,b,ys,h=>by
  rw[PH] at h;unfold aT at h;split at h
  ·ext g j e1 e2;split at h
   ·ext i;cases h;obtain⟨x,y,e,c,rfl⟩:=jo e2;show⟨g.2::x,y,by simp[aT,e1,e,i],c,rfl⟩
   ·cases h
  ·ext j e1 e2;cases h;obtain⟨x,y,e,c,rfl⟩:=jo e2;show⟨x,y,by simp[aT,e1,e],c,rfl⟩
  ·cases h
theorem lu{a:List D}{d:D}{x:List D}(h:aT r f a=Sb x){y:List D}(h1:aT r f [d]=Sb y):aT r f (a++[d])=Sb (x++y):=by
 induction a generalizing x with
 |nil=>cases h;show h1
 |cons e a b=>
  unfold aT at h;rw[PH];unfold aT;split at h
  ·ext i g e1 e2;split at h
   ·ext c;cases h;rw[e1,b e2];simp[c]
   ·cases h
  ·ext g e1 e2;cases h;rw[e1,b e2]
  ·cases h
theorem sP{f:D->Option (Option KD)}{ds ys:List D}(h:aT r f ds=Sb ys){i:Nat}(e:ds[i]?=Sb d){x:List D}(c:aT r f (ds.take i)=Sb x) :
  (f d=Sb Sd/\aT r f (ds.take (i+1))=Sb x)\/∃a,f d=Sb (Sb a)/\bE r a=Se/\aT r f (ds.take (i+1))=Sb (x++[a.2]):=by
 let j:ds=ds.take i++(d::ds.drop (i+1)):=by
  obtain⟨hl,rfl⟩:=OA.mp e;rw[<- O2 hl,P6]
 let l:ds.take (i+1)=ds.take i++[d]:=by rw[Pp,e];rfl
 rw[j] at h;obtain⟨_,y,_,b,_⟩:=jo h;unfold aT at b;rw[l];split at b
 ·ext a k e1 e2;split at b
  ·ext g;show .inr ⟨a,e1,g,lu c (by simp[aT,e1,g])⟩
  ·cases b
 ·ext k e1 e2;show .inl ⟨e1,by simpa using lu c (y:=[]) (by simp[aT,e1])⟩
 ·cases b
def mX(r:Ow)(it:Option (List Nat×List D))(f:D->Option (Option KD)):Option KD:=match it with
 |some (_,ds)=>if ds.length<=100000 then(match aT r f ds with|some ys=>Sb (.fr (.own [] r),.lst ys)|none=>Sd) else Sd
 |none=>Sd
theorem jp:∀{ds ys:List D},aT r f ds=Sb ys->ys.length<=ds.length
 |[],ys,h=>by cases h;show Ox _
 |d::ds,ys,h=>by
  unfold aT at h;split at h
  ·ext b a e1 e2;split at h
   ·cases h;have:=jp e2;simp;lia
   ·cases h
  ·ext a e1 e2;cases h;have:=jp e2;simp;lia
  ·cases h
section
variable {K:Om} {H:Hp} {S:Pr}
theorem TrL.snoc:∀{ds:List D} {r:Ow} {us:List V} {F F2:Pr} {d:D} {v:V},TrL K H S ds [] r us F->Tr K H S d r v F2->(∀b,F b->¬F2 b)->TrL K H S (ds++[d]) [] r (us++[v]) (λb=>F b\/F2 b)
 |[],r,us,F,F2,d,v,h,t,dj=>by
  unfold TrL at h;obtain⟨rfl,hn⟩:=h;unfold TrL;show⟨v,[],F2,λ_=>False,rfl,λb=>⟨λz=>.inl (z.elim (λz=>absurd z (hn b)) id),λz=>z.elim .inr λz=>z.elim⟩,λ_ _ z=>z,t,?_⟩;unfold TrL;show⟨rfl,λ_ z=>z⟩
 |e::ds,r,us,F,F2,d,v,h,t,dj=>by
  unfold TrL at h;obtain⟨y,k,g,f,rfl,c,a,l,j⟩:=h;unfold TrL;show⟨y,k++[v],g,λb=>f b\/F2 b,rfl,λb=>?_,λb i z2=>?_,l,TrL.snoc j t λb z=>dj b ((c b).mpr (.inr z))⟩
  ·change F b\/F2 b↔g b\/f b\/F2 b;rw[c b,or_assoc]
  ·rcases z2 with z2|z2
   ·show a b i z2
   ·show dj b ((c b).mpr (.inl i)) z2
end
def Fp(X:Cx)(q:List Si):TT:=λU H Q=>∀pins s,Inv X pins U H s->Sq (So X.prog X.w) X.A (forIn q Se λc r=>if r=Se then do let B <- isTrue c X.env (eval c X.env);pure (ForInStep.yield B) else pure (ForInStep.yield r)) (TP X pins U Q) X.xe s
theorem om{b:TT}(p:A3 X ifs b)(h:b U H Q):Fp X ifs U H Q:=λa s I=>p a s U H Q I h
def jM(X:Cx)(f:Ro->Option Bool)(q:List Si):Prop:=∀Y b,f Y=Sb b->∀g U H Q,SE X.K g Y U H->(∀H',Same H H'->Q b H')->Fp X q U H Q
theorem Di:jM X (λ_=>Sb Se) []:=λY b h g U H Q a q=>by cases h;show om um (q H (Same.refl H))
theorem Jy{e:Si}(h:SndT X f e):jM X f [e]:=λY b a g U H Q c q=>om (uo iy) (h Y b a g U H Q c q)
section
variable {X:Cx} {Z:fA} {c:Cz}
abbrev Mc(K:Om)(f:List J.D->Option (List J.D))(r:Ow)(ds:List J.D)(g g':Gh)(Y:Ro)(H1:Hp)(D:Sj):Nat->Nat->L2.St->Hp->Prop:=λi m U' H'=>m=ds.length-i/\i<=ds.length/\∃(q:Pr) (us:List V) (B:List J.D),f (ds.take i)=Sb B/\(∀b,q b->H1 b=Sd/\b≠D)/\SE K (g'.plus λb=>b=D\/q b) Y U' H'/\
  (∀b o,H1 b=Sb o->H' b=Sb o)/\H' D=Sb (.lst us)/\TrL K H' (Sx g λb=>b=D\/q b) B [] r us q
theorem yr(O:av X Z c){fi:Ro->Option (List Nat×List D)}(hck:bj c scope=Se)(hi:SndI X fi tg iter)(hw:oh ⟨fy scope c.sc,ag scope,fG scope⟩ n tg=Sb t)(hc:∀C s H ex,jM (ao X (ag scope) scope C s H ex) ft ifs)(hp:∀C s H ex,SndE (ao X (ag scope) scope C s H ex) fe elt)(h:mX r (fi Y) (dP t ft fe (bi Y (ax c scope)))=Sb (kd,d)){U:L2.St}{Q:VK}(se:SE X.K g Y U H)(q:∀v H',Same H H'->VR X.K g H H' kd d v->Q v H') :
  jb (wI X tg iter) (λv U H Q=>∀C s S ex,wG (ao X (ag scope) scope C s S ex) tg v U H Q) (λU H Q=>∀C s S ex,Fp (ao X (ag scope) scope C s S ex) ifs U H Q) (λU H Q=>∀C s S ex,wE (ao X (ag scope) scope C s S ex) elt U H Q) (ax c scope) U H Q:=by
 let ha:lr (ax c scope)=Se:=by
  simp only[bj,Oo] at hck;show hck.1.2
 unfold mX at h;split at h
 ·ext bs p hx;split at h
  ·ext hj;split at h
   ·ext ys hm;cases h;let CO:=cR O hck;show hi Y bs p hx g U H _ se λjj hl H1 s1 jt sp sf D hD=>?_;let A:SE X.K (g.re (jm (ax c scope))) (bi Y (ax c scope)) (cV U (ax c scope)) H1:=(se.same s1).cap ha;generalize hq:g.re (jm (ax c scope))=g' at A;let gS:∀b,Sg g' b↔Sg g b:=λb=>by rw[<- hq];show mq b
    generalize hY:bi Y (ax c scope)=Yc at A hm;generalize hU:cV U (ax c scope)=Uc at A;clear hY hU
    show⟨Mc X.K (aT r (dP t ft fe Yc)) r p g g' Yc H1 D,
     ⟨p.length,by simp,OS _,λ_=>False,[],[],by simp[aT],λb z=>z.elim,?_,λb o e=>aj hD _ _ e,ah,by unfold TrL;show⟨rfl,λ_ z=>z⟩⟩,?_⟩
    ·show A.plus (aj hD) (λb z=>z.elim (λz=>z▸hD) λz=>z.elim) λb z=>z.elim (λz=>⟨.lst [],z▸ah,λxs h=>by cases h⟩) λz=>z.elim
    rintro i m U' H' ⟨rfl,h1,f,T,yi,w,j,N,kk,gD,tr⟩
    let F:∀b,Sg (g'.plus λb=>b=D\/f b) b↔Sx g (λb=>b=D\/f b) b:=λb=>(am b).trans (or_congr (gS b) Iff.rfl);let I:∀b o,H1 b=Sb o->¬(b=D\/f b):=λb o e z=>z.elim (λz=>by rw[z,hD] at e;cases e) λz=>by rw[(j b z).1] at e;cases e
    let hn:hl.P X.K (g'.plus λb=>b=D\/f b) H':=Src.mono (λb o e n z=>((F b).mp z).elim n (I b o e)) (λb o _ e=>kk b o e) (λa e=>sf.from_t e) sp;obtain⟨j1,j2⟩:=jt i _ H' hn N.mu;by_cases B:i<p.length
    ·let hd:p[i]?=Sb p[i]:=Ot B;obtain⟨go,yl⟩:=j2 _ hd;show .inr ⟨go,λx H2 hy C s0 S ex=>?_⟩;obtain⟨s2,rx⟩:=yl x H2 hy;let st:=sP hm hd w
     let W:∃o,dP t ft fe Yc p[i]=Sb o:=by
      rcases st with⟨e,_⟩|⟨kd,e,_⟩
      ·show⟨_,e⟩
      ·show⟨_,e⟩
     obtain⟨o0,E⟩:=W;let l:=E;unfold dP at l;split at l
     ·ext ps ho;split at l
      ·ext hr;show ur (qk (CO C s0 S ex) n hw) (iJ ho rx λvs hf C1 hk hh hg=>?_);let t1:=SE.setAll hf (N.same s2);obtain⟨t2,t3⟩:=SE.passAll hf hr (N.same s2);split at l
       ·ext hT
        -- the test holds
        show hc C1 hk hh hg _ Se hT _ _ _ _ t1 λH3 s3=>xM λC2 hs hu ht=>?_
        cases R:fe (setAll ps Yc) with
        |none=>rw[R] at l;cases l
        |some ke=>
         rw[R] at l;cases l;obtain⟨ky,y⟩:=ke
         let u:bE r (ky,y)=Se/\aT r (dP t ft fe Yc) (p.take (i+1))=Sb (yi++[y]):=by
          rcases st with⟨e,_⟩|⟨kd,e,e2,e3⟩
          ·rw[E] at e;cases e
          ·rw[E] at e;cases e;show⟨e2,e3⟩
         show hp C2 hs hu ht _ ky y R _ _ H3 _ (t1.same s3) λvy H4 s4 r4=>?_;obtain⟨Fy,y1,y2⟩:=r4;let HJ:Same H' H4:=(s2.trans s3).trans s4;let M:SE X.K (g'.plus λb=>b=D\/f b) Yc (iI vs U') H3:=t2.same s3
         let hz:∀b,Fy b->(g'.plus λb=>b=D\/f b) b=Sd:=λb z=>by
          cases e:(g'.plus λb=>b=D\/f b) b with
          |none=>rfl
          |some k=>
           obtain⟨o,q2,_⟩:=M.mu b (by rw[Sg,e];simp);rw[y1 b z] at q2;cases q2
         let mm:MuOk H4 (Sx (g'.plus λb=>b=D\/f b) Fy):=λb z=>z.elim (λz=>M.mu.same s4 b z) λz=>y2.dom b z;obtain⟨F2,a1,a2⟩:=VR1.fit u.1 mm hz (λb z=>z) y2;let hv:H4 D=Sb (.lst T):=HJ _ _ gD;let L:¬F2 D:=λz=>by have:=y1 D (a1 D z);rw[(s2.trans s3) _ _ gD] at this;cases this
         let V:∀b,F2 b->H' b=Sd:=λb z=>(s2.trans s3).free (y1 b (a1 b z))
         let h0:T.length<=i:=by
          rw[tr.len];show OW (jp w) (by rw[OP];lia)
         let kD:∀b o,b≠D->H4 b=Sb o->upd H4 D (.lst (T++[vy])) b=Sb o:=λb o n e=>by rw[ac n];show e
         show⟨T,hv,O1 h0 (Ov B (aJ hj)),p.length-(i+1),by lia,rfl,B,λb=>f b\/F2 b,T++[vy],yi++[y],u.2,λb z=>?_,?_,λb o e=>?_,ah,?_⟩
         ·rcases z with z|z
          ·show j b z
          ·show⟨?_,λe=>L (e▸z)⟩
           cases e:H1 b with
           |none=>rfl
           |some o=>have:=V b z;rw[kk b o e] at this;cases this
         ·let e1:(g'.plus λb=>b=D\/(f b\/F2 b))=(g'.plus λb=>b=D\/f b).plus F2:=by
           rw[jl];congr 1;funext b;show propext ⟨λz=>z.elim (λz=>.inl (.inl z)) λz=>z.elim (λz=>.inl (.inr z)) .inr,λz=>z.elim (λz=>z.elim .inl λz=>.inr (.inl z)) λz=>.inr (.inr z)⟩
          rw[e1];show SE.upd (M.plus s4 (λb z=>y1 b (a1 b z)) λb z=>y2.dom b (a1 b z)) ?_ (λxs h=>by cases h);rw[jl];show aV (.inl (.inl rfl))
         ·show kD b o (λz=>I b o e (.inl z)) (HJ _ _ (kk b o e))
         ·show TrL.snoc (tr.go (λb o hb e=>kD b o (λz=>?_) (HJ _ _ e)) λb o e n z=>?_) ((a2 (λb=>g b≠Sd\/b=D\/f b\/F2 b) λb z=>?_).go (λb o hb e=>kD b o (λz=>?_) e) λb o e n z=>n z) λb z1 z2=>?_
          ·subst z;show hb.elim (λz=>z (.inr (.inl rfl))) λz=>(j b z).2 rfl
          ·rcases z with z|z|z|z
           ·show n (.inl z)
           ·show n (.inr (.inl z))
           ·show n (.inr (.inr z))
           ·rw[V b z] at e;cases e
          ·rcases z with z|z|z|z
           ·show .inr (.inl ((F b).mpr (.inl z)))
           ·show .inr (.inl ((F b).mpr (.inr (.inl z))))
           ·show .inr (.inl ((F b).mpr (.inr (.inr z))))
           ·show .inr (.inr (.inl z))
          ·subst z;show hb.elim (λz=>z (.inr (.inl rfl))) L
          ·obtain⟨o,e,_⟩:=tr.dom b z1;rw[V b z2] at e;cases e
       ·ext hT;cases l
        let u:aT r (dP t ft fe Yc) (p.take (i+1))=Sb yi:=by
         rcases st with⟨_,e⟩|⟨kd,e,_⟩
         ·show e
         ·rw[E] at e;cases e
        show hc C1 hk hh hg _ Sf hT _ _ _ _ t1 λH3 s3=>xL ?_;let sQ:=s2.trans s3;show⟨p.length-(i+1),by lia,rfl,B,f,T,yi,u,j,t2.same s3,λb o e=>sQ _ _ (kk b o e),sQ _ _ gD,tr.go (λb o _ e=>sQ _ _ e) λ_ _ _ n=>n⟩
       ·cases l
      ·cases l
     ·cases l
    ·let e:i=p.length:=by lia
     subst e;rw[OR,hm] at w;cases w;show .inl ⟨j1 (Ox _),q _ H' (λb o e=>kk b o (s1 _ _ e)) ⟨λb=>b=D\/f b,λb z=>s1.free (z.elim (λz=>z▸hD) λz=>(j b z).1),?_⟩⟩;change Tr _ _ _ _ _ _ _;unfold Tr
     show⟨D,_,T,f,rfl,gD,rfl,λ_ z=>(j D z).2 rfl,(λh=>nomatch h),λb=>⟨λz=>z.imp (λz=>⟨rfl,z⟩) id,λz=>z.imp (λz=>z.2) id⟩,tr⟩
   ·cases h
  ·cases h
 ·cases h
noncomputable def dQ:Si->Bool
 |.Set ..=>Sf
 |_=>Se
theorem dF(h:dQ e=Se)(x:Sh):foldedSetIterable e env x=pure x:=by
 cases e<;>first|rfl|cases h
theorem Fs(O:av X Z c){p:Ro->Option (List Nat×List D)}(hck:bj c scope=Se)(hns:dQ iter=Se)(hi:SndI X p tg iter)(k:oh ⟨fy scope c.sc,ag scope,fG scope⟩ n tg=Sb t)(m:∀C s H ex,jM (ao X (ag scope) scope C s H ex) ft ifs)(j:∀C s H ex,SndE (ao X (ag scope) scope C s H ex) fe elt) :
  SndE X (λY=>mX r (p Y) (dP t ft fe (bi Y (ax c scope)))) (.ListComp elt [⟨tg,iter,ifs,0⟩] scope pos):=by
 intro Y x d h g U H Q w q
 show ar (pT O.calm (dO O hck) wq
  (λC s e ex a b o i v u l I r f=>wt a b o i v u l I r (f C s e ex)) (λC s e ex a b o i l I f=>f C s e ex a b I) (λC s e ex a b o i l I f=>f C s e ex a b I) (dF hns)) (yr O hck hi k m j h w q)
end
mutual
inductive IE where
 |var (i:Nat)
 |lit (d:D)
 |bin (op:SJ) (a b:IE)
 |cmp (op:SI) (a b:IE)
 |not (a:IE)
 |bool (op:BoolOp) (es:IEs)
 |ifx (t a b:IE)
 |lst (k:Ow) (es:IEs)
 |tup (k:Ow) (es:IEs)
 |dnew (t:Nat) (r:Ow)
 |ix (a b:IE)
 |sl (a:IE) (lo hi:IO)
 |lrev (a:IE)
 |dspT (m:Nat) (k a:IE)
 |dspN (ks:List D) (es:IEs)
 |isi (T:Str) (a:IE)
 |fld (f:Str) (a:IE)
 |fn (i:Nat) (es:IEs)
 |blt (x:Str) (es:IEs)
 |comp (r:Ow) (cap:List (Option Nat)) (tg:IT) (it:II) (ts:IO) (elt:IE)
inductive IEs where
 |nil
 |cons (a:IE) (r:IEs)
inductive IO where
 |non
 |som (a:IE)
inductive II where
 |e (a:IE)
 |rng (a b:IE)
 |enm (a:IE)
 |zp (a b:IE)
end
def yt(t:Nat)(r:Ow):Option KD:=Sb (.fr (.own [] r),.dic t [] [])
mutual
def aa(Z:Nat->Option Fn):IE->Ro->Option KD
 |.var i,Y=>pZ i Y[i]?
 |.lit d,_=>Sb (.sh,d)
 |.bin op a b,Y=>x6 op (aa Z a Y) (aa Z b Y)
 |.cmp op a b,Y=>bV (lf op (aa Z a Y) (aa Z b Y))
 |.not a,Y=>bV ((eC (aa Z a Y)).map (!·))
 |.bool op es,Y=>lw Z op es Y
 |.ifx t a b,Y=>Jc (aD Z t Y) (aa Z a Y) (aa Z b Y)
 |.lst k es,Y=>x9 k (aP Z es Y)
 |.tup k es,Y=>iC k (aP Z es Y)
 |.dnew t r,_=>yt t r
 |.ix a b,Y=>sB (aa Z a Y) (aa Z b Y)
 |.sl a lo hi,Y=>HI (aa Z a Y) (fK Z lo Y) (fK Z hi Y)
 |.lrev a,Y=>qc (aa Z a Y)
 |.dspN ks es,Y=>jL ks (aP Z es Y)
 |.dspT m k a,Y=>qe m (aa Z k Y) (aa Z a Y)
 |.isi T a,Y=>sN T (aa Z a Y)
 |.fld f a,Y=>yb f (aa Z a Y)
 |.fn i es,Y=>Aw (Z i) (aP Z es Y)
 |.blt x es,Y=>sI x (aP Z es Y)
 |.comp r cap tg it ts elt,Y=>mX r (cw Z it Y) (dP tg (cD Z ts) (aa Z elt) (bi Y cap))
def aD(Z:Nat->Option Fn):IE->Ro->Option Bool
 |.cmp op a b,Y=>lf op (aa Z a Y) (aa Z b Y)
 |.not a,Y=>(aD Z a Y).map (!·)
 |.bool op es,Y=>fL Z op es Y
 |.var i,Y=>eC (pZ i Y[i]?)
 |.ix a b,Y=>eC (sB (aa Z a Y) (aa Z b Y))
 |.isi T a,Y=>eC (sN T (aa Z a Y))
 |.fn i es,Y=>eC (Aw (Z i) (aP Z es Y))
 |.blt x es,Y=>eC (sI x (aP Z es Y))
 |_,_=>Sd
def cD(Z:Nat->Option Fn):IO->Ro->Option Bool
 |.non,_=>Sb Se
 |.som a,Y=>aD Z a Y
def aP(Z:Nat->Option Fn):IEs->Ro->Option (List KD)
 |.nil,_=>Sb []
 |.cons a r,Y=>fI (aa Z a Y) (aP Z r Y)
def lw(Z:Nat->Option Fn)(op:BoolOp):IEs->Ro->Option KD
 |.nil,_=>Sd
 |.cons a r,Y=>match r with
  |.nil=>aa Z a Y
  |.cons _ _=>(match aa Z a Y with
   |some (_,.bl x)=>if(op==.And)=x then lw Z op r Y else Sb (.sh,.bl x)
   |_=>Sd)
def fL(Z:Nat->Option Fn)(op:BoolOp):IEs->Ro->Option Bool
 |.nil,_=>Sd
 |.cons a r,Y=>match r with
  |.nil=>aD Z a Y
  |.cons _ _=>(match aD Z a Y with
   |some x=>if(op==.And)=x then fL Z op r Y else Sb x
   |none=>Sd)
def fK(Z:Nat->Option Fn):IO->Ro->Option (Option Int)
 |.non,_=>Sb Sd
 |.som a,Y=>Bh (aa Z a Y)
def cw(Z:Nat->Option Fn):II->Ro->Option (List Nat×List D)
 |.e a,Y=>sJ (aa Z a Y)
 |.rng a b,Y=>iG (aa Z a Y) (aa Z b Y)
 |.enm a,Y=>yo (aa Z a Y)
 |.zp a b,Y=>sK (aa Z a Y) (aa Z b Y)
end
section
theorem uD:aa Z (.var i) Y=pZ i Y[i]?:=rfl
theorem Bs:aa Z (.lit d) Y=Sb (.sh,d):=rfl
theorem Bt:aa Z (.bin op a b) Y=x6 op (aa Z a Y) (aa Z b Y):=rfl
theorem Bu:aa Z (.cmp op a b) Y=bV (lf op (aa Z a Y) (aa Z b Y)):=rfl
theorem Bv:aa Z (.not a) Y=bV ((eC (aa Z a Y)).map (!·)):=rfl
theorem iK:aa Z (.bool op es) Y=lw Z op es Y:=rfl
theorem uE:aa Z (.ifx t a b) Y=Jc (aD Z t Y) (aa Z a Y) (aa Z b Y):=rfl
theorem kj:aa Z (.lst k es) Y=x9 k (aP Z es Y):=rfl
theorem iM:aa Z (.tup k es) Y=iC k (aP Z es Y):=rfl
theorem oo:aa Z (.ix a b) Y=sB (aa Z a Y) (aa Z b Y):=rfl
theorem Fu:aa Z (.sl a lo hi) Y=HI (aa Z a Y) (fK Z lo Y) (fK Z hi Y):=rfl
theorem yu:aa Z (.lrev a) Y=qc (aa Z a Y):=rfl
theorem yw:aa Z (.dspN ks es) Y=jL ks (aP Z es Y):=rfl
theorem yx:aa Z (.dspT m k a) Y=qe m (aa Z k Y) (aa Z a Y):=rfl
theorem uF:aa Z (.isi T a) Y=sN T (aa Z a Y):=rfl
theorem Bw:aa Z (.fld f a) Y=yb f (aa Z a Y):=rfl
theorem yy{Z:Nat->Option Fn}:aa Z (.fn i es) Y=Aw (Z i) (aP Z es Y):=rfl
theorem Bx:aa Z (.blt x es) Y=sI x (aP Z es Y):=rfl
theorem ql:aa Z (.comp r cap tg it ts elt) Y=mX r (cw Z it Y) (dP tg (cD Z ts) (aa Z elt) (bi Y cap)):=rfl
theorem qm:aD Z (.cmp op a b) Y=lf op (aa Z a Y) (aa Z b Y):=rfl
theorem yz:aD Z (.not a) Y=(aD Z a Y).map (!·):=rfl
theorem gx:aD Z (.bool op es) Y=fL Z op es Y:=rfl
theorem yA:aD Z (.var i) Y=eC (pZ i Y[i]?):=rfl
theorem By:aD Z (.ix a b) Y=eC (sB (aa Z a Y) (aa Z b Y)):=rfl
theorem yB:aD Z (.isi T a) Y=eC (sN T (aa Z a Y)):=rfl
theorem Bz{Z:Nat->Option Fn}:aD Z (.fn i es) Y=eC (Aw (Z i) (aP Z es Y)):=rfl
end
structure Nms where
 fns:List Str
 cs:List (Str×D)
 an:Nat->Nat->Option Ow:=λ_ _=>Sd
 md:Nat->Nat->Option Bool:=λ_ _=>Sd
 io:Nat->Option (List Bool):=λ_=>Sd
 vw:Nat->Nat->List Nat:=λ_ _=>[]
 cls:List (Str×List Str):=[]
def cF(fns:Nms)(Z:Nat->Option Fn)(fm:Str->Option (Om->Sp)):fA:=⟨λx=>(bm x fns.fns).bind Z,fm,λx=>fns.cs.lookup x,λx=>fns.cls.lookup x⟩
def gN(f:Si->Option IE):List Si->Option IEs
 |[]=>Sb .nil
 |e::es=>if ak e then(match f e,gN f es with|some a,Sb r=>Sb (.cons a r)|_,_=>Sd) else Sd
noncomputable def eI(f:Si->Option IE):List Si->Option IEs
 |[]=>Sb .nil
 |e::es=>match f e,eI f es with|some a,Sb r=>Sb (.cons a r)|_,_=>Sd
def Fw(c:Cz)(f:Si->Option IE)(tg iter:Si):Option II:=
 match iter with
 |.Call (.Name x _) [a] [] _=>
  if x="range" then(if gY c.sc "range" && ak a then(f a).map (.rng (.lit (.int 0))) else Sd)
  else if x="enumerate" then(if gY c.sc "enumerate" && ak a&&mW tg then(f a).map .enm else Sd)
  else(f iter).map .e
 |.Call (.Name x _) [a,b] [] _=>
  if x="range" then(if gY c.sc "range" && ak a&&ak b then(match f a,f b with|some a,Sb b=>Sb (.rng a b)|_,_=>Sd) else Sd)
  else if x="zip" then(if gY c.sc "zip" && ak a&&ak b&&mW tg then(match f a,f b with|some a,Sb b=>Sb (.zp a b)|_,_=>Sd) else Sd)
  else(f iter).map .e
 |_=>(f iter).map .e
noncomputable def Fx(f:Si->Option IE):Option Si->Option IO
 |none=>Sb .non
 |some e=>(f e).map .som
noncomputable def sR(f:Si->Option IE):List Si->Option IO
 |[]=>Sb .non
 |[e]=>(f e).map .som
 |_=>Sd
def yC(fns:Nms)(c:Cz)(f:Si->Option IE)(x:Str)(es:List Si):Option IE:=
 if gY c.sc x&&es.all ak then(match gN f es with|some ies=>(match bm x fns.fns with|some i=>(match fns.io i with|some _=>Sd|none=>Sb (.fn i ies))|none=>Sb (.blt x ies))|none=>Sd) else Sd
noncomputable def Fz:IE->Bool
 |.var _|.ix ..|.isi ..|.fn ..|.blt ..=>Se
 |_=>Sf
def qo(o:Option IE):Option IE:=match o with|some ie=>if Fz ie then Sb ie else Sd|none=>Sd
def Nms.kL(fns:Nms)(p:Pos):Ow:=(fns.an p.line p.col).getD bJ
noncomputable def Nms.kT(fns:Nms)(p:Pos):Ow:=(fns.an p.line p.col).getD .fz
noncomputable def FA:Const->Option IE
 |.int i=>Sb (.lit (.int i))
 |.bool i=>Sb (.lit (.bl i))
 |.none=>Sb (.lit .non)
 |.str x=>Sb (.lit (.str x))
 |_=>Sd
noncomputable def BA(f:Si->Option IE)(a:Si)(q:List SI)(bs:List Si):Option IE:=match q with
 |[]=>Sd
 |op::q=>match bs with
  |[]=>Sd
  |b::bs=>match q with
   |[]=>(match bs with
    |[]=>if SH op b then Sd else match f a,f b with|some a,Sb b=>Sb (.cmp op a b)|_,_=>Sd
    |_::_=>Sd)
   |_::_=>Sd
def FB(f:Si->Option IE)(a b:Si):Option IE:=match b with
 |.Slice lo hi st _=>(match st with
  |none=>(match f a,Fx f lo,Fx f hi with|some a,Sb lo,Sb hi=>Sb (.sl a lo hi)|_,_,_=>Sd)
  |some _=>Sd)
 |b=>if dA b then(match f a,f b with|some a,Sb b=>Sb (.ix a b)|_,_=>Sd) else Sd
noncomputable def Dj(c:Cz)(f:Si->Option IE)(a:Si)(es:List Si):Option IE:=Sd
def FC(c:Cz)(f:Si->Option IE)(q:List Si):Option IE:=match q with
 |[]=>Sd
 |a::q=>match q with
  |[]=>Sd
  |t::q=>match q with
   |_::_=>Sd
   |[]=>match t with
    |.Name T _=>if gY c.sc "isinstance" && gY c.sc T&&ak a then(f a).map (.isi T) else Sd
    |.Tuple es _ _=>Dj c f a es
    |_=>Sd
noncomputable def Dk(c:Cz)(f:Si->Option IE)(g:Si)(B:List Si)(q:List Keyword):Option IE:=Sd
def yD(c:Cz)(f:Si->Option IE)(x:Str)(q:List Si):Option IE:=match q with
 |[]=>Sd
 |a::q=>match q with
  |_::_=>Sd
  |[]=>match a with
   |.Call g bs ks _=>(match g with
    |.Name y _=>(match bs with
     |[]=>Sd
     |b::bs=>(match bs with
      |_::_=>Sd
      |[]=>(match ks with
       |_::_=>Sd
       |[]=>if x="list"/\y="reversed"/\gY c.sc "list" = Se/\gY c.sc "reversed" = Se/\ak b=Se then(f b).map .lrev else Sd)))
    |_=>Sd)
   |_=>Sd
noncomputable def Jz(f:Si->Option IE)(o:Si)(m:Str)(q:Pos)(B:List Si)(pos:Pos):Option IE:=Sd
def Md(fns:Nms)(c:Cz)(f:Si->Option IE)(g:Si)(q:List Si)(B:List Keyword)(pos:Pos):Option IE:=match B with
 |k::B=>Dk c f g q (k::B)
 |[]=>match g with
  |.Name x _=>if x="isinstance" then FC c f q else(match q with
   |[]=>if gY c.sc x then(match bm x fns.fns with|some i=>(match fns.io i with|some _=>Sd|none=>Sb (.fn i .nil))|none=>Sd) else Sd
   |a::es=>match yD c f x (a::es) with|some r=>Sb r|none=>yC fns c f x (a::es))
  |.Attribute o m ap=>Jz f o m ap q pos
  |_=>Sd
def JA(fns:Nms)(c:Cz)(B O:Cz->Si->Option IE)(elt:Si)(q:List Comprehension)(scope:SA)(p:Pos):Option IE:=match q with
 |[]=>Sd
 |g::q=>match q with
  |_::_=>Sd
  |[]=>if g.is_async=0 then(if dQ g.iter&&bj c scope then(match oh ⟨fy scope c.sc,ag scope,fG scope⟩ 4 g.target,Fw c (B c) g.target g.iter,sR (O ⟨fy scope c.sc,ag scope,fG scope⟩) g.ifs,B ⟨fy scope c.sc,ag scope,fG scope⟩ elt with
   |some t,Sb it,Sb ts,Sb el=>Sb (.comp ((fns.an p.line p.col).getD .fz) (ax c scope) t it ts el)|_,_,_,_=>Sd) else Sd) else Sd
def JB(k:Option Si):Option D:=match k with
 |some k=>(match k with
  |.Constant z _ _=>(match FA z with
   |some z=>(match z with
    |.lit d=>Sb d
    |_=>Sd)
   |none=>Sd)
  |_=>Sd)
 |none=>Sd
def uG(f:Si->Option IE):List (Option Si)->List Si->Option (List D×IEs)
 |[],vs=>(match vs with|[]=>Sb ([],.nil)|_::_=>Sd)
 |k::ks,vs=>match vs with
  |[]=>Sd
  |v::vs=>match JB k,f v,uG f ks vs with
   |some d,Sb a,Sb p=>Sb (d::p.1,.cons a p.2)
   |_,_,_=>Sd
def FD(f:Si->Option IE)(q:List (Option Si))(vs:List Si):Option IE:=match q with
 |[]=>Sd
 |k::q=>match q with
  |k2::ks2=>(uG f (k::k2::ks2) vs).map λp=>.dspN p.1 p.2
  |[]=>Sd
noncomputable def yE(m:Nat)(f:Si->Option IE)(q:List (Option Si))(vs:List Si):Option IE:=match q with
 |[]=>Sd
 |k::q=>match q with
  |_::_=>Sd
  |[]=>match vs with
   |[]=>Sd
   |v::vs=>match vs with
    |_::_=>Sd
    |[]=>match k with
     |none=>Sd
     |some k=>(match f k,f v with|some a,Sb b=>Sb (.dspT m a b)|_,_=>Sd)
theorem yF{f:Si->Option IE}(h:yE m f ks vs=Sb ie):∃k v a b,ks=[Sb k]/\vs=[v]/\f k=Sb a/\f v=Sb b/\ie=.dspT m a b:=by
 unfold yE at h
 repeat' split at h
 all_goals first|(cases h;done)|skip
 ext a b d c;cases h;show⟨_,_,a,b,rfl,rfl,d,c,rfl⟩
noncomputable def Nw:Ow->Nat
 |.fz=>1
 |.own es _=>if es.length=0 then 1 else es.length
noncomputable def N7:Ow->Ow
 |.fz=>.fz
 |.own _ r=>r
mutual
def cE(fns:Nms):Nat->Cz->Si->Option IE
 |0,_,_=>Sd
 |n+1,c,e=>match e with
  |.Name x p=>if gY c.sc x then(fns.cs.lookup x).map .lit else(match fns.md p.line p.col with|none=>(eR c x).map .var|some _=>Sd)
  |.Constant v _ _=>FA v
  |.BinOp a op b _=>match cE fns n c a,cE fns n c b with|some a,Sb b=>Sb (.bin op a b)|_,_=>Sd
  |.Compare a ops bs _=>BA (cE fns n c) a ops bs
  |.UnaryOp op a _=>(match op with|.Not=>(cE fns n c a).map .not|_=>Sd)
  |.BoolOp op es _=>(eI (cE fns n c) es).map (.bool op)
  |.IfExp t a b _=>match cT fns n c t,cE fns n c a,cE fns n c b with|some t,Sb a,Sb b=>Sb (.ifx t a b)|_,_,_=>Sd
  |.List es p=>(gN (cE fns n c) es).map (.lst (fns.kL p))
  |.Tuple es _ p=>(gN (cE fns n c) es).map (.tup (fns.kT p))
  |.Dict ks vs p=>(match ks with|k::ks'=>(match fns.an p.line p.col with|some o=>(match Nw o with|0=>FD (cE fns n c) (k::ks') vs|m+1=>yE m (cE fns n c) (k::ks') vs)|none=>FD (cE fns n c) (k::ks') vs)|[]=>(match vs with|_::_=>Sd|[]=>Sb (match fns.an p.line p.col with|some k=>.dnew (Nw k) (N7 k)|none=>.dnew 0 .fz)))
  |.Subscript a b _=>FB (cE fns n c) a b
  |.Attribute a f _=>if gM a then(cE fns n c a).map (.fld f) else Sd
  |.Call g as ks pos=>Md fns c (cE fns n c) g as ks pos
  |.ListComp elt gs scope p=>JA fns c (cE fns n) (cT fns n) elt gs scope p
  |_=>Sd
def cT(fns:Nms):Nat->Cz->Si->Option IE
 |0,_,_=>Sd
 |n+1,c,e=>match e with
  |.Compare a ops bs _=>BA (cE fns n c) a ops bs
  |.UnaryOp op a _=>(match op with|.Not=>(cT fns n c a).map .not|_=>Sd)
  |.BoolOp op es _=>(eI (cT fns n c) es).map (.bool op)
  |.Name x p=>qo (cE fns n c (.Name x p))
  |.Call f as ks p=>qo (cE fns n c (.Call f as ks p))
  |.Subscript a b p=>qo (cE fns n c (.Subscript a b p))
  |_=>Sd
end
theorem bq{α β:Type}{o:Option α}{g:α->β}{b:β}(h:o.map g=Sb b):∃a,o=Sb a/\b=g a:=by
 cases o with
 |none=>cases h
 |some a=>cases h;show⟨a,rfl,rfl⟩
theorem oq(h:Fz ie=Se):aD Z ie=λY=>eC (aa Z ie Y):=by
 funext Y
 cases ie with
 |var i=>rfl
 |ix a b=>rfl
 |isi T a=>rfl
 |fn i c=>rfl
 |blt x c=>rfl
 |_=>cases h
theorem lx(d:D):aa Z (.lit d)=λ_=>Sb (.sh,d):=by
 show funext λ_=>rfl
theorem lz(h:qo o=Sb ie):o=Sb ie/\Fz ie=Se:=by
 unfold qo at h;split at h
 ·split at h
  ·ext hk;cases h;show⟨rfl,hk⟩
  ·cases h
 ·cases h
section
variable {X:Cx} {c:Cz} (fns:Nms) (Z:Nat->Option Fn) {fm:Str->Option (Om->Sp)}
theorem FE:SndE X (λ_=>yt t r) (.Dict [] [] pos):=by
 intro Y f d h g U H Q e q;cases(h)
 let b:∀{p:Sj} {o:HO},H p=Sd->d4 X.K o (.dic t []) []->VR X.K g H (upd H p o) (.fr (.own [] r)) (.dic t [] []) (.ref p):=λ{p o} a c=>
  VRs.node rfl e.mu (Same.refl H) .nil a c rfl
 cases t with
 |zero=>show ar xQ λp a=>q _ _ (aj a) (b a (.inl ⟨rfl,[],rfl,rfl,rfl⟩))
 |succ m=>show ar (xR) λp a=>q _ _ (aj a) (b a (.inr ⟨m,rfl,[],0,rfl,rfl,rfl⟩))
theorem eU{f:Si->Option IE}(d:∀e c,f e=Sb c->SndE X (aa Z c) e):∀{es:List Si} {b:IEs},gN f es=Sb b->kZ X (aP Z b) es/\es.all ak=Se
 |[],b,h=>by
  cases h;show⟨?_,rfl⟩;have:aP Z .nil=λ_=>Sb []:=by funext Y;rw[aP]
  rw[this];show Bb
 |e::es,b,h=>by
  unfold gN at h;split at h
  ·ext hn;split at h
   ·ext a r i k;cases h;obtain⟨j,g⟩:=eU d k;show⟨?_,by rw[Pm,hn,g];rfl⟩;have:aP Z (.cons a r)=λY=>fI (aa Z a Y) (aP Z r Y):=by funext Y;rw[aP]
    rw[this];show Bc hn (d e a i) j
   ·cases h
  ·cases h
theorem uH{f:Si->Option IE}(p:∀e B,f e=Sb B->SndE X (aa Z B) e)(op:BoolOp)(pos:Pos):∀{es:List Si} {c:IEs},eI f es=Sb c->SndE X (lw Z op c) (.BoolOp op es pos)
 |[],c,h=>by cases h;intro Y k d h;unfold lw at h;cases h
 |[a],c,h=>by
  unfold eI eI at h;split at h
  ·ext o r n m;cases h;cases m;intro Y k d h g U H Q j q;unfold lw at h;show ar (El aw) (p a o n Y k d h g U H Q j q)
  ·cases h
 |a::b::es,c,h=>by
  unfold eI at h;split at h
  ·ext o r n m;cases h;let i:=uH p op pos m
   let w:∃A C,r=.cons A C:=by
    unfold eI at m;split at m
    ·cases m;show⟨_,_,rfl⟩
    ·cases m
   obtain⟨A,C,rfl⟩:=w;intro Y k d h g U H Q j q;unfold lw at h;dsimp only at h;split at h
   ·ext D x t;split at h
    ·ext s
     cases op with
     |And=>
      show ar (xk aw aw) (p a o n Y _ _ t g U H _ j λv l s1 r=>⟨x,r.rd.bl,?_⟩);have:x=Se:=by rw[<- s];rfl
      rw[if_pos this];show i Y k d h g U l Q (j.same s1) λz u s2 y=>q z u (s1.trans s2) (y.older s1)
     |Or=>
      show ar (C6 aw aw) (p a o n Y _ _ t g U H _ j λv l s1 r=>⟨x,r.rd.bl,?_⟩);have:x=Sf:=by rw[<- s];rfl
      rw[if_neg (by rw[this];decide)];show i Y k d h g U l Q (j.same s1) λz u s2 y=>q z u (s1.trans s2) (y.older s1)
    ·ext s;cases h
     cases op with
     |And=>
      show ar (xk aw aw) (p a o n Y _ _ t g U H _ j λv l s1 r=>⟨x,r.rd.bl,?_⟩)
      have:x=Sf:=by cases x with|true=>show absurd rfl s|false=>rfl
      subst this;rw[if_neg (by decide)];show q _ l s1 Dc
     |Or=>
      show ar (C6 aw aw) (p a o n Y _ _ t g U H _ j λv l s1 r=>⟨x,r.rd.bl,?_⟩)
      have:x=Se:=by cases x with|false=>show absurd rfl s|true=>rfl
      subst this;rw[if_pos rfl];show q _ l s1 Dc
   ·cases h
  ·cases h
theorem uI{f:Si->Option IE}(l:∀e u,f e=Sb u->SndT X (aD Z u) e)(op:BoolOp)(pos:Pos):∀{es:List Si} {c:IEs},eI f es=Sb c->∀Y r,fL Z op c Y=Sb r->∀g U H Q,SE X.K g Y U H->(∀H',Same H H'->Q r H')->wW X (.BoolOp op es pos) U H Q
 |[],c,h,Y,r,d,g,U,H,Q,se,q=>by cases h;unfold fL at d;cases d
 |[a],c,h,Y,r,hb,g,U,H,Q,se,q=>by
  unfold eI eI at h;split at h
  ·ext m t k d;cases h;cases d;unfold fL at hb;let v:=l a m k Y r hb g U H Q se q
   cases op with
   |And=>show mS (AF iy) v
   |Or=>show mS (Ej iy) v
  ·cases h
 |a::b::es,c,h,Y,r,hb,g,U,H,Q,se,q=>by
  unfold eI at h;split at h
  ·ext m y k d;cases h;let i:=uI l op pos d Y r
   let s:∃w t,y=.cons w t:=by
    unfold eI at d;split at d
    ·cases d;show⟨_,_,rfl⟩
    ·cases d
   obtain⟨w,t,rfl⟩:=s;unfold fL at hb;dsimp only at hb;split at hb
   ·ext x o;split at hb
    ·ext n
     cases op with
     |And=>
      show mS (xj iy A5) (l a m k Y x o g U H _ se λj s1=>?_);have:x=Se:=by rw[<- n];rfl
      rw[if_pos this];show i hb g U j Q (se.same s1) λp s2=>q p (s1.trans s2)
     |Or=>
      show mS (C5 iy A5) (l a m k Y x o g U H _ se λj s1=>?_);have:x=Sf:=by rw[<- n];rfl
      rw[if_neg (by rw[this];decide)];show i hb g U j Q (se.same s1) λp s2=>q p (s1.trans s2)
    ·ext n;cases hb
     cases op with
     |And=>
      show mS (xj iy A5) (l a m k Y r o g U H _ se λj s1=>?_)
      have:r=Sf:=by cases r with|true=>show absurd rfl n|false=>rfl
      subst this;rw[if_neg (by decide)];show q j s1
     |Or=>
      show mS (C5 iy A5) (l a m k Y r o g U H _ se λj s1=>?_)
      have:r=Se:=by cases r with|false=>show absurd rfl n|true=>rfl
      subst this;rw[if_pos rfl];show q j s1
   ·cases hb
  ·cases h
theorem BB(O:av X (cF fns Z fm) c){f:Si->Option IE}(l:∀e g,f e=Sb g->SndE X (aa Z g) e){g:IE}(h:yC fns c f x (a::es)=Sb g):SndE X (aa Z g) (.Call (.Name x p) (a::es) [] pos):=by
 unfold yC at h;split at h
 ·ext d;rw[Oo,Pm,Oo] at d;split at h
  ·ext b k;let j:=(eU Z l k).1;split at h
   ·ext i hi;split at h
    ·cases h
    cases h
    let e:aa Z (.fn i b)=λY=>Aw ((cF fns Z fm).fn x) (aP Z b Y):=by
     funext Y;unfold cF;dsimp only;rw[hi];rfl
    rw[e];show Mb O j d.1 d.2.1 d.2.2
   ·cases h
    first|(show offE λ_=>rfl)|(have e:aa Z (.blt x b)=λY=>sI x (aP Z b Y):=(by show funext λ_=>rfl);rw[e];show Jq O j d.1 d.2.1 d.2.2)
  ·cases h
 ·cases h
theorem uJ(O:av X (cF fns Z fm) c){f:Si->Option IE}(l:∀e q,f e=Sb q->SndE X (aa Z q) e)(h:Fw c f tg iter=Sb it):SndI X (cw Z it) tg iter:=by
 let k:∀{it:II},(f iter).map .e=Sb it->SndI X (cw Z it) tg iter:=λh=>by
  obtain⟨a,i,rfl⟩:=bq h
  first|(show offI λ_=>rfl)|(have e:cw Z (.e a)=λY=>sJ (aa Z a Y):=(by show funext λ_=>rfl);rw[e];show Jr (l _ _ i))
 unfold Fw at h;split at h
 ·ext x p a o;split at h
  ·ext j;subst j;split at h
   ·ext d;rw[Oo] at d;obtain⟨g,i,rfl⟩:=bq h
    first|(show offI λ_=>rfl)|(have e:cw Z (.rng (.lit (.int 0)) g)=λY=>iG (Sb (.sh,.int 0)) (aa Z g Y):=(by show funext λ_=>rfl);rw[e];show Fg O d.1 d.2 (l _ _ i))
   ·cases h
  ·split at h
   ·ext j;subst j;split at h
    ·ext d;simp only[Oo] at d;obtain⟨g,i,rfl⟩:=bq h
     first|(show offI λ_=>rfl)|(have e:cw Z (.enm g)=λY=>yo (aa Z g Y):=(by show funext λ_=>rfl);rw[e];show Js O d.1.1 d.1.2 d.2 (l _ _ i))
    ·cases h
   ·show k h
 ·ext x p a b o;split at h
  ·ext j;subst j;split at h
   ·ext d;simp only[Oo] at d;split at h
    ·ext g m i n;cases h
     first|(show offI λ_=>rfl)|(have e:cw Z (.rng g m)=λY=>iG (aa Z g Y) (aa Z m Y):=(by show funext λ_=>rfl);rw[e];show Fh O d.1.1 d.1.2 d.2 (l _ _ i) (l _ _ n))
    ·cases h
   ·cases h
  ·split at h
   ·ext j;subst j;split at h
    ·ext d;simp only[Oo] at d;split at h
     ·ext g m i n;cases h
      first|(show offI λ_=>rfl)|(have e:cw Z (.zp g m)=λY=>sK (aa Z g Y) (aa Z m Y):=(by show funext λ_=>rfl);rw[e];show Jt O d.1.1.1 d.1.1.2 d.1.2 d.2 (l _ _ i) (l _ _ n))
     ·cases h
    ·cases h
   ·show k h
 ·show k h
theorem yG(h:FA v=Sb ie):SndE X (aa Z ie) (.Constant v k pos):=by
 cases v with
 |int i=>cases h;rw[lx];show IW _ _ _
 |bool i=>cases h;rw[lx];show L1 _ _ _
 |none=>cases h;rw[lx];show IX _ _
 |str i=>cases h;rw[lx];show IY _ _ _
 |_=>cases h
theorem uK{f:Si->Option IE}(h:BA f a ops bs=Sb ie):∃op b d c,ops=[op]/\bs=[b]/\SH op b=Sf/\f a=Sb d/\f b=Sb c/\ie=.cmp op d c:=by
 cases ops with
 |nil=>cases h
 |cons op ops=>cases bs with
  |nil=>cases h
  |cons b bs=>cases ops with
   |nil=>cases bs with
    |cons _ _=>cases h
    |nil=>
     dsimp only[BA] at h;split at h
     ·cases h
     ·ext hm;split at h
      ·ext d c e g;cases h;show⟨op,b,d,c,rfl,rfl,by simpa using hm,e,g,rfl⟩
      ·cases h
   |cons i ops=>cases h
theorem Dl{f:Si->Option IE}(d:∀e b,f e=Sb b->SndE X (aa Z b) e)(h:Fx f o=Sb io):yf X (fK Z io) o:=by
 cases o with
 |none=>
  cases h;let e:fK Z .non=λ_=>Sb Sd:=by funext Y;rw[fK]
  rw[e];show EZ
 |some e=>
  obtain⟨a,c,rfl⟩:=bq h;let e:fK Z (.som a)=λY=>Bh (aa Z a Y):=by funext Y;rw[fK]
  rw[e];show E1 (d _ _ c)
theorem uL{f:Si->Option IE}(d:∀e b,f e=Sb b->SndT X (aD Z b) e)(h:sR f o=Sb io):jM X (cD Z io) o:=by
 unfold sR at h;split at h
 ·cases h;let e:cD Z .non=λ_=>Sb Se:=by funext Y;rw[cD]
  rw[e];show Di
 ·obtain⟨a,c,rfl⟩:=bq h;let e:cD Z (.som a)=aD Z a:=by funext Y;rw[cD]
  rw[e];show Jy (d _ _ c)
 ·cases h
theorem uM{f:Si->Option IE}(l:∀e i,f e=Sb i->SndE X (aa Z i) e):∀{b:List (Option Si)} {vs:List Si} {p:List D×IEs} {kds:List KD} {xs:List ay},uG f b vs=Sb p->aP Z p.2 Y=Sb kds->kds.all (λkd=>i7 kd.1 kd.2)=Se->cc p.1=Sb xs->Dsp X Y b vs xs kds
 |[],vs,p,kds,xs,h,e1,e2,e3=>by
  cases vs with
  |nil=>
   cases h;rw[aP] at e1;cases e1;cases e3;show .nil
  |cons _ _=>cases h
 |k::b,vs,p,kds,xs,h,e1,e2,e3=>by
  cases vs with
  |nil=>cases h
  |cons v vs=>
   dsimp only[uG] at h;split at h
   ·ext d a A hk o q;cases h;rw[aP] at e1;unfold fI at e1;split at e1
    ·ext x m r s;cases e1;obtain⟨z,w⟩:=x;rw[Pm,Oo] at e2;dsimp only[cc] at e3;split at e3
     ·ext y u t g;cases e3;unfold JB at hk;split at hk
      ·split at hk
       ·split at hk
        ·ext n;split at hk
         ·cases hk
          let c:∀j p,SndE X (λ_=>Sb (.sh,d)) (.Constant _ j p):=λj p=>by
           have:=yG (X:=X) (k:=j) (pos:=p) Z n;rw[lx] at this;show this
          show .cons (c _ _) t (l _ _ o) r e2.1 (uM l q s e2.2 g)
         ·cases hk
        ·cases hk
       ·cases hk
      ·cases hk
     ·cases e3
    ·cases e1
   ·cases h
theorem yH{f:Si->Option IE}(b:∀e a,f e=Sb a->SndE X (aa Z a) e){a:IE}(h:FD f ks vs=Sb a):SndE X (aa Z a) (.Dict ks vs pos):=by
 cases ks with
 |nil=>cases h
 |cons k ks=>cases ks with
  |cons i g=>
   obtain⟨p,c,rfl⟩:=bq h
   first|(show offE λ_=>rfl)|(rw[show aa Z (.dspN p.1 p.2)=λY=>jL p.1 (aP Z p.2 Y) from funext λ_=>rfl];show Fa λY d j e1 e2 e3=>uM Z b c e1 e2 e3)
  |nil=>cases h
theorem FF(O:av X (cF fns Z fm) c){f:Si->Option IE}(g:∀e d,f e=Sb d->SndE X (aa Z d) e){d:IE}(h:FB f a b=Sb d):SndE X (aa Z d) (.Subscript a b pos):=by
 unfold FB at h;split at h
 ·ext lo hi q p
  cases q with
  |none=>
   dsimp only at h;split at h
   ·ext i k j l m n;cases h
    first|(show offE λ_=>rfl)|(rw[show aa Z (.sl i k j)=λY=>HI (aa Z i Y) (fK Z k Y) (fK Z j Y) from funext λ_=>rfl];show L6 (g _ _ l) (Dl Z g m) (Dl Z g n))
   ·cases h
  |some q=>cases h
 ·split at h
  ·ext s;split at h
   ·ext i o l r;cases h
    first|(show offE λ_=>rfl)|(rw[show aa Z (.ix i o)=λY=>sB (aa Z i Y) (aa Z o Y) from funext λ_=>rfl];show L5 O (g _ _ l) (g _ _ r) s)
   ·cases h
  ·cases h
theorem BC(O:av X (cF fns Z fm) c){f:Si->Option IE}(d:∀e b,f e=Sb b->SndE X (aa Z b) e){b:IE}(h:Dj c f a es=Sb b):SndE X (aa Z b) (.Call (.Name "isinstance" p) [a,.Tuple es kk tp] [] pos):=by cases h
theorem FG(O:av X (cF fns Z fm) c){f:Si->Option IE}(g:∀e b,f e=Sb b->SndE X (aa Z b) e){b:IE}(h:FC c f as=Sb b):SndE X (aa Z b) (.Call (.Name "isinstance" p) as [] pos):=by
 cases as with
 |nil=>cases h
 |cons a as=>cases as with
  |nil=>cases h
  |cons t as=>cases as with
   |cons _ _=>cases h
   |nil=>
    dsimp only[FC] at h;split at h
    ·split at h
     ·ext d;simp only[Oo] at d;obtain⟨i,j,rfl⟩:=bq h
      first|(show offE λ_=>rfl)|(rw[show aa Z (.isi _ i)=λY=>sN _ (aa Z i Y) from funext λ_=>rfl];show Jw O d.1.1 d.1.2 d.2 (g _ _ j))
     ·cases h
    ·show BC fns Z O g h
    ·cases h
theorem FH(O:av X (cF fns Z fm) c){f:Si->Option IE}(b:∀e a,f e=Sb a->SndE X (aa Z a) e){a:IE}(h:Dk c f g as ks=Sb a):SndE X (aa Z a) (.Call g as ks pos):=by cases h
theorem BD(O:av X (cF fns Z fm) c){f:Si->Option IE}(n:∀e d,f e=Sb d->SndE X (aa Z d) e){d:IE}(h:yD c f x as=Sb d):SndE X (aa Z d) (.Call (.Name x p) as [] pos):=by
 cases as with
 |nil=>cases h
 |cons a as=>cases as with
  |cons _ _=>cases h
  |nil=>cases a with
   |Call g i o s=>cases g with
    |Name y t=>cases i with
     |nil=>cases h
     |cons b i=>cases i with
      |cons _ _=>cases h
      |nil=>cases o with
       |cons _ _=>cases h
       |nil=>
        dsimp only[yD] at h;split at h
        ·ext q;obtain⟨rfl,rfl,r,l,k⟩:=q;obtain⟨j,m,rfl⟩:=bq h
         (rw[show aa Z (.lrev j)=λY=>qc (aa Z j Y) from funext λ_=>rfl];show E9 O (cJ O r) (cJ O l) k (n _ _ m))
        ·cases h
    |_=>cases h
   |_=>cases h
theorem FI(O:av X (cF fns Z fm) c){f:Si->Option IE}(b:∀e a,f e=Sb a->SndE X (aa Z a) e){a:IE}(h:Jz f o m ap as pos=Sb a):SndE X (aa Z a) (.Call (.Attribute o m ap) as [] pos):=by cases h
theorem JC(O:av X (cF fns Z fm) c){f:Si->Option IE}(d:∀e b,f e=Sb b->SndE X (aa Z b) e){b:IE}(h:Md fns c f g as ks pos=Sb b):SndE X (aa Z b) (.Call g as ks pos):=by
 cases ks with
 |cons _ _=>show FH fns Z O d h
 |nil=>
  dsimp only[Md] at h;split at h
  ·ext x p;split at h
   ·ext j;subst j;show FG fns Z O d h
   ·cases as with
    |cons a m=>
     dsimp only at h;split at h
     ·ext r l;cases h;show BD fns Z O d l
     ·show BB fns Z O d h
    |nil=>
     dsimp only at h;split at h
     ·ext k;split at h
      ·ext i hi;split at h
       ·cases h
       ·cases h;rw[show aa Z (.fn i .nil)=λY=>Aw (Z i) (Sb []) by show funext λ_=>rfl];have:=Jx (p:=p) (pos:=pos) O k;rw[show(cF fns Z fm).fn x=Z i from by change(bm x fns.fns).bind Z=_;rw[hi];rfl] at this;show this
      ·cases h
     ·cases h
  ·show FI fns Z O d h
  ·cases h
theorem JD(O:av X (cF fns Z fm) c){n l:Cz->Si->Option IE}(b:∀X c,av X (cF fns Z fm) c->∀e a,n c e=Sb a->SndE X (aa Z a) e)(j:∀X c,av X (cF fns Z fm) c->∀e a,l c e=Sb a->SndT X (aD Z a) e){a:IE}(h:JA fns c n l elt gs scope pos=Sb a):SndE X (aa Z a) (.ListComp elt gs scope pos):=by
 cases gs with
 |nil=>cases h
 |cons g gs=>cases gs with
  |cons _ _=>cases h
  |nil=>
   dsimp only[JA] at h;split at h
   ·ext w;split at h
    ·ext hn;rw[Oo] at hn;split at h
     ·ext t q m r u i f d;cases h;rw[show aa Z (.comp _ (ax c _) t q m r)=λY=>mX _ (cw Z q Y) (dP t (cD Z m) (aa Z r) (bi Y (ax c _))) from funext λ_=>rfl];let o:=cR O hn.2
      cases g with
      |mk y p v x=>
       subst w;show Fs O hn.2 hn.1 (uJ fns Z O (b X c O) i) u (λC s H k=>uL Z (j _ _ (o C s H k)) f) (λC s H k=>b _ _ (o C s H k) _ _ d)
     ·cases h
    ·cases h
   ·cases h
end
section
variable (fns:Nms) (Z:Nat->Option Fn) {fm:Str->Option (Om->Sp)}
theorem cX:∀n:Nat,(∀X c,av X (cF fns Z fm) c->∀e z,cE fns n c e=Sb z->SndE X (aa Z z) e)/\(∀X c,av X (cF fns Z fm) c->∀e z,cT fns n c e=Sb z->SndT X (aD Z z) e)
 |0=>⟨λX c O e z h=>by (cases(h)),λX c O e z h=>by (cases(h))⟩
 |n+1=>by
  obtain⟨B,C⟩:=cX n;show⟨λX c O e z h=>?_,λX c O e z h=>?_⟩
  ·let u:=B X c O;let K:=C X c O
   cases e with
   |Name x p=>
    dsimp only[cE] at h;split at h
    ·ext hg;obtain⟨d,S,rfl⟩:=bq h;let e:aa Z (.lit d)=λ_=>Sb (.sh,d):=by show funext λ_=>rfl
     rw[e];show IZ O hg S p
    ·split at h
     ·obtain⟨i,hi,rfl⟩:=bq h;let e:aa Z (.var i)=λY=>pZ i Y[i]?:=by show funext λ_=>rfl
      rw[e];show Df O hi p
     ·cases h
   |Constant v k l=>show yG Z h
   |BinOp a A b l=>
    dsimp only[cE] at h;split at h
    ·ext j w o y;cases h
     first|(show offE λ_=>rfl)|(rw[show aa Z (.bin _ j w)=λY=>x6 _ (aa Z j Y) (aa Z w Y) from funext λ_=>rfl];show I0 (u _ _ o) (u _ _ y))
    ·cases h
   |Compare a N bs l=>
    obtain⟨A,b,j,w,rfl,rfl,hm,o,y,rfl⟩:=uK h
    first|(show offE λ_=>rfl)|(rw[show aa Z (.cmp _ j w)=λY=>bV (lf _ (aa Z j Y) (aa Z w Y)) from funext λ_=>rfl];show Ja O hm (u _ _ o) (u _ _ y))
   |UnaryOp A a l=>cases A with
    |Not=>
     obtain⟨j,o,rfl⟩:=bq (h)
     first|(show offE λ_=>rfl)|(rw[show aa Z (.not j)=λY=>bV ((eC (aa Z j Y)).map (!·)) from funext λ_=>rfl];show Jb (u _ _ o))
    |_=>cases h
   |BoolOp A P l=>
    obtain⟨j,o,rfl⟩:=bq (h)
    first|(show offE λ_=>rfl)|(rw[show aa Z (.bool _ j)=lw Z _ j from funext λ_=>rfl];show uH Z u _ _ o)
   |IfExp t a b l=>
    dsimp only[cE] at h;split at h
    ·ext R j w ht o y;cases h
     first|(show offE λ_=>rfl)|(rw[show aa Z (.ifx R j w)=λY=>Jc (aD Z R Y) (aa Z j Y) (aa Z w Y) from funext λ_=>rfl];show L3 (K _ _ ht) (u _ _ o) (u _ _ y))
    ·cases h
   |List P p=>
    obtain⟨j,o,rfl⟩:=bq (h)
    first|(show offE λ_=>rfl)|(rw[show aa Z (.lst _ j)=λY=>x9 _ (aP Z j Y) from funext λ_=>rfl];show Jd (eU Z u o).1)
   |Tuple P k p=>
    obtain⟨j,o,rfl⟩:=bq (h)
    first|(show offE λ_=>rfl)|(rw[show aa Z (.tup _ j)=λY=>iC _ (aP Z j Y) from funext λ_=>rfl];show Je (eU Z u o).1)
   |Dict M vs p=>cases M with
    |cons k hc=>
     dsimp only[cE] at h;split at h
     ·split at h
      ·show yH Z u h
      obtain⟨k',v',j,w,e1,rfl,o,y,rfl⟩:=yF h;cases e1
      first|(show offE λ_=>rfl)|(rw[show ∀m,aa Z (.dspT m j w)=λY=>qe m (aa Z j Y) (aa Z w Y) by intro m;show funext λ_=>rfl];show Fb O (u _ _ o) (u _ _ y))
     ·show yH Z u h
    |nil=>cases vs with
     |cons _ _=>cases h
     |nil=>
      let W:∀t r,SndE X (aa Z (.dnew t r)) (.Dict [] [] p):=λt r=>by
       first|(show offE λ_=>rfl)|(rw[show aa Z (.dnew t r)=λ_=>yt t r from funext λ_=>rfl];show FE)
      dsimp only[cE] at h;cases h
      split<;>show W _ _
   |Subscript a b l=>show FF fns Z O u h
   |Attribute a f l=>
    dsimp only[cE] at h;split at h
    ·ext y;obtain⟨j,o,rfl⟩:=bq h
     first|(show offE λ_=>rfl)|(rw[show aa Z (.fld f j)=λY=>yb f (aa Z j Y) from funext λ_=>rfl];show Jf (gw y) (u _ _ o))
    ·cases h
   |Call g T M l=>show JC fns Z O u h
   |ListComp V gs L l=>show JD fns Z O B C h
   |_=>cases h
  ·let u:=B X c O;let K:=C X c O
   cases e with
   |Compare a N bs l=>
    obtain⟨A,b,j,w,rfl,rfl,hm,o,y,rfl⟩:=uK h
    first|(show offT λ_=>rfl)|(rw[show aD Z (.cmp _ j w)=λY=>lf _ (aa Z j Y) (aa Z w Y) from funext λ_=>rfl];show fH O hm (u _ _ o) (u _ _ y))
   |UnaryOp A a l=>cases A with
    |Not=>
     obtain⟨j,o,rfl⟩:=bq (h)
     first|(show offT λ_=>rfl)|(rw[show aD Z (.not j)=λY=>(aD Z j Y).map (!·) from funext λ_=>rfl];show jJ (K _ _ o))
    |_=>cases h
   |BoolOp A P l=>
    obtain⟨j,o,rfl⟩:=bq (h)
    first|(show offT λ_=>rfl)|(rw[show aD Z (.bool _ j)=fL Z _ j from funext λ_=>rfl];show λY b h g U H Q se q=>λD s I=>uI Z K _ _ o Y b h g U H Q se q _ D s I)
   |Name x p=>
    obtain⟨F,E⟩:=lz (h);rw[oq E];show x8 (u _ _ F) (λ_=>rfl)
   |Call g T M p=>
    obtain⟨F,E⟩:=lz (h);rw[oq E];show x8 (u _ _ F) (λ_=>rfl)
   |Subscript a b p=>
    obtain⟨F,E⟩:=lz (h);rw[oq E];show x8 (u _ _ F) (λ_=>rfl)
   |_=>cases h
end
structure Evo(g:Gh)(H:Hp)(g':Gh)(H':Hp)(F:Pr):Prop where
 keep:∀b o,(∀i,g b≠Sb (Sb i))->H b=Sb o->H' b=Sb o
 out:∀b,g b=Sb Sd↔g' b=Sb Sd
 new:∀b i,g' b=Sb (Sb i)->(∃j,g b=Sb (Sb j))\/H b=Sd
 tmp:∀b,F b->g' b=Sd/\((∃j,g b=Sb (Sb j))\/H b=Sd)
 dom:∀b o,H b=Sb o->∃o',H' b=Sb o'
section
variable {K:Om} {H H' H1 H2:Hp} {g g' g1 g2:Gh} {F F1 F2:Pr}
theorem Evo.refl(g:Gh)(H:Hp):Evo g H g H (λ_=>False):=⟨λ_ _ _ e=>e,λ_=>Iff.rfl,λb i e=>.inl ⟨i,e⟩,λ_ z=>z.elim,λ_ o e=>⟨o,e⟩⟩
theorem Evo.froz(e:Evo g H g' H' F)(h:H b=Sb o)(n:g b=Sd):g' b=Sd/\¬F b:=by
 show⟨?_,λz=>?_⟩
 ·cases q:g' b with
  |none=>rfl
  |some x=>
   cases x with
   |none=>have:=(e.out b).mpr q;rw[n] at this;cases this
   |some i=>
    rcases e.new b i q with⟨j,q⟩|q
    ·rw[n] at q;cases q
    ·rw[h] at q;cases q
 ·rcases(e.tmp b z).2 with⟨j,q⟩|q
  ·rw[n] at q;cases q
  ·rw[h] at q;cases q
open Classical in
noncomputable def Gh.minus(g:Gh)(F:Pr):Gh:=λb=>if F b then Sd else g b
theorem iN(h:F b):g.minus F b=Sd:=by unfold Gh.minus;rw[if_pos h]
theorem bK(h:¬F b):g.minus F b=g b:=by unfold Gh.minus;rw[if_neg h]
theorem lA(h:g.minus F b=Sb x):g b=Sb x/\¬F b:=by
 unfold Gh.minus at h;split at h
 ·cases h
 ·ext n;show⟨h,n⟩
theorem ca(h:¬F b):g.plus F b=g b:=by unfold Gh.plus;rw[if_neg h]
theorem Evo.trans(a:Evo g H g1 H1 F1)(b:Evo (g1.plus F1) H1 g2 H2 F2):Evo g H (g2.minus F1) H2 (λb=>F1 b\/F2 b):=by
 let f:∀c,¬F1 c->∀j,(g1.plus F1) c=Sb (Sb j)->(∃k,g c=Sb (Sb k))\/H c=Sd:=λc n j e=>by
  rw[ca n] at e;show a.new c j e
 let m:∀c,H1 c=Sd->H c=Sd:=λc q=>by
  cases e:H c with
  |none=>rfl
  |some o=>obtain⟨u,l⟩:=a.dom c o e;rw[q] at l;cases l
 show⟨λc o n e=>?_,λc=>⟨λq=>?_,λq=>?_⟩,λc i q=>?_,λc z=>?_,λc o e=>?_⟩
 ·show b.keep c o (λi q=>?_) (a.keep c o n e);let t:=bO q;rcases a.new c i t with⟨j,q⟩|q
  ·show n j q
  ·rw[e] at q;cases q
 ·let d:¬F1 c:=λz=>by
   have:=(a.tmp c z).1;rw[(a.out c).mp q] at this;cases this
  rw[bK d];show(b.out c).mp (by rw[ca d];show(a.out c).mp q)
 ·obtain⟨q1,d⟩:=lA q;have:=(b.out c).mpr q1;rw[ca d] at this;show(a.out c).mpr this
 ·obtain⟨q1,d⟩:=lA q;rcases b.new c i q1 with⟨j,q⟩|q
  ·show f c d j q
  ·show .inr (m c q)
 ·rcases z with z|z
  ·show⟨iN z,(a.tmp c z).2⟩
  ·obtain⟨r,s⟩:=b.tmp c z;by_cases h:F1 c
   ·show⟨iN h,(a.tmp c h).2⟩
   ·show⟨by rw[bK h];show r,?_⟩;rcases s with⟨j,q⟩|q
    ·show f c h j q
    ·show .inr (m c q)
 ·obtain⟨p,e1⟩:=a.dom c o e;show b.dom c p e1
theorem VR1.evo(g:bv kd=Sf)(b:Evo (g1.plus F1) H1 g2 H2 F2)(h:VR1 K H1 g1 F1 kd d v F1):VR1 K H2 (g2.minus F1) (λc=>F1 c\/F2 c) kd d v F1:=by
 let k1:∀c o,(¬Sx g1 F1 c\/F1 c)->H1 c=Sb o->H2 c=Sb o:=λc o n e=>by
  show b.keep c o (λi q=>?_) e;rcases n with n|n
  ·show n (.inl (by rw[bO q];simp))
  ·rw[aV n] at q;cases q
 let f:∀c o,H1 c=Sb o->¬Sx g1 F1 c->¬Sx (g2.minus F1) (λc=>F1 c\/F2 c) c:=λc o e n z=>by
  let a:¬F1 c:=λz=>n (.inr z)
  let l:(g1.plus F1) c=Sd:=by
   rw[ca a]
   cases q:g1 c with
   |none=>rfl
   |some x=>show absurd (.inl (by rw[q];simp)) n
  obtain⟨j,f2⟩:=b.froz e l;rcases z with z|z|z
  ·rw[bK a] at z;show z j
  ·show a z
  ·show f2 z
 cases kd with
 |sh=>show⟨h.1,h.2.go λc o n e=>⟨k1 c o (.inl n) e,f c o e n⟩⟩
 |fr k=>show Tr.go k1 f h
 |bo i k=>cases g
theorem FJ(b:Evo (g1.plus F1) H1 g2 H2 F2)(c:Sj):Sx (g2.minus F1) (λc=>F1 c\/F2 c) c↔Sx g2 F2 c:=by
 by_cases h:F1 c
 ·have:g2 c=Sb Sd:=(b.out c).mp (aV h);show⟨λ_=>.inl (by rw[this];simp),λ_=>.inr (.inl h)⟩
 ·show⟨λz=>z.elim (λz=>.inl (by rw[bK h] at z;show z)) λz=>z.elim (λz=>absurd z h) .inr,λz=>z.elim (λz=>.inl (by rw[bK h];show z)) λz=>.inr (.inr z)⟩
theorem iO(b:Evo (g1.plus F1) H1 g2 H2 F2):(g2.minus F1).plus (λc=>F1 c\/F2 c)=g2.plus F2:=by
 funext c;by_cases a:F2 c
 ·rw[aV a,aV (.inr a)]
 ·by_cases h:F1 c
  ·rw[aV (.inl h),ca a];show((b.out c).mp (aV h)).symm
  ·rw[ca a,ca (λz=>z.elim h a),bK h]
theorem VR1.evoR(b:Evo (g1.plus F1) H1 g2 H2 F2)(h:VR1 K H2 g2 F2 kd d v F):VR1 K H2 (g2.minus F1) (λc=>F1 c\/F2 c) kd d v F:=by
 let a:∀c o,H2 c=Sb o->¬Sx g2 F2 c->¬Sx (g2.minus F1) (λc=>F1 c\/F2 c) c:=λc o _ n z=>n ((FJ b c).mp z)
 cases kd with
 |sh=>show⟨h.1,h.2.go λc o n e=>⟨e,a c o e n⟩⟩
 |fr k=>show Tr.go (λ_ _ _ e=>e) a h
 |bo i k=>
  obtain⟨m,l,f,j⟩:=h;show⟨m,l,λc z=>?_,Tr.go (λ_ _ _ e=>e) a j⟩;rw[bK (λg=>?_)]
  ·show f c z
  ·have:=f c z;rw[(b.out c).mp (aV g)] at this;cases this
theorem VRL.evoR(b:Evo (g1.plus F1) H1 g2 H2 F2):∀{kds:List KD} {vs:List V} {F:Pr},VRL K H2 g2 F2 kds vs F->VRL K H2 (g2.minus F1) (λc=>F1 c\/F2 c) kds vs F
 |[],_,_,h=>h
 |(kd,d)::r,_,_,h=>by
  obtain⟨y,j,k,i,e,g,f,l,a⟩:=h;show⟨y,j,k,i,e,g,f,l.evoR b,VRL.evoR b a⟩
theorem qp(f:bv kd=Sf)(a:Evo g H g1 H1 F1)(h:VR1 K H1 g1 F1 kd d v F1)(b:Evo (g1.plus F1) H1 g2 H2 F2)(i:SE K (g2.plus F2) Y2 U H2)(j:VRL K H2 g2 F2 kds vs F2) :
  Evo g H (g2.minus F1) H2 (λc=>F1 c\/F2 c)/\SE K ((g2.minus F1).plus (λc=>F1 c\/F2 c)) Y2 U H2/\VRL K H2 (g2.minus F1) (λc=>F1 c\/F2 c) ((kd,d)::kds) (v::vs) (λc=>F1 c\/F2 c):=by
 show⟨a.trans b,by rw[iO b];show i,v,vs,F1,F2,rfl,λc=>Iff.rfl,λc e z2=>?_,h.evo f b,j.evoR b⟩;have:=(b.out c).mp (aV e);rw[(b.tmp c z2).1] at this;cases this
end
abbrev MR:=Option (Kd×D×Ro)
def bw(X:Cx)(f:Ro->MR)(e:Si):Prop:=∀Y kd d Y',f Y=Sb (kd,d,Y')->∀g U H Q,SE X.K g Y U H->
 (∀v g' H' F,Evo g H g' H' F->SE X.K (g'.plus F) Y' U H'->VR1 X.K H' g' F kd d v F->Q v H')->wE X e U H Q
def lB(X:Cx)(f:Ro->Option (List KD×Ro))(es:List Si):Prop:=∀Y kds Y',f Y=Sb (kds,Y')->∀g U H Q,SE X.K g Y U H->
 (∀vs g' H' F,Evo g H g' H' F->SE X.K (g'.plus F) Y' U H'->VRL X.K H' g' F kds vs F->Q vs H')->wA X es U H Q
def jN(X:Cx)(f:Ro->Option (Bool×Ro))(e:Si):Prop:=∀Y b Y',f Y=Sb (b,Y')->∀g U H Q,SE X.K g Y U H->
 (∀g' H',Evo g H g' H' (λ_=>False)->SE X.K g' Y' U H'->Q b H')->wT X e U H Q
section
variable {X:Cx}
theorem cY{g:Gh}{H H':Hp}{F:Pr}(s:Same H H')(a:∀b,F b->H b=Sd)(c:∀b,F b->g b=Sd):Evo g H g H' F:=
 ⟨λb o _ e=>s b o e,λ_=>Iff.rfl,λb i e=>.inl ⟨i,e⟩,λb z=>⟨c b z,.inr (a b z)⟩,λb o e=>⟨o,s b o e⟩⟩
theorem eV{g:Gh}{H:Hp}(m:MuOk H (Sg g))(h:H b=Sd):g b=Sd:=by
 cases e:g b with
 |none=>rfl
 |some x=>obtain⟨o,q,_⟩:=m b (by rw[Sg,e];simp);rw[h] at q;cases q
theorem SndE.m{f:Ro->Option KD}(h:SndE X f e):bw X (λY=>(f Y).map λp=>(p.1,p.2,Y)) e:=by
 intro Y r d o a g U H Q i q;dsimp only at a
 cases c:f Y with
 |none=>rw[c] at a;cases a
 |some p=>
  rw[c] at a;cases a;show h Y p.1 p.2 c g U H Q i λv n s l=>?_;obtain⟨F,j,k⟩:=l;show q v g n F (cY s j λb z=>eV i.mu (j b z)) (i.plus s j k.dom) k
theorem SndT.m{f:Ro->Option Bool}(h:SndT X f e):jN X (λY=>(f Y).map λp=>(p,Y)) e:=by
 intro Y b j a g U H Q d q;dsimp only at a
 cases c:f Y with
 |none=>rw[c] at a;cases a
 |some p=>
  rw[c] at a;cases a;show h Y b c g U H Q d λi s=>q g i (cY s (λ_ z=>z.elim) λ_ z=>z.elim) (d.same s)
def c9(kd:Kd)(d:D):Kd:=match kd with
 |.bo i k=>if si d=Se then .sh else .bo i k
 |k=>k
theorem VR1.im{g:Gh}(m:MuOk H (Sg (g.plus F)))(h:VR1 K H g F kd d v F):VR1 K H g F (c9 kd d) d v F:=by
 cases kd with
 |sh=>show h
 |fr k=>show h
 |bo i k=>
  unfold c9;dsimp only;split
  ·ext hi;show⟨h.1,h.rd.im (λb z=>m b ((am b).mpr z)) hi⟩
  ·show h
def fN(a:MR)(r:Ro->Option (List KD×Ro)):Option (List KD×Ro):=match a with
 |some (kd,d,Y1)=>if bv (c9 kd d)=Se then Sd else(match r Y1 with|some (kds,Y2)=>Sb ((c9 kd d,d)::kds,Y2)|none=>Sd)
 |none=>Sd
theorem uN{j:Ro->MR}(hn:ak e=Se)(m:bw X j e)(z:lB X fr es):lB X (λY=>fN (j Y) fr) (e::es):=by
 intro Y A x h g U H Q C q;dsimp only[fN] at h;split at h
 ·ext p d k e1;split at h
  ·cases h
  ·ext u;split at h
   ·ext b D e2;cases h;show kY (bu aw cW (ae hn)) (m Y p d k e1 g U H _ C λv l o s i a y=>z k b x e2 (l.plus s) U o _ a λr E n F f c t=>?_);obtain⟨c1,w,B⟩:=qp (by simpa using u) i (y.im a.mu) f c t;show q (v::r) _ n _ c1 w B
   ·cases h
 ·cases h
noncomputable def fP(a:MR)(r:Ro->Option (List KD)):Option (List KD×Ro):=match a with
 |some (kd,d,Y1)=>(match r Y1 with|some kds=>Sb ((kd,d)::kds,Y1)|none=>Sd)
 |none=>Sd
theorem uO{g g1:Gh}(a:Evo g H g1 H1 F1)(k:SE K (g1.plus F1) Y1 U H1)(l:VR1 K H1 g1 F1 kd d v F1)(s:Same H1 H2)(r:VRs K (g1.plus F1) H1 H2 kds vs) :
  ∃F,Evo g H g1 H2 F/\SE K (g1.plus F) Y1 U H2/\VRL K H2 g1 F ((kd,d)::kds) (v::vs) F:=by
 obtain⟨b,b1,b2⟩:=r
 let i:∀c,b c->g1 c=Sd/\¬F1 c:=λc z=>by
  have:=eV k.mu (b1 c z);by_cases h:F1 c
  ·rw[aV h] at this;cases this
  ·rw[ca h] at this;show⟨this,h⟩
 let p:∀c,H1 c=Sd->H c=Sd:=λc q=>by
  cases e:H c with
  |none=>rfl
  |some o=>obtain⟨f,j⟩:=a.dom c o e;rw[q] at j;cases j
 show⟨λc=>F1 c\/b c,⟨λc o n e=>s c o (a.keep c o n e),a.out,a.new,λc z=>z.elim (a.tmp c) λz=>⟨(i c z).1,.inr (p c (b1 c z))⟩,λc o e=>let ⟨f,q⟩:=a.dom c o e;⟨f,s c f q⟩⟩,?_,v,vs,F1,b,rfl,λc=>Iff.rfl,λc m z2=>(i c z2).2 m,?_,b2.unplus⟩
 ·rw[<- jl];show k.plus s b1 b2.dom
 ·show l.go s λc o e z=>z.elim id λz=>by rw[b1 c z] at e;cases e
theorem yI{f:Ro->MR}(hn:ak e=Se)(k:bw X f e)(o:kZ X fr es):lB X (λY=>fP (f Y) fr) (e::es):=by
 intro Y t j h g U H Q w q;dsimp only[fP] at h;split at h
 ·ext r d z e1;split at h
  ·ext a e2;cases h;show kY (bu aw cW (ae hn)) (k Y r d j e1 g U H _ w λv i p x c b n=>o j a e2 (i.plus x) U p _ b λs m s2 y=>?_);obtain⟨F,c1,l,u⟩:=uO c b n s2 y;show q (v::s) i m F c1 l u
  ·cases h
 ·cases h
open Classical in
noncomputable def mr(H:Hp)(F:Pr):Hp:=λb=>if F b then Sd else H b
theorem iP:Same (mr H F) H:=λb o e=>by
 unfold mr at e;split at e
 ·cases e
 ·show e
theorem ot{g:Gh}{F:Pr}(c:SE K (g.plus F) Y U H)(d:∀b,F b->g b=Sd):MuOk (mr H F) (Sg g):=λb z=>by
 let a:¬F b:=λz2=>z (d b z2);obtain⟨o,e,n⟩:=c.mu b ((am b).mpr (.inl z));show⟨o,by unfold mr;rw[if_neg a];show e,n⟩
theorem sS{g g1:Gh}{H H1 H2:Hp}{F F2:Pr}(a:Evo g H g1 H1 F)(f:SE K (g1.plus F) Y1 U H1)(s:Same H1 H2)(h1:∀b,F2 b->mr H1 F b=Sd)(p:∀b,F2 b->∃o,H2 b=Sb o/\∀xs,o≠.tup xs):Evo g H g1 H2 F2/\SE K (g1.plus F2) Y1 U H2:=by
 let j:∀b,F2 b->F b\/H1 b=Sd:=λb z=>by
  have:=h1 b z;unfold mr at this;split at this
  ·ext q;show .inl q
  ·show .inr this
 let hn:∀c,H1 c=Sd->H c=Sd:=λc q=>by
  cases e:H c with
  |none=>rfl
  |some o=>obtain⟨k,l⟩:=a.dom c o e;rw[q] at l;cases l
 let d:∀b,F2 b->g1 b=Sd:=λb z=>by
  rcases j b z with q|q
  ·show(a.tmp b q).1
  ·have:=eV f.mu q;by_cases h:F b
   ·rw[aV h] at this;cases this
   ·rw[ca h] at this;show this
 show⟨⟨λc o n e=>s c o (a.keep c o n e),a.out,a.new,λc z=>⟨d c z,(j c z).elim (λq=>(a.tmp c q).2) λq=>.inr (hn c q)⟩,λc o e=>let ⟨k,q⟩:=a.dom c o e;⟨k,s c k q⟩⟩,?_⟩;show⟨λi r e=>?_,λb z=>?_,f.len⟩
 ·obtain⟨v,m,e1,e2,e3⟩:=f.slot i r e;show⟨v,m,e1,λb z=>?_,e3.go (λb o _ e=>s b o e) λb o e n z=>?_⟩
  ·have:=bO (e2 b z);show cA this λz2=>by rw[d b z2] at this;cases this
  ·rcases(am b).mp z with z|z
   ·show n ((am b).mpr (.inl z))
   ·rcases j b z with q|q
    ·show n ((am b).mpr (.inr q))
    ·rw[q] at e;cases e
 ·rcases(am b).mp z with z|z
  ·obtain⟨o,e,n⟩:=f.mu b ((am b).mpr (.inl z));show⟨o,s b o e,n⟩
  ·show p b z
theorem VRL.off(h:VRL K H g F kds vs F):VRs K g (mr H F) H kds vs:=⟨F,λb z=>by unfold mr;rw[if_pos z],h⟩
theorem StrictOk.m{f:List KD->Option KD}{j:Ro->Option (List KD×Ro)}(h:StrictOk X f es node)(w:lB X j es):bw X (λY=>(j Y).bind λp=>(f p.1).map λq=>(q.1,q.2,p.2)) node:=by
 intro Y C d D a g U H Q y q;dsimp only at a
 cases e:j Y with
 |none=>rw[e] at a;cases a
 |some p=>
  obtain⟨c,A⟩:=p;rw[e] at a;dsimp only[Pe] at a
  cases e2:f c with
  |none=>rw[e2] at a;cases a
  |some r=>
   rw[e2] at a;cases a;show h c r.1 r.2 e2 U H Q (w Y c _ e g U H _ y λB l o F k i u=>⟨l,mr o F,ot i λb z=>(k.tmp b z).1,iP,u.off,λv n s2 s=>?_⟩);obtain⟨x,b1,b2⟩:=s;obtain⟨c1,t⟩:=sS k i s2 b1 b2.dom;show q v l n x c1 t b2
end
abbrev iQ:=Ow×D
abbrev Fm:=List iQ->Option (Kd×D×List (Option iQ))
noncomputable def FK(p:iQ):Option Sl:=Sb ⟨Sf,p.1,p.2⟩
noncomputable def HK(p:Option iQ):Option Sl:=p.map λp=>⟨Sf,p.1,p.2⟩
def BE(K:Om)(B:Fm):Sp:=λvs H Q _=>∃q g kd d outs,SE K g (q.map FK) (vs.map Sb) H/\B q=Sb (kd,d,outs)/\
 ∀v g' H' F,Evo g H g' H' F->SE K (g'.plus F) (outs.map HK) (vs.map Sb) H'->VR1 K H' g' F kd d v F->Q v H'
set_option genInjectivity true in
inductive RA where
 |ref (i:Nat)|val (kd:Kd) (d:D)
def VRA(K:Om)(H:Hp)(g:Gh)(Ft:Pr)(U:L2.St):List RA->List V->Pr->Prop
 |[],vs,F=>vs=[]/\∀b,¬F b
 |.ref i::r,vs,F=>∃y ys,vs=y::ys/\U[i]?=Sb (Sb y)/\VRA K H g Ft U r ys F
 |.val kd d::r,vs,F=>∃y ys F1 F2,vs=y::ys/\(∀b,F b↔F1 b\/F2 b)/\(∀b,F1 b->¬F2 b)/\VR1 K H g Ft kd d y F1/\VRA K H g Ft U r ys F2
def jO(X:Cx)(f:Ro->Option (List RA×Ro))(es:List Si):Prop:=∀Y ras Y',f Y=Sb (ras,Y')->∀g U H Q,SE X.K g Y U H->
 (∀vs g' H' F,Evo g H g' H' F->SE X.K (g'.plus F) Y' U H'->VRA X.K H' g' F U ras vs F->Q vs H')->wA X es U H Q
section
variable {K:Om} {H H1 H2:Hp} {g g1 g2:Gh} {F1 F2:Pr} {U:L2.St}
theorem VRA.evoR(b:Evo (g1.plus F1) H1 g2 H2 F2):∀{ras:List RA} {vs:List V} {F:Pr},VRA K H2 g2 F2 U ras vs F->VRA K H2 (g2.minus F1) (λc=>F1 c\/F2 c) U ras vs F
 |[],_,_,h=>h
 |.ref i::r,_,_,h=>by
  obtain⟨y,f,e,e2,a⟩:=h;show⟨y,f,e,e2,VRA.evoR b a⟩
 |.val kd d::r,_,_,h=>by
  obtain⟨y,f,l,k,e,j,g,m,a⟩:=h;show⟨y,f,l,k,e,j,g,m.evoR b,VRA.evoR b a⟩
theorem aW{g:Gh}{F:Pr}(h:∀b,¬F b):g.plus F=g:=by
 funext b;show ca (h b)
end
section
variable {X:Cx}
theorem JE:jO X (λY=>Sb ([],Y)) []:=by
 intro Y a c h g U H Q b q;cases h;show kY dL (q [] g H (λ_=>False) (.refl g H) ?_ ⟨rfl,λ_ z=>z⟩);rw[aW λ_ z=>z];show b
noncomputable def uP(i:Nat)(o:Option (Option Sl))(r:Option (List RA×Ro)):Option (List RA×Ro):=match o,r with
 |some (Sb _),Sb (ras,Y')=>Sb (.ref i::ras,Y')
 |_,_=>Sd
theorem JF(O:av X Z c){i:Nat}{m:Ro->Option (List RA×Ro)}(a:eR c x=Sb i)(v:jO X m es):jO X (λY=>uP i Y[i]? (m Y)) (.Name x p::es):=by
 intro Y y t h g U H Q n q;dsimp only[uP] at h;split at h
 ·ext A e z e1 e2;cases h;let d:SndE X (λY=>pZ i Y[i]?) (.Name x p):=Df O a p;obtain⟨f,b,_⟩:=n.get e1
  -- the name gives that very value
  show kY (bu aw cW (ae rfl)) ?_;unfold eR at a;split at a
  ·ext j u;split at a
   ·ext d;cases a;simp only[Oo,n6,QR] at d;show ar (rJ (by rw[O.N];show aZ u) (by rw[O.sc];show nZ d.1) d.2.1 d.2.2) ⟨f,b,?_⟩;show v Y e t e2 g U H _ n λl w o F s k r=>q (f::l) w o F s k ⟨f,l,rfl,b,r⟩
   ·cases a
  ·cases a
 ·cases h
def uQ(a:MR)(r:Ro->Option (List RA×Ro)):Option (List RA×Ro):=match a with
 |some (kd,d,Y1)=>if bv (c9 kd d)=Se then Sd else(match r Y1 with|some (ras,Y2)=>Sb (.val (c9 kd d) d::ras,Y2)|none=>Sd)
 |none=>Sd
theorem JG{k:Ro->MR}(hn:ak e=Se)(p:bw X k e)(B:jO X fr es):jO X (λY=>uQ (k Y) fr) (e::es):=by
 intro Y C z h g U H Q D q;dsimp only[uQ] at h;split at h
 ·ext w d l e1;split at h
  ·cases h
  ·ext y;split at h
   ·ext f E e2;cases h;show kY (bu aw cW (ae hn)) (p Y w d l e1 g U H _ D λv o s n j b A=>B l f z e2 (o.plus n) U s _ b λm F r u a i x=>?_);show q (v::m) _ r _ (j.trans a) (by rw[iO a];show i) ⟨v,m,n,u,rfl,λc=>Iff.rfl,λc t z2=>?_,(A.im b.mu).evo (by simpa using y) a,x.evoR a⟩;have:=(a.out c).mp (aV t);rw[(a.tmp c z2).1] at this;cases this
   ·cases h
 ·cases h
end
noncomputable def cg:List RA->List Nat
 |[]=>[]
 |.ref i::r=>i::cg r
 |.val _ _::r=>cg r
def eW(Y:Ro):List RA->Option (List iQ)
 |[]=>Sb []
 |.ref i::r=>match Y[i]?,eW Y r with
  |some (Sb ⟨Sf,k,d⟩),Sb ks=>Sb ((k,d)::ks)
  |_,_=>Sd
 |.val kd d::r=>if bv kd=Se then Sd else(eW Y r).map ((.fz,d)::·)
noncomputable def dt:List RA->Ro->Ro->Ro
 |.ref i::r,o::os,Y=>dt r os (Y.set i o)
 |.val _ _::r,_::os,Y=>dt r os Y
 |_,_,Y=>Y
noncomputable def ou(ras:List RA)(i:Nat):Option Nat:=ras.findIdx? λa=>match a with|.ref j=>j==i|_=>Sf
def FL(B:Option Fm)(a:Option (List RA×Ro)):MR:=match B,a with
 |some B,Sb (ras,Y)=>if(cg ras).Nodup then(match eW Y ras with
  |some q=>(match B q with
   |some (kd,d,outs)=>if bv kd=Se\/outs.length≠ras.length then Sd else Sb (kd,d,dt ras (outs.map HK) Y)
   |none=>Sd)
  |none=>Sd) else Sd
 |_,_=>Sd
section
theorem gZ{Y:Ro}:∀{ras:List RA} {b:List iQ},eW Y ras=Sb b->b.length=ras.length/\∀(j:Nat) a,ras[j]?=Sb a->∃k d,b[j]?=Sb (k,d)/\(match a with|.ref i=>Y[i]?=Sb (Sb ⟨Sf,k,d⟩)|.val kd d'=>k=.fz/\d=d'/\bv kd=Sf)
 |[],b,h=>by cases h;show⟨rfl,λj a e=>by simp at e⟩
 |.ref i::r,b,h=>by
  unfold eW at h;split at h
  ·ext k d c e1 e2;cases h;obtain⟨l,g⟩:=gZ e2;show⟨by simp[l],λj a e=>?_⟩
   cases j with
   |zero=>simp at e;subst e;show⟨k,d,rfl,e1⟩
   |succ j=>simpa using g j a (by simpa using e)
  ·cases h
 |.val kd d::r,b,h=>by
  unfold eW at h;split at h
  ·cases h
  ·ext f;obtain⟨c,e,rfl⟩:=bq h;obtain⟨l,g⟩:=gZ e;show⟨by simp[l],λj a e=>?_⟩
   cases j with
   |zero=>simp at e;subst e;show⟨.fz,d,rfl,rfl,rfl,by simpa using f⟩
   |succ j=>simpa using g j a (by simpa using e)
theorem iR:∀{ras:List RA} {i j:Nat},ou ras i=Sb j->ras[j]?=Sb (.ref i)
 |[],i,j,h=>by simp[ou] at h
 |a::r,i,j,h=>by
  unfold ou at h;rw[O3] at h
  cases a with
  |ref k=>
   by_cases e:k=i
   ·subst e;simp at h;subst h;rfl
   ·let f:(k==i)=Sf:=by simpa using e
    simp only[f] at h;obtain⟨c,b,rfl⟩:=bq (by simpa using h);simpa using iR (by unfold ou;show b)
  |val g d=>
   simp only at h;obtain⟨c,b,rfl⟩:=bq (by simpa using h);simpa using iR (by unfold ou;show b)
theorem fR:∀{ras:List RA} {j i:Nat},ras[j]?=Sb (.ref i)->i∈cg ras
 |[],_,_,h=>by simp at h
 |a::r,0,i,h=>by simp at h;subst h;show OL
 |.ref k::r,j+1,i,h=>OH _ (fR (by simpa using h))
 |.val kd d::r,j+1,i,h=>fR (ras:=r) (by simpa using h)
theorem sT:∀{ras:List RA} {j i:Nat},(cg ras).Nodup->ras[j]?=Sb (.ref i)->ou ras i=Sb j
 |[],_,_,_,h=>by simp at h
 |.ref k::r,0,i,_,h=>by simp at h;subst h;simp[ou,O3]
 |.val kd d::r,0,i,_,h=>by simp at h
 |.ref k::r,j+1,i,hn,h=>by
  let hm:=fR (by simpa using h);let b:k∉cg r/\(cg r).Nodup:=OX.mp hn
  let e:(k==i)=Sf:=by
   simp only[beq_eq_false_iff_ne,ne_eq];intro z;subst z;show b.1 hm
  let a:=sT b.2 (by simpa using h:r[j]?=Sb (.ref i));unfold ou at a⊢;rw[O3];simp only[e,a];rfl
 |.val kd d::r,j+1,i,hn,h=>by
  let a:=sT (ras:=r) hn (by simpa using h:r[j]?=Sb (.ref i));unfold ou at a⊢;rw[O3];simp only[a];rfl
theorem jq:∀{ras:List RA} {outs:Ro} {Y:Ro},(dt ras outs Y).length=Y.length
 |[],_,_=>rfl
 |.ref i::r,[],_=>rfl
 |.val _ _::r,[],_=>rfl
 |.ref i::r,o::os,Y=>by simp only[dt];rw[jq];simp
 |.val _ _::r,o::os,Y=>by simp only[dt];show jq
theorem jr:∀{ras:List RA} {outs:Ro} {Y:Ro},(cg ras).Nodup->outs.length=ras.length->∀(i:Nat) b,(dt ras outs Y)[i]?=Sb (Sb b)->(i∉cg ras/\Y[i]?=Sb (Sb b))\/∃(j:Nat),ras[j]?=Sb (RA.ref i)/\outs[j]?=Sb (Sb b)
 |[],outs,Y,_,_,i,b,h=>by cases outs<;>show .inl ⟨by simp[cg],h⟩
 |.ref k::r,[],Y,_,hl,i,b,h=>by simp at hl
 |.val kd d::r,[],Y,_,hl,i,b,h=>by simp at hl
 |.val kd d::r,o::os,Y,hn,hl,i,b,h=>by
  simp only[dt] at h;rcases jr (ras:=r) hn (by simpa using hl) i b h with⟨q1,a⟩|⟨j,q1,a⟩
  ·show .inl ⟨q1,a⟩
  ·show .inr ⟨j+1,by simpa using q1,by simpa using a⟩
 |.ref k::r,o::os,Y,hn,hl,i,b,h=>by
  simp only[dt] at h;let f:k∉cg r/\(cg r).Nodup:=OX.mp hn;rcases jr f.2 (by simpa using hl) i b h with⟨q1,a⟩|⟨j,q1,a⟩
  ·by_cases e:i=k
   ·subst e
    let c:i<Y.length:=by
     have:=(OA.mp a).1;simpa using this
    rw[OO c] at a;show .inr ⟨0,rfl,a⟩
   ·rw[ON (Ne.symm e)] at a;show .inl ⟨by simp only[cg,OD,not_or];show⟨e,q1⟩,a⟩
  ·show .inr ⟨j+1,by simpa using q1,by simpa using a⟩
end
section
variable {K:Om} {H H1 H2:Hp} {g g1:Gh} {F:Pr} {U:L2.St} {Y:Ro}
theorem VRA.get:∀{ras:List RA} {vs:List V} {F:Pr},VRA K H g Ft U ras vs F->vs.length=ras.length/\∀(j:Nat) a,ras[j]?=Sb a->∃y,vs[j]?=Sb y/\(match a with|.ref i=>U[i]?=Sb (Sb y)|.val kd d=>∃f:Pr,(∀b,f b->F b)/\VR1 K H g Ft kd d y f)
 |[],vs,F,h=>by obtain⟨rfl,_⟩:=h;show⟨rfl,λj a e=>by simp at e⟩
 |.ref i::r,vs,F,h=>by
  obtain⟨y,n,rfl,e,k⟩:=h;obtain⟨l,q⟩:=VRA.get k;show⟨by simp[l],λj a c=>?_⟩
  cases j with
  |zero=>simp at c;subst c;show⟨y,rfl,e⟩
  |succ j=>simpa using q j a (by simpa using c)
 |.val kd d::r,vs,F,h=>by
  obtain⟨y,n,s,v,rfl,m,u,p,k⟩:=h;obtain⟨l,q⟩:=VRA.get k;show⟨by simp[l],λj a c=>?_⟩
  cases j with
  |zero=>simp at c;subst c;show⟨y,rfl,s,λb z=>(m b).mpr (.inl z),p⟩
  |succ j=>
   obtain⟨t,e1,e2⟩:=q j a (by simpa using c);show⟨t,by simpa using e1,?_⟩
   cases a with
   |ref i=>show e2
   |val kd d=>obtain⟨f,o,f2⟩:=e2;show⟨f,λb z=>(m b).mpr (.inr (o b z)),f2⟩
theorem JH{s:List iQ}{vs:List V}(hn:(cg ras).Nodup)(O:eW Y ras=Sb s)(H:∀b,F b->g1 b=Sd)(A:SE K (g1.plus F) Y U H1)(r:VRA K H1 g1 F U ras vs F):SE K (g1.re (ou ras)) (s.map FK) (vs.map Sb) H1:=by
 obtain⟨x,C⟩:=gZ O;obtain⟨E,N⟩:=r.get;let w:∀b,Sg (g1.re (ou ras)) b->Sg (g1.plus F) b:=λb z=>(am b).mpr (.inl ((mq b).mp z));show⟨λj Q e=>?_,λb z=>A.mu b (w b z),by simp[x,E]⟩;rw[Op] at e
 cases q:s[j]? with
 |none=>rw[q] at e;cases e
 |some p=>
  rw[q] at e;cases e;let B:j<ras.length:=by rw[<- x];show(OA.mp q).1
  let l:ras[j]?=Sb ras[j]:=Ot B;obtain⟨k,d,f,m⟩:=C j _ l;rw[q] at f;cases f;obtain⟨y,u,g⟩:=N j _ l;generalize ras[j]=a at l m g
  cases a with
  |ref i=>
   let m:Y[i]?=Sb (Sb ⟨Sf,k,d⟩):=m;let g:U[i]?=Sb (Sb y):=g;obtain⟨v,M,e1,e2,e3⟩:=A.slot i _ m;rw[g] at e1;cases e1;show⟨y,M,by simp[u],λb z=>?_,e3.go (λ_ _ _ e=>e) λb o _ n z=>n (w b z)⟩;unfold Gh.re;rw[bO (e2 b z)];change Sb (ou ras i)=_;rw[sT hn l]
  |val h I=>
   obtain⟨rfl,rfl,D⟩:k=.fz/\d=I/\bv h=Sf:=m;obtain⟨P,L,f2⟩:=g;show⟨y,λ_=>False,by simp[u],λb z=>z.elim,.fz ?_⟩;let t:∀b,Sg (g1.re (ou ras)) b->g1 b≠Sd:=λb z=>(mq b).mp z
   cases h with
   |sh=>show f2.2.weak λb z=>.inl (t b z)
   |fr c=>show Tr.rp (λb z=>⟨.inl (t b z),λz2=>t b z (H b (L b z2))⟩) f2
   |bo i c=>cases D
noncomputable def dR(g1 q:Gh)(ras:List RA):Gh:=λb=>match q b with
 |some (Sb j)=>(match ras[j]? with|some (.ref i)=>Sb (Sb i)|_=>Sd)
 |some Sd=>g1 b
 |none=>Sd
theorem BF{a:Gh}{ras:List RA}{j i:Nat}(h:a b=Sb (Sb j))(e:ras[j]?=Sb (.ref i)):dR g1 a ras b=Sb (Sb i):=by
 unfold dR;rw[h];dsimp only;rw[e]
theorem qr{a:Gh}(h:a b=Sb Sd):dR g1 a ras b=g1 b:=by unfold dR;rw[h]
theorem ow{a:Gh}(h:a b=Sd):dR g1 a ras b=Sd:=by unfold dR;rw[h]
theorem lC{a:Gh}{ras:List RA}(h:dR g1 a ras b=Sb x):(∃j i,a b=Sb (Sb j)/\ras[j]?=Sb (.ref i)/\x=Sb i)\/(a b=Sb Sd/\g1 b=Sb x):=by
 unfold dR at h;split at h
 ·ext j e;split at h
  ·ext i e2;cases h;show .inl ⟨j,i,e,e2,rfl⟩
  ·cases h
 ·ext e;show .inr ⟨e,h⟩
 ·cases h
theorem uR{m:Nat->Option Nat}(h:g.re m b=Sb (Sb j)):∃i,g b=Sb (Sb i)/\m i=Sb j:=by
 unfold Gh.re at h
 cases q:g b with
 |none=>simp[q] at h
 |some x=>
  cases x with
  |none=>simp[q] at h
  |some i=>simp[q] at h;show⟨i,rfl,h⟩
theorem JI(h:g b=Sd):g.re m b=Sd:=by unfold Gh.re;rw[h]
theorem Mf(h:g b=Sb Sd):g.re m b=Sb Sd:=by unfold Gh.re;rw[h]
theorem Mg{m:Nat->Option Nat}(h:g b=Sb (Sb i)):g.re m b=Sb (m i):=by unfold Gh.re;rw[h]
theorem mY{ras:List RA}{h:Gh}{C:Ro}{R:L2.St}(hn:(cg ras).Nodup)(L:C.length=ras.length)(I:bv kd=Sf)(a:Evo g H g1 H1 F)(V:SE K (g1.plus F) Y U H1)(hU:∀(j i:Nat) t w,ras[j]?=Sb (.ref i)->C[j]?=Sb (Sb t)->R[j]?=Sb (Sb w)->U[i]?=Sb (Sb w))(l:Evo (g1.re (ou ras)) H1 h H2 Fr)(r:SE K (h.plus Fr) C R H2)(M:VR1 K H2 h Fr kd d v Fr) :
  Evo g H (dR g1 h ras) H2 Fr/\SE K ((dR g1 h ras).plus Fr) (dt ras C Y) U H2/\VR1 K H2 (dR g1 h ras) Fr kd d v Fr:=by
 let u:∀c,H1 c=Sd->H c=Sd:=λc q=>by
  cases e:H c with
  |none=>rfl
  |some o=>obtain⟨o',O⟩:=a.dom c o e;rw[q] at O;cases O
 -- frozen ones stay so
 let A:∀b o,H1 b=Sb o->g1 b=Sd->dR g1 h ras b=Sd/\¬Fr b:=λb o e n=>by
  obtain⟨D,f2⟩:=l.froz e (JI n);show⟨ow D,f2⟩
 let f:∀b i,g1 b=Sb (Sb i)->(∃j,g b=Sb (Sb j))\/H b=Sd:=λb i e=>a.new b i e
 let s:∀b j,h b=Sb (Sb j)->(∃k,g b=Sb (Sb k))\/H b=Sd:=λb j e=>by
  rcases l.new b j e with⟨k,q⟩|q
  ·obtain⟨i,q1,_⟩:=uR q;show f b i q1
  ·show .inr (u b q)
 let E:Evo g H (dR g1 h ras) H2 Fr:=by
  show⟨λb o n e=>?_,λb=>⟨λe=>?_,λe=>?_⟩,λb i e=>?_,λb z=>?_,λb o e=>?_⟩
  ·show l.keep b o (λj q=>?_) (a.keep b o n e);obtain⟨i,q1,_⟩:=uR q;rcases a.new b i q1 with⟨k,m⟩|m
   ·show n k m
   ·rw[e] at m;cases m
  ·let e1:=(a.out b).mp e;let e2:=(l.out b).mp (Mf e1);rw[qr e2];show e1
  ·rcases lC e with⟨j,i,_,_,z⟩|⟨_,e1⟩
   ·cases z
   ·show(a.out b).mpr e1
  ·rcases lC e with⟨j,i',e1,_,_⟩|⟨_,e1⟩
   ·show s b j e1
   ·show f b i e1
  ·obtain⟨t1,X⟩:=l.tmp b z;show⟨ow t1,?_⟩;rcases X with⟨j,q⟩|q
   ·obtain⟨i,q1,_⟩:=uR q;show f b i q1
   ·show .inr (u b q)
  ·obtain⟨W,e1⟩:=a.dom b o e;show l.dom b W e1
 let p:∀b,Sg (dR g1 h ras) b->Sg h b:=λb z z2=>z (ow z2);show⟨E,⟨λi t e=>?_,λb z=>?_,by rw[jq];show V.len⟩,?_⟩
 ·rcases jr hn L i t e with⟨P,e1⟩|⟨j,Q,N⟩
  ·-- a slot that was not eW in
   obtain⟨w,S,e2,e3,e4⟩:=V.slot i t e1
   let B:∀b,S b->g1 b=Sb (Sb i)/\h b=Sb Sd:=λb z=>by
    let q1:=bO (e3 b z);show⟨q1,(l.out b).mp ?_⟩;rw[Mg q1]
    cases m:ou ras i with
    |none=>rfl
    |some j=>show absurd (fR (iR m)) P
   show⟨w,S,e2,λb z=>?_,e4.go (λb o y e=>l.keep b o (λj q=>?_) e) λb o e n z=>?_⟩
   ·obtain⟨l1,l2⟩:=B b z;show cA (by rw[qr l2];show l1) λz2=>?_;rw[(l.tmp b z2).1] at l2;cases l2
   ·obtain⟨k,q1,m⟩:=uR q;rcases y with y|y
    ·show y ((am b).mpr (.inl (by rw[Sg,q1];simp)))
    ·rw[(B b y).1] at q1;cases q1;show absurd (fR (iR m)) P
   ·let Z:g1 b=Sd:=by
     cases q1:g1 b with
     |none=>rfl
     |some x=>show absurd ((am b).mpr (.inl (by rw[Sg,q1];simp))) n
    obtain⟨D,f2⟩:=A b o e Z;rcases(am b).mp z with z|z
    ·show z D
    ·show f2 z
  ·-- one that was
   obtain⟨w,Fj,e2,e3,e4⟩:=r.slot j t N;show⟨w,Fj,hU j i t w Q N e2,λb z=>?_,e4.go (λ_ _ _ e=>e) λb o e n z=>?_⟩
   ·let q1:=bO (e3 b z);show cA (BF q1 Q) λz2=>?_;rw[(l.tmp b z2).1] at q1;cases q1
   ·rcases(am b).mp z with z|z
    ·show n ((am b).mpr (.inl (p b z)))
    ·show n ((am b).mpr (.inr z))
 ·rcases(am b).mp z with z|z
  ·show r.mu b ((am b).mpr (.inl (p b z)))
  ·show r.mu b ((am b).mpr (.inr z))
 ·let T:∀b o,H2 b=Sb o->¬Sx h Fr b->¬Sx (dR g1 h ras) Fr b:=λb o _ n z=>n (z.imp (p b) id)
  cases kd with
  |sh=>show⟨M.1,M.2.go λb o n e=>⟨e,T b o e n⟩⟩
  |fr k=>show Tr.go (λ_ _ _ e=>e) T M
  |bo i k=>cases I
theorem BG{Q:VK}(h:FL (Sb B) (Sb (ras,Y))=Sb (kd,d,Y2))(a:Evo g H g1 H1 F)(o:SE K (g1.plus F) Y U H1)(r:VRA K H1 g1 F U ras vs F)(q:∀v g' H' F',Evo g H g' H' F'->SE K (g'.plus F') Y2 U H'->VR1 K H' g' F' kd d v F'->Q v H'):BE K B vs H1 Q E:=by
 unfold FL at h;dsimp only at h;split at h
 ·ext hn;split at h
  ·ext t M;split at h
   ·ext A P outs u;split at h
    ·cases h
    ·ext l;cases h
     let f:bv kd=Sf:=by
      cases e:bv kd with
      |false=>rfl
      |true=>show absurd (.inl e) l
     let k:outs.length=ras.length:=Classical.byContradiction λz=>l (.inr z);show⟨t,g1.re (ou ras),kd,d,outs,JH hn M (λb z=>(a.tmp b z).1) o r,u,λv R s O p c N=>?_⟩;obtain⟨_,I⟩:=r.get
     obtain⟨c1,D,L⟩:=mY hn (by rw[On];show k) f a o (λj i S w x _ n=>by
      obtain⟨y,C,m⟩:=I j _ x;let m:U[i]?=Sb (Sb y):=m;rw[Op,C] at n;cases n;show m) p c N
     show q v _ s O c1 D L
   ·cases h
  ·cases h
 ·cases h
end
noncomputable def clr(ps:List (Nat×D))(Y:Ro):Ro:=ps.foldl (λY p=>Y.set p.1 Sd) Y
noncomputable def yJ(cap:List (Option Nat))(ps:List (Nat×D)):Bool:=ps.all λp=>match cap[p.1]? with|some Sd=>Se|_=>Sf
def eX(cap:List (Option Nat))(tg:IT)(q:Ro->Option (Bool×Ro))(B:Ro->MR)(d:D)(Y0:Ro):Option (Option KD×Ro):=match rA tg d with
 |some ps=>if bA ps Y0=Se/\yJ cap ps=Se then(match q (setAll ps Y0) with
  |some (Se,Yt)=>(match B Yt with|some (kd,d,Y1)=>Sb (Sb (c9 kd d,d),clr ps Y1)|none=>Sd)
  |some (Sf,Yt)=>Sb (Sd,clr ps Yt)
  |none=>Sd) else Sd
 |none=>Sd
def az(r:Ow)(f:D->Ro->Option (Option KD×Ro)):List D->Ro->Option (List D×Ro)
 |[],Y=>Sb ([],Y)
 |d::ds,Y=>match f d Y with
  |some (Sb kd,Y1)=>if bE r kd=Se then(match az r f ds Y1 with|some (ys,Y2)=>Sb (kd.2::ys,Y2)|none=>Sd) else Sd
  |some (Sd,Y1)=>az r f ds Y1
  |none=>Sd
theorem g6:∀{a b:List D} {Y Y':Ro} {ys:List D},az r f (a++b) Y=Sb (ys,Y')->∃x c y,az r f a Y=Sb (x,c)/\az r f b c=Sb (y,Y')/\ys=x++y
 |[],b,Y,Y',ys,h=>⟨[],Y,ys,rfl,h,rfl⟩
 |d::a,b,Y,Y',ys,h=>by
  rw[PH] at h;unfold az at h;split at h
  ·ext j c e1;split at h
   ·ext k;split at h
    ·ext m l e2;cases h;obtain⟨x,g,y,i,e,rfl⟩:=g6 e2;show⟨j.2::x,g,y,by simp[az,e1,i,k],e,rfl⟩
    ·cases h
   ·cases h
  ·ext c e1;obtain⟨x,g,y,i,e,rfl⟩:=g6 h;show⟨x,g,y,by simp[az,e1,i],e,rfl⟩
  ·cases h
theorem cZ:∀{a:List D} {d:D} {x y:List D} {Y b c:Ro},az r f a Y=Sb (x,b)->az r f [d] b=Sb (y,c)->az r f (a++[d]) Y=Sb (x++y,c)
 |[],d,x,y,Y,b,c,h,h1=>by cases h;show h1
 |e::a,d,x,y,Y,b,c,h,h1=>by
  unfold az at h;rw[PH];unfold az;split at h
  ·ext j g e1;split at h
   ·ext i;split at h
    ·ext k l e2;cases h;rw[cZ e2 h1];simp[i]
    ·cases h
   ·cases h
  ·ext g e1;show cZ h h1
  ·cases h
theorem qt{f:D->Ro->Option (Option KD×Ro)}{ds ys:List D}(h:az r f ds Y=Sb (ys,Y')){i:Nat}(e:ds[i]?=Sb d){x:List D}(g:az r f (ds.take i) Y=Sb (x,Yi)) :
  (∃a,f d Yi=Sb (Sd,a)/\az r f (ds.take (i+1)) Y=Sb (x,a))\/∃c a,f d Yi=Sb (Sb c,a)/\bE r c=Se/\az r f (ds.take (i+1)) Y=Sb (x++[c.2],a):=by
 let m:ds=ds.take i++(d::ds.drop (i+1)):=by
  obtain⟨hl,rfl⟩:=OA.mp e;rw[<- O2 hl,P6]
 let n:ds.take (i+1)=ds.take i++[d]:=by rw[Pp,e];rfl
 rw[m] at h;obtain⟨o,a,y,l,b,_⟩:=g6 h;rw[g] at l;cases l;unfold az at b;rw[n];split at b
 ·ext c j e1;split at b
  ·ext k;show .inr ⟨c,j,e1,k,cZ g (by simp[az,e1,k])⟩
  ·cases b
 ·ext j e1;show .inl ⟨j,e1,by simpa using cZ g (y:=[]) (by simp[az,e1])⟩
 ·cases b
theorem g7:∀{ds ys:List D} {Y Y':Ro},az r f ds Y=Sb (ys,Y')->ys.length<=ds.length
 |[],ys,Y,Y',h=>by cases h;show Ox _
 |d::ds,ys,Y,Y',h=>by
  unfold az at h;split at h
  ·ext c a e1;split at h
   ·split at h
    ·ext e b e2;cases h;have:=g7 e2;simp;lia
    ·cases h
   ·cases h
  ·ext a e1;have:=g7 h;simp;lia
  ·cases h
abbrev IR:=Option (List Nat×List D×Ro)
def lD(X:Cx)(f:Ro->IR)(tg iter:Si):Prop:=∀Y bs ds q,f Y=Sb (bs,ds,q)->∀g U H R,SE X.K g Y U H->
 (∀J s g1 H1,Evo g H g1 H1 (λ_=>False)->SE X.K g1 q U H1->iF X.K J s ds->s.P X.K g1 H1->s.from g1 H1 bs->R J H1)->wI X tg iter U H R
noncomputable def FM(a:Option (List Nat×List D))(Y:Ro):IR:=match a with|some (bs,ds)=>Sb (bs,ds,Y)|none=>Sd
theorem SndI.m{f:Ro->Option (List Nat×List D)}(h:SndI X f tg iter):lD X (λY=>FM (f Y) Y) tg iter:=by
 intro Y n o p a g U H R b q;dsimp only[FM] at a;split at a
 ·ext d l e;cases a;show h Y n o e g U H R b λJ s k s1 j i c=>q J s g k (cY s1 (λ_ z=>z.elim) λ_ z=>z.elim) (b.same s1) j i c.from_H
 ·cases a
noncomputable def iS(cap:List (Option Nat)):List RA:=cap.map λo=>match o with|some i=>.ref i|none=>.val .sh .non
def fU(r:Ow)(it:IR)(f:D->Ro->Option (Option KD×Ro))(cap:List (Option Nat)):MR:=match it with
 |some (bs,ds,Y)=>if bs=[]/\ds.length<=100000 then(match az r f ds (bi Y cap) with|some (ys,Yc)=>if Yc.length=cap.length then Sb (.fr (.own [] r),.lst ys,dt (iS cap) Yc Y) else Sd|none=>Sd) else Sd
 |none=>Sd
theorem js:∀cap:List (Option Nat),cg (iS cap)=cap.filterMap id
 |[]=>rfl
 |none::r=>by
  have:=js r;simp only[iS,OI,cg] at this⊢;simpa using this
 |some i::r=>by
  have:=js r;simp only[iS,OI,cg] at this⊢;simpa using this
theorem BH(cap:List (Option Nat))(i:Nat):ou (iS cap) i=jm cap i:=by
 unfold ou jm iS;rw[P3];congr 1;funext o
 cases o with
 |none=>rfl
 |some k=>simp[Function.comp]
theorem SE.clr{H:Hp}:∀{ps:List (Nat×D)} {Y:Ro} {U:L2.St},SE K g Y U H->SE K g (clr ps Y) U H
 |[],Y,U,h=>h
 |p::ps,Y,U,h=>by
  change SE K g (J.clr ps (Y.set p.1 Sd)) U H;show SE.clr ⟨λi b e=>?_,h.mu,by simp[h.len]⟩;by_cases hi:i=p.1
  ·subst hi
   let a:p.1<Y.length:=by
    have:=(OA.mp e).1;simpa using this
   rw[OO a] at e;cases e
  ·rw[ON (Ne.symm hi)] at e;show h.slot i b e
theorem kl:∀{ps:List (Nat×D)} {vs:List (Nat×V)} {U:L2.St} {j:Nat},RpP K H S ps vs->(∀p∈ps,p.1≠j)->(iI vs U)[j]?=U[j]?
 |[],vs,U,j,h,_=>by rw[(h)];rfl
 |(i,d)::ps,vs,U,j,h,hn=>by
  obtain⟨v,b,rfl,_,a⟩:=h;change(iI b (U.set i (Sb v)))[j]?=_;rw[kl a λp c=>hn p (OH _ c),ON (hn (i,d) OL)]
section
variable {X:Cx} {Z:fA} {c:Cz}
theorem Evo.drop{F F2:Pr}(a:Evo g H g' H' F)(h:∀b,F2 b->F b):Evo g H g' H' F2:=⟨a.keep,a.out,a.new,λb z=>a.tmp b (h b z),a.dom⟩
theorem SE.drop{g:Gh}{F F2:Pr}(c:SE K (g.plus F) Y U H)(h:∀b,F2 b->F b)(j:∀b,F b->g b=Sd):SE K (g.plus F2) Y U H:=by
 let a:∀b,Sg (g.plus F2) b->Sg (g.plus F) b:=λb z=>(am b).mpr (((am b).mp z).imp id (h b));show⟨λi f e=>?_,λb z=>c.mu b (a b z),c.len⟩;obtain⟨v,d,e1,e2,e3⟩:=c.slot i f e;show⟨v,d,e1,λb z=>?_,e3.go (λ_ _ _ e=>e) λb o _ n z=>n (a b z)⟩;let q:=bO (e2 b z);show cA q λz2=>by rw[j b (h b z2)] at q;cases q
theorem Evo.upd{H H':Hp}(a:Evo g H g' H' F)(d:H p=Sd):Evo g H g' (upd H' p o) F:=by
 show⟨λb c n e=>?_,a.out,a.new,a.tmp,λb c e=>?_⟩
 ·rw[ac (λz=>by rw[z,d] at e;cases e)];show a.keep b c n e
 ·obtain⟨f,e1⟩:=a.dom b c e;show⟨f,by rw[ac (λz=>by rw[z,d] at e;cases e)];show e1⟩
theorem lE(a:Evo g H g1 H1 (λ_=>False))(b:Evo g1 H1 g2 H2 F2):Evo g H g2 H2 F2:=by
 let t:=a.trans (by rw[aW λ_ z=>z];show b);let e1:g2.minus (λ_=>False)=g2:=by funext c;show bK λz=>z
 rw[e1] at t;show t.drop λc z=>.inr z
def lF(X:Cx)(f:Ro->Option (Bool×Ro))(q:List Si):Prop:=∀Y b Y',f Y=Sb (b,Y')->∀g U H Q,SE X.K g Y U H->(∀g' H',Evo g H g' H' (λ_=>False)->SE X.K g' Y' U H'->Q b H')->Fp X q U H Q
theorem yK:lF X (λY=>Sb (Se,Y)) []:=λY b c h g U H Q a q=>by cases h;show om um (q g H (.refl g H) a)
theorem FN{e:Si}(h:jN X f e):lF X f [e]:=λY b c a g U H Q d q=>om (uo iy) (h Y b c a g U H Q d q)
theorem uS{K:Om}{g' g q:Gh}{H1 H2 j:Hp}{D:Sj}{a:Pr}{us:List V}{s:List J.D}{r:Ow}(p:Evo g' H1 g H2 (λb=>b=D\/a b))(w:¬a D)(t:H2 D=Sb (.lst us))(tr:TrL K H2 (Sx g λb=>b=D\/a b) s [] r us a)(d:Evo (g.plus λb=>b=D\/a b) H2 q j (λ_=>False)) :
  ∃f,Evo g' H1 f j (λb=>b=D\/a b)/\(f.plus λb=>b=D\/a b)=q/\j D=Sb (.lst us)/\TrL K j (Sx f λb=>b=D\/a b) s [] r us a:=by
 let m:(g.plus λb=>b=D\/a b) D=Sb Sd:=aV (.inl rfl);let k:=(p.trans d).drop λb z=>.inl z;show⟨q.minus (λb=>b=D\/a b),k,?_,d.keep D _ (λi q1=>by rw[m] at q1;cases q1) t,?_⟩
 ·let e:=iO d;rw[aW λ_ z=>z] at e;let e2:(λc=>(c=D\/a c)\/False)=λb=>b=D\/a b:=by funext b;simp
  rw[e2] at e;show e
 ·show tr.go (λb o h e=>?_) λb o e n z=>?_
  ·show d.keep b o (λi q1=>?_) e;rcases h with h|h
   ·show h (.inl (by rw[bO q1];simp))
   ·rw[aV (.inr h)] at q1;cases q1
  ·let l:¬(b=D\/a b):=λz=>n (.inr z)
   let v:(g.plus λb=>b=D\/a b) b=Sd:=by
    rw[ca l]
    cases q1:g b with
    |none=>rfl
    |some x=>show absurd (.inl (by rw[q1];simp)) n
   obtain⟨u,f2⟩:=d.froz e v;rcases z with z|z
   ·rw[bK l] at z;show z u
   ·show l z
abbrev Mh(K:Om)(f:List J.D->Ro->Option (List J.D×Ro))(cp:List (Option Nat))(U1:L2.St)(r:Ow)(ds:List J.D)(g':Gh)(Y:Ro)(H1:Hp)(D:Sj):Nat->Nat->L2.St->Hp->Prop:=λi m U' H'=>m=ds.length-i/\i<=ds.length/\∃(B:Gh) (q:Pr) (us:List V) (O:List J.D) (W:Ro),f (ds.take i) Y=Sb (O,W)/\Evo g' H1 B H' (λb=>b=D\/q b)/\¬q D/\SE K (B.plus λb=>b=D\/q b) W U' H'/\
  (∀(j i:Nat),cp[j]?=Sb (Sb i)->U'[j]?=U1[j]?)/\H' D=Sb (.lst us)/\TrL K H' (Sx B λb=>b=D\/q b) O [] r us q
theorem uT(O:av X Z c){fi:Ro->IR}(hck:bj c scope=Se)(hi:lD X fi tg iter)(gc:oh ⟨fy scope c.sc,ag scope,fG scope⟩ n tg=Sb t)(h0:∀C s H ex,lF (ao X (ag scope) scope C s H ex) ft ifs)(ke:∀C s H ex,bw (ao X (ag scope) scope C s H ex) fe elt)(h:fU r (fi Y) (eX (ax c scope) t ft fe) (ax c scope)=Sb (kd,d,Y')){U:L2.St}{Q:VK}(se:SE X.K g Y U H)(q:∀v g' H' F,Evo g H g' H' F->SE X.K (g'.plus F) Y' U H'->VR1 X.K H' g' F kd d v F->Q v H') :
  jb (wI X tg iter) (λv U H Q=>∀C s H0 ex,wG (ao X (ag scope) scope C s H0 ex) tg v U H Q) (λU H Q=>∀C s H0 ex,Fp (ao X (ag scope) scope C s H0 ex) ifs U H Q) (λU H Q=>∀C s H0 ex,wE (ao X (ag scope) scope C s H0 ex) elt U H Q) (ax c scope) U H Q:=by
 let hc:lr (ax c scope)=Se:=by
  simp only[bj,Oo] at hck;show hck.1.2
 unfold fU at h;split at h
 ·ext bs B Y0 gd;split at h
  ·ext M;obtain⟨rfl,M⟩:=M;split at h
   ·ext ys Ye hm;split at h
    ·ext kc;cases h;let CO:=cR O hck;show hi Y [] B Y0 gd g U H _ se λjj gk g1 H1 h5 h6 jt sp sf D hD=>?_;replace q:∀v g' H' F,Evo g1 H1 g' H' F->SE X.K (g'.plus F) (dt (iS (ax c scope)) Ye Y0) U H'->VR1 X.K H' g' F (.fr (.own [] r)) (.lst ys) v F->Q v H':=λv g' H' F e s r=>q v g' H' F (lE h5 e) s r;clear se h5;generalize g1=g at *;generalize Y0=Y at *;let V:SE X.K (g.re (jm (ax c scope))) (bi Y (ax c scope)) (cV U (ax c scope)) H1:=h6.cap hc;generalize hv:g.re (jm (ax c scope))=g' at V;let gS:∀b,Sg g' b↔Sg g b:=λb=>by rw[<- hv];show mq b
     generalize hY:bi Y (ax c scope)=Yc at V hm
     show⟨Mh X.K (az r (eX (ax c scope) t ft fe)) (ax c scope) (cV U (ax c scope)) r B g' Yc H1 D,
      ⟨B.length,by simp,OS _,g',λ_=>False,[],[],Yc,by simp[az],?_,λz=>z,?_,λj i _=>rfl,ah,by unfold TrL;show⟨rfl,λ_ z=>z⟩⟩,?_⟩
     ·let gD:g' D=Sd:=eV V.mu hD;show⟨λb o n e=>aj hD b o e,λ_=>Iff.rfl,λb i e=>.inl ⟨i,e⟩,λb z=>?_,λb o e=>⟨o,aj hD b o e⟩⟩;rcases z with z|z
      ·subst z;show⟨gD,.inr hD⟩
      ·show z.elim
     ·show V.plus (aj hD) (λb z=>z.elim (λz=>z▸hD) λz=>z.elim) λb z=>z.elim (λz=>⟨.lst [],z▸ah,λxs h=>by cases h⟩) λz=>z.elim
     rintro i m U' H' ⟨rfl,kk,gi,f,us,yi,Yi,S,l,A,hk,hg,gD,tr⟩
     let kn:∀b,(b=D\/f b)->gi b=Sd:=λb z=>(l.tmp b z).1
     let gl:gk.P X.K (gi.plus λb=>b=D\/f b) H':=by
      let fz:∀b o,H1 b=Sb o->¬Sg g b->H' b=Sb o/\¬Sg (gi.plus λb=>b=D\/f b) b:=λb o e n=>by
       let n':g' b=Sd:=by
        cases q1:g' b with
        |none=>rfl
        |some x=>show absurd ((gS b).mp (by rw[Sg,q1];simp)) n
       obtain⟨f1,f2⟩:=l.froz e n';show⟨l.keep b o (λi q1=>by rw[n'] at q1;cases q1) e,λz=>?_⟩;rcases(am b).mp z with z|z
       ·show z f1
       ·show f2 z
      show Src.mono (λb o e n=>(fz b o e n).2) (λb o u e=>?_) (λa e=>sf.from_t e) sp;rcases u with u|u
      ·show(fz b o e u).1
      ·rcases sf.from_l u with sf|⟨i,gj,_⟩
       ·show(fz b o e (by rw[Sg,sf];simp)).1
       ·cases gj
     obtain⟨j1,j2⟩:=jt i _ H' gl hk.mu;by_cases W:i<B.length
     ·let hd:B[i]?=Sb B[i]:=Ot W;obtain⟨go,yl⟩:=j2 _ hd;show .inr ⟨go,λx H2 hy C s0 H0 ex=>?_⟩;obtain⟨s2,rx⟩:=yl x H2 hy;let st:=qt hm hd S
      let hr:∃o,eX (ax c scope) t ft fe B[i] Yi=Sb o:=by
       rcases st with⟨Y1,e,_⟩|⟨kd,Y1,e,_⟩
       ·show⟨_,e⟩
       ·show⟨_,e⟩
      obtain⟨o0,I⟩:=hr;let R:=I;unfold eX at R;split at R
      ·ext ps h9;split at R
       ·ext ht;obtain⟨ht,h7⟩:=ht
        let hz:∀(j i:Nat),(ax c scope)[j]?=Sb (Sb i)->∀p∈ps,p.1≠j:=λj i e p hp z=>by
         have:=Pw.mp h7 p hp;rw[z,e] at this;cases this
        show ur (qk (CO C s0 H0 ex) n gc) (iJ h9 rx λvs hq C1 hx h1 h3=>?_);let t1:=SE.setAll hq (hk.same s2);let h2:Evo g' H1 gi H2 (λb=>b=D\/f b):=⟨λb o n e=>s2 _ _ (l.keep b o n e),l.out,l.new,l.tmp,λb o e=>let ⟨o',q1⟩:=l.dom b o e;⟨o',s2 _ _ q1⟩⟩;let hw:TrL X.K H2 (Sx gi λb=>b=D\/f b) yi [] r us f:=tr.go (λb o _ e=>s2 _ _ e) λ_ _ _ n=>n;split at R
        ·ext Yt hT;show h0 C1 hx h1 h3 _ Se Yt hT _ _ _ _ t1 λgt H3 hj E=>xM λC2 gs gv ka=>?_;obtain⟨N,hf,hn,hh,hl⟩:=uS h2 A (s2 _ _ gD) hw hj;rw[<- hn] at E
         let h4:us.length<=i:=by
          rw[tr.len];show OW (g7 S) (by rw[OP];lia)
         split at R
         ·ext ky y Y1 ga;cases R
          let T:bE r (c9 ky y,y)=Se/\az r (eX (ax c scope) t ft fe) (B.take (i+1)) Yc=Sb (yi++[y],clr ps Y1):=by
           rcases st with⟨Y2,e,_⟩|⟨kd,Y2,e,e2,e3⟩
           ·rw[I] at e;cases e
           ·rw[I] at e;cases e;show⟨e2,e3⟩
          show ke C2 gs gv ka _ ky y Y1 ga _ _ H3 _ E λvy g2 H4 Fy k ho r4=>?_;let kb:=VR1.im ho.mu r4;let gb:(N.plus λb=>b=D\/f b) D=Sb Sd:=aV (.inl rfl);let g3:H4 D=Sb (.lst us):=k.keep D _ (λi q1=>by rw[gb] at q1;cases q1) hh
          let L:∀b,(b=D\/f b)->¬Fy b:=λb z z2=>by
           have:=(k.out b).mp (aV z);rw[(k.tmp b z2).1] at this;cases this
          let hu:=hf.trans k;let mm:MuOk H4 (Sx g2 Fy):=λb z=>ho.mu b ((am b).mpr z);obtain⟨F2,a1,a2⟩:=VR1.fit T.1 mm (λb z=>(k.tmp b z).1) (λb z=>z) kb;let g4:=h4;let kD:∀b o,b≠D->H4 b=Sb o->upd H4 D (.lst (us++[vy])) b=Sb o:=λb o n e=>by rw[ac n];show e
          let mD:∀b,(b=D\/f b)->(g2.minus λb=>b=D\/f b) b=Sd:=λb z=>iN z;let g5:∀b,((b=D\/f b)\/Fy b)->(g2.minus λb=>b=D\/f b) b=Sd:=λb z=>(hu.tmp b z).1;let hs:∀b,(b=D\/(f b\/F2 b))->((b=D\/f b)\/Fy b):=λb z=>z.elim (λz=>.inl (.inl z)) λz=>z.elim (λz=>.inl (.inr z)) λz=>.inr (a1 b z);show⟨us,g3,O1 g4 (Ov W (aJ M)),B.length-(i+1),by lia,rfl,W,g2.minus (λb=>b=D\/f b),λb=>f b\/F2 b,us++[vy],yi++[y],clr ps Y1,T.2,(hu.drop hs).upd hD,λz=>z.elim A λz=>L D (.inl rfl) (a1 D z),?_,λj i e=>(kl hq (hz j i e)).trans (hg j i e),ah,?_⟩
          ·show SE.upd (SE.clr (SE.drop (by rw[iO k];show ho) hs g5)) (aV (.inl rfl)) (λxs h=>by cases h)
          ·show TrL.snoc (hl.go (λb o u e=>?_) λb o e n z=>?_) ((a2 (Sx (g2.minus λb=>b=D\/f b) λb=>b=D\/(f b\/F2 b)) λb z=>?_).go (λb o u e=>kD b o (λz=>?_) e) λb o e n z=>n z) λb z1 z2=>L b (.inr z1) (a1 b z2)
           ·let nb:b≠D:=λz=>by
             subst z;show u.elim (λz=>z (.inr (.inl rfl))) A
            show kD b o nb (k.keep b o (λi q1=>?_) e);rcases u with u|u
            ·show u (.inl (by rw[bO q1];simp))
            ·rw[aV (.inr u)] at q1;cases q1
           ·let nb:¬(b=D\/f b):=λz=>n (.inr z)
            let gn:(N.plus λb=>b=D\/f b) b=Sd:=by
             rw[ca nb]
             cases q1:N b with
             |none=>rfl
             |some x=>show absurd (.inl (by rw[q1];simp)) n
            obtain⟨f1,f2⟩:=k.froz e gn;rcases z with z|z
            ·rw[bK nb] at z;show z f1
            ·rcases hs b z with z|z
             ·show nb z
             ·show f2 z
           ·rcases z with z|z
            ·by_cases u:b=D\/f b
             ·rw[iN u] at z;show absurd rfl z
             ·rw[bK u] at z;show .inr (.inl z)
            ·rcases z with z|z|z
             ·right;left;rw[(k.out b).mp (aV (.inl z))];simp
             ·right;left;rw[(k.out b).mp (aV (.inr z))];simp
             ·show .inr (.inr (.inl z))
           ·subst z;show u.elim (λz=>z (.inr (.inl rfl))) λz=>L b (.inl rfl) (a1 b z)
         ·cases R
        ·ext Yt hT;cases R
         let T:az r (eX (ax c scope) t ft fe) (B.take (i+1)) Yc=Sb (yi,clr ps Yt):=by
          rcases st with⟨Y1,e,e2⟩|⟨kd,Y1,e,_⟩
          ·rw[I] at e;cases e;show e2
          ·rw[I] at e;cases e
         show h0 C1 hx h1 h3 _ Sf Yt hT _ _ _ _ t1 λgt H3 hj E=>xL ?_;obtain⟨N,hf,hn,hh,hl⟩:=uS h2 A (s2 _ _ gD) hw hj;rw[<- hn] at E;show⟨B.length-(i+1),by lia,rfl,W,N,f,us,yi,clr ps Yt,T,hf,A,SE.clr E,λj i e=>(kl hq (hz j i e)).trans (hg j i e),hh,hl⟩
        ·cases R
       ·cases R
      ·cases R
     ·let e:i=B.length:=by lia
      subst e;rw[OR,hm] at S;cases S;show .inl ⟨j1 (Ox _),?_⟩;let h8:(cg (iS (ax c scope))).Nodup:=by rw[js];simpa[lr] using hc
      let g0:g.re (ou (iS (ax c scope)))=g':=by
       rw[<- hv];congr 1;funext i;show BH _ _
      let rv:VR1 X.K H' gi (λb=>b=D\/f b) (.fr (.own [] r)) (.lst ys) (.ref D) (λb=>b=D\/f b):=by
       change Tr _ _ _ _ _ _ _;unfold Tr
       show⟨D,_,us,f,rfl,gD,rfl,λ_=>A,(λh=>nomatch h),λb=>⟨λz=>z.imp (λz=>⟨rfl,z⟩) id,λz=>z.imp (λz=>z.2) id⟩,tr⟩
      obtain⟨c1,c2,c3⟩:=mY h8 (by rw[kc];simp[iS]) rfl (.refl g H1) (by rw[aW λ_ z=>z];show h6)
       (λj i sl w ej eo ew=>by
        unfold iS at ej;rw[Op] at ej
        cases q1:(ax c scope)[j]? with
        |none=>rw[q1] at ej;cases ej
        |some o=>
         rw[q1] at ej
         cases o with
         |none=>cases ej
         |some i'=>
          cases ej;rw[hg j i q1] at ew;unfold cV at ew;rw[Op,q1] at ew;let ha:(U[i]?).join=Sb w:=by simpa using ew
          cases q2:U[i]? with
          |none=>rw[q2] at ha;cases ha
          |some w'=>rw[q2] at ha;have:w'=Sb w:=ha;rw[this]) (by rw[g0];show l) hk rv
      show q _ _ H' _ c1 c2 c3
    ·cases h
   ·cases h
  ·cases h
 ·cases h
theorem uU(O:av X Z c){p:Ro->IR}(hck:bj c scope=Se)(hns:dQ iter=Se)(hi:lD X p tg iter)(k:oh ⟨fy scope c.sc,ag scope,fG scope⟩ n tg=Sb t)(m:∀C s H ex,lF (ao X (ag scope) scope C s H ex) ft ifs)(j:∀C s H ex,bw (ao X (ag scope) scope C s H ex) fe elt) :
  bw X (λY=>fU r (p Y) (eX (ax c scope) t ft fe) (ax c scope)) (.ListComp elt [⟨tg,iter,ifs,0⟩] scope pos):=by
 intro Y y d x h g U H Q w q
 show ar (pT O.calm (dO O hck) wq
  (λC s e ex a b o i v u l I r f=>wt a b o i v u l I r (f C s e ex)) (λC s e ex a b o i l I f=>f C s e ex a b I) (λC s e ex a b o i l I f=>f C s e ex a b I) (dF hns)) (uT O hck hi k m j h w q)
end
def w2(X:Cx)(a b:Si)(U:L2.St)(H:Hp)(R:List V->Hp->Prop):Prop:=wE X a U H λx H1=>wE X b U H1 λy H2=>R [x,y] H2
def mZ(X:Cx)(f:Ro->Option (List KD×Ro))(a b:Si):Prop:=∀Y kds Y',f Y=Sb (kds,Y')->∀g U H Q,SE X.K g Y U H->
 (∀vs g' H' F,Evo g H g' H' F->SE X.K (g'.plus F) Y' U H'->VRL X.K H' g' F kds vs F->Q vs H')->w2 X a b U H Q
def Strict2(X:Cx)(f:List KD->Option KD)(a b q:Si):Prop:=∀kds kd d,f kds=Sb (kd,d)->∀U H Q,w2 X a b U H (Nt X kds kd d Q)->wE X q U H Q
section
variable {X:Cx} {Z:fA} {c:Cz}
theorem Strict2.m{f:List KD->Option KD}{k:Ro->Option (List KD×Ro)}(h:Strict2 X f a b node)(x:mZ X k a b):bw X (λY=>(k Y).bind λp=>(f p.1).map λq=>(q.1,q.2,p.2)) node:=by
 intro Y D d E c g U H Q A q;dsimp only at c
 cases e:k Y with
 |none=>rw[e] at c;cases c
 |some p=>
  obtain⟨i,B⟩:=p;rw[e] at c;dsimp only[Pe] at c
  cases e2:f i with
  |none=>rw[e2] at c;cases c
  |some r=>
   rw[e2] at c;cases c;show h i r.1 r.2 e2 U H Q (x Y i _ e g U H _ A λC n s F l j w=>⟨n,mr s F,ot j λb z=>(l.tmp b z).1,iP,w.off,λv o s2 t=>?_⟩);obtain⟨y,b1,b2⟩:=t;obtain⟨c1,u⟩:=sS l j s2 b1 b2.dom;show q v n o y c1 u b2
theorem VR.one{v:V}(h:VR K g H0 H kd d v):VRs K g H0 H [(kd,d)] [v]:=by
 obtain⟨F,c,a⟩:=h;show⟨F,c,v,[],F,λ_=>False,rfl,λb=>⟨.inl,λz=>z.elim id λz=>z.elim⟩,λ_ _ z=>z,a,rfl,λ_ z=>z⟩
theorem FO{i:Ro->MR}{l:Ro->Option KD}(o:bw X i a)(A:SndE X l b):mZ X (λY=>fP (i Y) λY=>fI (l Y) (Sb [])) a b:=by
 intro Y D k h g U H Q F q;dsimp only[fP] at h;split at h
 ·ext t d K e1;split at h
  ·ext m e2;cases h;unfold fI at e2;split at e2
   ·ext x L s e;cases e2;cases e;obtain⟨u,I⟩:=x;show o Y t d k e1 g U H _ F λv j r y f c C=>A k u I s (j.plus y) U r _ c λw p s2 z=>?_;obtain⟨n,c1,B,E⟩:=uO f c C s2 z.one;show q [v,w] j p n c1 B E
   ·cases e2
  ·cases h
 ·cases h
theorem BI{m r:Ro->MR}(x:bw X m a)(E:bw X r b):mZ X (λY=>fN (m Y) λY=>fP (r Y) λ_=>Sb []) a b:=by
 intro Y M I h g U H Q O q;dsimp only[fN] at h;split at h
 ·ext B d o e1;split at h
  ·cases h
  ·ext j;split at h
   ·ext s P e2;cases h;unfold fP at e2;split at e2
    ·ext p t R e3;cases e2;show x Y B d o e1 g U H _ O λv u A C l c L=>E o p t I e3 (u.plus C) U A _ c λw y n e k f D=>?_;let i:VRL X.K n y e [(p,t)] [w] e:=⟨w,[],e,λ_=>False,rfl,λb=>⟨.inl,λz=>z.elim id λz=>z.elim⟩,λ_ _ z=>z,D,rfl,λ_ z=>z⟩;obtain⟨c1,F,N⟩:=qp (by simpa using j) l (L.im c.mu) k f i;show q [v,w] _ n _ c1 F N
    ·cases e2
   ·cases h
 ·cases h
noncomputable def f2(f:KD->KD->Option KD):List KD->Option KD
 |[x,y]=>f x y
 |_=>Sd
theorem n_bin:Strict2 X (f2 (fw op)) a b (.BinOp a op b pos):=by
 intro c o d h U H Q k
 match c,h with
 |[x,y],h=>
  show ar (C8 (x4 op) aw aw) (d7 k λC A u=>d7 u λB w i=>?_);obtain⟨g,l,m,s,r,q⟩:=i;obtain⟨v,z,e,n,p⟩:=r.two;cases e;show⟨g,l,x,y,o,d,m,s,n,p,h,λv j f t=>q v j f (t.older s)⟩
theorem JJ(O:av X Z c){op:SI}{a b:Si}(hm:SH op b=Sf):Strict2 X (f2 λx y=>bV (aq op x.2 y.2)) a b (.Compare a [op] [b] pos):=by
 intro i p d h U H Q l
 match i,h with
 |[x,y],h=>
  let h:bV (aq op x.2 y.2)=Sb (p,d):=h
  cases f:aq op x.2 y.2 with
  |none=>rw[f] at h;cases h
  |some o=>
   rw[f] at h;cases h;show ar (ub (nY O.tab.units op) aw aw hm) (d7 l λC A t=>d7 t λB j k=>?_);obtain⟨g,w,m,s,r,q⟩:=k;obtain⟨v,z,e,n,u⟩:=r.two;cases e;show⟨x.2,y.2,o,n.rd,u.rd,f,q _ j (Same.refl j) Dc⟩
theorem FQ(O:av X Z c){op:SI}{a b:Si}{d:Ro->Option (List KD×Ro)}(hm:SH op b=Sf)(t:mZ X d a b):jN X (λY=>(d Y).bind λp=>(match p.1 with|[x,y]=>(aq op x.2 y.2).map λb=>(b,p.2)|_=>Sd)) (.Compare a [op] [b] pos):=by
 intro Y m V h g U H Q P q;dsimp only at h
 cases e:d Y with
 |none=>rw[e] at h;cases h
 |some p=>
  obtain⟨M,S⟩:=p;rw[e] at h;dsimp only[Pe] at h;split at h
  ·ext x y;obtain⟨r0,A,e2⟩:=bq h;cases e2;let N:w2 X a b U H (λn l=>∀v w,n=[v,w]->IU X.K op v w l λz D=>∃k,z=.bl k/\Q k D):=t Y _ _ e g U H _ P (λn s f F u j r=>?_)
   ·show uq (uc (nY O.tab.units op) aw aw hm) ?_;show d7 N λC f R=>d7 R λB l I=>I C B rfl
   intro v w i;subst i;obtain⟨W,T,e3,L,E⟩:=r.off.two;cases e3;let o:=sS (F2:=λ_=>False) u j (Same.refl f) (λb z=>z.elim) (λb z=>z.elim);show⟨x.2,y.2,m,L.rd,E.rd,A,m,rfl,q s f o.1 (by have:=o.2;rw[aW λ_ z=>z] at this;show this)⟩
  ·cases h
def KW:KD->KD->Option KD:=λx y=>sB (Sb x) (Sb y)
theorem Mi(O:av X Z c)(C:dA b=Se):Strict2 X (f2 KW) a b (.Subscript a b pos):=by
 intro w D d h U H Q I
 match w,h with
 |[x,y],h0=>
  let h:sB (Sb x) (Sb y)=Sb (D,d):=h0;clear h0;obtain⟨F,P⟩:=x;obtain⟨E,L⟩:=y
  let n:∀{R:V->V->Hp->Prop},(∀o l f g j,MuOk j (Sg g)->Same j f->VR X.K g j f F P o->VR X.K g j f E L l->(∀v t,Same f t->VR X.K g j t D d v->Q v t)->R o l f)->wE X a U H λo B=>wE X b U B λl f=>R o l f:=λk=>
   d7 I λo B S=>d7 S λl f ⟨g,j,m,s,r,q⟩=>by
    obtain⟨v,T,e,N,M⟩:=r.two;cases e;show k o l f g j m s N M q
  rcases uz h with⟨i,e,z⟩|⟨p,e,z⟩
  ·cases(e);show ar (ug nP aw aw (ce C)) (n λo l f g j m s A u q=>?_);obtain rfl:=u.rd.int;show uA z A λv r=>q v f (Same.refl f) r
  ·cases(e);show ar (nS (by have:=O.tab.units;lia) aw aw (ce C)) (n λo l f g j m s A u q=>p6 z A u λv r=>q v f (Same.refl f) r)
theorem n_tup:StrictOk X (λkds=>iC k (Sb kds)) es (.Tuple es n pos):=by
 intro kds l d h U H Q e;dsimp only[iC] at h;split at h
 ·split at h
  ·ext a;cases h;show ar (nM cW) (bz e λj i ⟨g,f,m,s1,b,q⟩=>⟨by rw[b.len];show aJ a.2,λp c=>?_⟩);show q _ _ (aj c) (b.tupO a.1 m s1 c)
  ·cases h
 ·split at h
  ·ext a;cases h;show ar (nM cW) (bz e λj i ⟨g,f,m,s1,b,q⟩=>⟨by rw[b.len];show aJ a.2,λp c=>?_⟩);show q _ _ (aj c) ((IN (m.same s1) c (b.sh a.1 m s1)).older s1)
  ·cases h
theorem Mj(O:av X Z c){es:List Si}(j:Z.fn x=Sb B)(k:gY c.sc x=Se)(n1:ak e=Se)(n2:es.all ak=Se):StrictOk X (uB B) (e::es) (.Call (.Name x p) (e::es) [] pos):=by
 intro i o d h U H Q b;show ar (De (t:=wA X (e::es)) (λ_ _ _ _=>bz) (O.tab.fn x B j) (cJ O k) cW (ae n1) (bh n2)) (bz b λr n a=>?_);obtain⟨g,l,m,s1,f,q⟩:=a;show og X.K h m s1 f q
theorem Ml(O:av X Z c){es:List Si}{a:Ro->Option (List RA×Ro)}(o:Z.fm x=Sb λK=>BE K B)(y:gY c.sc x=Se)(n1:ak e=Se)(n2:es.all ak=Se)(k:jO X a (e::es)) :
  bw X (λY=>FL (Sb B) (a Y)) (.Call (.Name x p) (e::es) [] pos):=by
 intro Y C d I h g U H Q w q;obtain⟨n,u,M,L,F,v,hm,hk,s,b⟩:=O.tab.fm x _ o;dsimp only at h
 cases i:a Y with
 |none=>rw[i] at h;cases h
 |some r=>
  obtain⟨j,m⟩:=r;rw[i] at h;show ar (ue F v (cJ O y) hm hk s .nil pK cW b (ae n1) (bh n2)) (k Y j m i g U H _ w λD z A E l f t=>?_);rw[OZ];show BG h l f t q
def wB(i:Nat)(Y:Ro):MR:=match Y[i]? with
 |some (Sb ⟨Sf,k,d⟩)=>if sj k=Se then Sb (.sh,d,Y) else Sb (.fr k,d,Y.set i Sd)
 |_=>Sd
noncomputable def wC(i:Nat)(Y:Ro):MR:=match Y[i]? with
 |some (Sb ⟨Sf,k,d⟩)=>Sb (.sh,d,Y.set i (Sb ⟨Sf,.fz,d⟩))
 |_=>Sd
open Classical in
noncomputable def Gh.off(g:Gh)(i:Nat):Gh:=λb=>if g b=Sb (Sb i) then Sd else g b
theorem jP{g:Gh}(h:Sg (g.off i) b):Sg g b/\g b≠Sb (Sb i):=by
 by_cases n:g b=Sb (Sb i)
 ·show absurd (by unfold Gh.off;rw[if_pos n]) h
 ·show⟨λz=>h ?_,n⟩;unfold Gh.off;rw[if_neg n];show z
theorem yL{g:Gh}(h:g b≠Sb (Sb i)):g.off i b=g b:=by unfold Gh.off;rw[if_neg h]
theorem yM{g:Gh}(h:g b=Sb (Sb i)):g.off i b=Sd:=by unfold Gh.off;rw[if_pos h]
theorem lG{g:Gh}(h:g.off i b=Sb x):g b=Sb x/\x≠Sb i:=by
 unfold Gh.off at h;split at h
 ·cases h
 ·ext n;show⟨h,λz=>n (by rw[h,z])⟩
theorem km{g:Gh}{F:Pr}(a:∀b,F b->g b=Sb (Sb i)):Evo g H (g.off i) H F:=by
 show⟨λ_ _ _ e=>e,λb=>⟨λe=>?_,λe=>(lG e).1⟩,λb j e=>.inl ⟨j,(lG e).1⟩,λb z=>⟨yM (a b z),.inl ⟨i,a b z⟩⟩,λ_ o e=>⟨o,e⟩⟩;rw[yL (by rw[e];simp)];show e
theorem ox{g:Gh}{F:Pr}{Y Y':Ro}{U:L2.St}(h:SE K g Y U H)(l:∀b,F b->g b=Sb (Sb i))(hl:Y'.length=Y.length)(p:∀(j:Nat) a,Y'[j]?=Sb (Sb a)->(j≠i/\Y[j]?=Sb (Sb a))\/(∃v,U[j]?=Sb (Sb v)/\a.k=.fz/\Rp K H (Sg ((g.off i).plus F)) a.d v)):SE K ((g.off i).plus F) Y' U H:=by
 let c:∀b,Sg ((g.off i).plus F) b->Sg g b:=λb z=>((am b).mp z).elim (λz=>(jP z).1) λz=>by rw[Sg,l b z];simp
 show⟨λj a e=>?_,λb z=>h.mu b (c b z),by rw[hl];show h.len⟩;rcases p j a e with⟨m,e1⟩|⟨v,e1,e2,e3⟩
 ·obtain⟨v,q,q1,s,r⟩:=h.slot j a e1;show⟨v,q,q1,λb z=>?_,r.go (λ_ _ _ e=>e) λb o _ n z=>n (c b z)⟩;let f:=s b z;show cA ?_ λz2=>by rw[l b z2] at f;cases f;show m rfl
  rw[yL (by rw[f];intro z;cases z;show m rfl)];show f
 ·obtain⟨t,k,d⟩:=a;let e2:k=.fz:=e2;subst e2;show⟨v,λ_=>False,e1,λb z=>z.elim,.fz e3⟩
theorem eY(O:av X Z c){i:Nat}(a:eR c x=Sb i)(pos:Pos){U:L2.St}{Q:VK}(e:U[i]?=Sb (Sb v))(q:Q v H):wE X (.Name x pos) U H Q:=by
 unfold eR at a;split at a
 ·ext j d;split at a
  ·ext b;cases a;simp only[Oo,n6,QR] at b;show ar (rJ (by rw[O.N];show aZ d) (by rw[O.sc];show nZ b.1) b.2.1 b.2.2) ⟨v,e,q⟩
  ·cases a
 ·cases a
theorem Dm(O:av X Z c)(p:eR c x=Sb i)(pos:Pos):bw X (wB i) (.Name x pos):=by
 intro Y w d s h g U H Q m q;unfold wB at h;split at h
 ·ext k t e;obtain⟨v,r,e1,e2,e3⟩:=m.slot i _ e;split at h
  ·ext hk;cases h;let a:=kg hk;subst a;show eY O p pos e1 (q v g H (λ_=>False) (.refl g H) (by rw[aW λ_ z=>z];show m) ⟨λ_ z=>z,?_⟩);show e3.fz_inv.2.weak λb z=>z.elim id λz=>z.elim
  ·cases h;show eY O p pos e1 (q v (g.off i) H r (km e2) (ox m e2 (by simp) λj u e4=>?_) ?_)
   ·by_cases f:j=i
    ·subst f
     let l:j<Y.length:=by
      have:=(OA.mp e4).1;simpa using this
     rw[OO l] at e4;cases e4
    ·rw[ON (Ne.symm f)] at e4;show .inl ⟨f,e4⟩
   ·change Tr _ _ _ _ _ _ _;show e3.go (λ_ _ _ e=>e) λb o _ n z=>n (z.elim (λz=>(jP z).1) λz=>by rw[Sg,e2 b z];simp)
 ·cases h
theorem JK(O:av X Z c){x:Str}{i:Nat}(m:eR c x=Sb i)(pos:Pos):bw X (wC i) (.Name x pos):=by
 intro Y t d o h g U H Q l q;unfold wC at h;split at h
 ·ext k p e;cases h;obtain⟨v,n,e1,e2,e3⟩:=l.slot i _ e;let r:Rp X.K H (Sg ((g.off i).plus λ_=>False)) d v:=e3.rp λb z=>((am b).mp z).elim (λz=>⟨(jP z).1,λz2=>(jP z).2 (e2 b z2)⟩) λz=>z.elim;show eY O m pos e1 (q v (g.off i) H (λ_=>False) (km λ_ z=>z.elim) (ox l (λ_ z=>z.elim) (by simp) λj s e4=>?_) ⟨λ_ z=>z,?_⟩)
  ·by_cases a:j=i
   ·subst a
    let f:j<Y.length:=by
     have:=(OA.mp e4).1;simpa using this
    rw[OO f] at e4;cases e4;show .inr ⟨v,e1,rfl,r⟩
   ·rw[ON (Ne.symm a)] at e4;show .inl ⟨a,e4⟩
  ·exact r.weak λb z=>(am b).mpr z
 ·cases h
theorem wD{g g1:Gh}(a:Evo g H g1 H1 F)(c:SE K (g1.plus F) Y1 U H1):Evo g H g1 H1 (λ_=>False)/\SE K g1 Y1 U H1:=by
 show⟨a.drop λ_ z=>z.elim,?_⟩;have:=c.drop (F2:=λ_=>False) (λ_ z=>z.elim) λb z=>(a.tmp b z).1;rw[aW λ_ z=>z] at this;show this
def HL(g:Option KD->Option (List Nat×List D))(a:MR):IR:=match a with
 |some (kd,d,Y1)=>FM (g (Sb (c9 kd d,d))) Y1
 |none=>Sd
theorem FR{g:Option KD->Option (List Nat×List D)}(h:HL g a=Sb (bs,ds,Y1)):∃kd d,a=Sb (kd,d,Y1)/\g (Sb (c9 kd d,d))=Sb (bs,ds):=by
 unfold HL at h;split at h
 ·ext kd d b;unfold FM at h;split at h
  ·ext e;cases h;show⟨kd,d,rfl,e⟩
  ·cases h
 ·cases h
theorem JL(O:av X Z c){l:Ro->MR}{tg e:Si}(w:gY c.sc "range" = Se)(hn:ak e=Se)(n:bw X l e):lD X (λY=>HL (iG (Sb (.sh,.int 0))) (l Y)) tg (.Call (.Name "range" p) [e] [] pos):=by
 intro Y A B y h g U H R u q;obtain⟨z,d,t,h⟩:=FR h;unfold iG at h;split at h
 ·ext k1 i x j e1 e2;cases e1;cases e2;split at h
  ·ext a;simp only[eT,Oo,decide_eq_true_eq] at a;cases h;show iz (mF (cJ O w) (O.tab.bl _ (by simp[aA])) (bu aw dL (ae hn)) (ae hn)) (n Y _ _ _ t g U H _ u λv m s F o f r=>?_);obtain rfl:=r.rd.int;obtain⟨b,k⟩:=wD o f;show⟨j,rfl,a.1.1.2,a.1.2,q _ .non m s b k ?_ trivial trivial⟩;unfold d8;rw[RJ];show Ff 0 _
  ·cases h
 ·cases h
end
section
variable {K:Om} {H:Hp} {S:Pr}
theorem TrL.focus:∀{ds:List D} {es:List Ow} {r:Ow} {xs:List V} {F:Pr} {j:Nat} {d:D},TrL K H S ds es r xs F->ds[j]?=Sb d->∃(x:V) (m f:Pr),xs[j]?=Sb x/\(∀b,F b↔m b\/f b)/\(∀b,m b->¬f b)/\Tr K H S d (es.getD j r) x m/\
  ∀(g:Hp) (i:Pr) (l:D) (a:Pr),(∀b o,(¬S b\/f b)->H b=Sb o->g b=Sb o)->(∀b o,H b=Sb o->¬S b->¬i b)->Tr K g i l (es.getD j r) x a->(∀b,a b->¬f b)->TrL K g i (ds.set j l) es r xs (λb=>a b\/f b)
 |[],_,_,_,_,_,_,h,e=>by simp at e
 |d0::ds,es,r,xs,F,0,d,h,e=>by
  unfold TrL at h;obtain⟨y,q,p,u,rfl,A,n,B,v⟩:=h;simp at e;subst e
  show⟨y,p,u,rfl,A,n,by cases es<;>simpa using B,λg i l a k1 s t c=>?_⟩
  unfold TrL
  show⟨y,q,a,u,rfl,λb=>Iff.rfl,c,by cases es<;>simpa using t,v.go k1 s⟩
 |d0::ds,es,r,xs,F,j+1,d,h,e=>by
  unfold TrL at h;obtain⟨y,q,p,u,rfl,A,n,B,v⟩:=h
  obtain⟨x,m,f,e1,e2,e3,e4,e5⟩:=TrL.focus v (by simpa using e)
  let C:es.tail.getD j r=es.getD (j+1) r:=by cases es<;>simp
  rw[C] at e4;show⟨x,m,λb=>p b\/f b,by simpa using e1,λb=>?_,λb k z2=>?_,e4,λg i l a k1 s t c=>?_⟩
  ·rw[A b,e2 b];show⟨λz=>z.elim (λz=>.inr (.inl z)) λz=>z.imp id .inr,λz=>z.elim (λz=>.inr (.inl z)) λz=>z.imp id .inr⟩
  ·rcases z2 with z2|z2
   ·show n b z2 ((e2 b).mpr (.inl k))
   ·show e3 b k z2
  ·change TrL K g i (d0::ds.set j l) es r (y::q) _;unfold TrL;show⟨y,q,p,λb=>a b\/f b,rfl,λb=>⟨λz=>z.elim (λz=>.inr (.inl z)) λz=>z.imp id .inr,λz=>z.elim (λz=>.inr (.inl z)) λz=>z.imp id .inr⟩,λb k z2=>?_,B.go (λb o w e=>k1 b o (w.imp id .inl) e) s,e5 g i l a (λb o w e=>k1 b o (w.imp id .inr) e) s (by rw[C];show t) λb k z2=>c b k (.inr z2)⟩;rcases z2 with z2|z2
   ·show c b z2 (.inl k)
   ·show n b k ((e2 b).mpr (.inr z2))
def FP(K:Om)(H:Hp)(S:Pr)(k:Ow)(v:V)(F:Pr)(k1:Ow)(d1:D)(W:V)(up:D->D):Prop:=∃(F1 O:Pr),(∀b,F b↔F1 b\/O b)/\(∀b,F1 b->¬O b)/\Tr K H S d1 k1 W F1/\
  ∀(H':Hp) (S':Pr) (B:D) (q:Pr),(∀b o,(¬S b\/O b)->H b=Sb o->H' b=Sb o)->(∀b o,H b=Sb o->¬S b->¬S' b)->Tr K H' S' B k1 W q->(∀b,q b->¬O b)->Tr K H' S' (up B) k v (λb=>q b\/O b)
theorem FP.root(h:Tr K H S d k v F):FP K H S k v F k d v id:=by
 show⟨F,λ_=>False,λb=>⟨.inl,λz=>z.elim id λz=>z.elim⟩,λ_ _ z=>z,h,λg i e a k1 j t f=>?_⟩;let c:(λb=>a b\/False)=a:=by funext b;show propext ⟨λz=>z.elim id λz=>z.elim,.inl⟩
 rw[c];show t
theorem FP.same(h:FP K H S k v F k1 d1 v1 up)(s:Same H H2):FP K H2 S k v F k1 d1 v1 up:=by
 obtain⟨q,u,r,f,d,l⟩:=h;show⟨q,u,r,f,d.go (λb o _ e=>s b o e) λ_ _ _ n=>n,λi m a c k1 p t g=>l i m a c (λb o j e=>k1 b o j (s b o e)) (λb o e n=>p b o (s b o e) n) t g⟩
theorem FP.step{es:List Ow}{ds:List D}{up:D->D}{j:Nat}(h:FP K H S k v F (.own es r) (.nd hd ds) v1 up)(I:ds[j]?=Sb d):∃a o xs x,v1=.ref a/\H a=Sb o/\d4 K o hd xs/\xs.length=ds.length/\xs[j]?=Sb x/\FP K H S k v F (es.getD j r) d x (λz=>up (.nd hd (ds.set j z))):=by
 obtain⟨T,w,Q,q,B,E⟩:=h;unfold Tr at B;obtain⟨a,o,xs,R,rfl,q1,A,n1,n2,n,t⟩:=B
 obtain⟨x,M,i,e1,e2,e3,e4,e5⟩:=t.focus I
 show⟨a,o,xs,x,rfl,q1,A,t.len,e1,M,λb=>(hd.mu=Se/\b=a)\/i b\/w b,λb=>?_,λb c z2=>?_,e4,λm p l f k1 u P g=>?_⟩
 ·rw[Q b,n b,e2 b];show⟨λz=>z.elim (λz=>z.elim (λz=>.inr (.inl z)) λz=>z.imp id λz=>.inr (.inl z)) λz=>.inr (.inr (.inr z)),λz=>z.elim (λz=>.inl (.inr (.inl z))) λz=>z.elim (λz=>.inl (.inl z)) λz=>z.elim (λz=>.inl (.inr (.inr z))) .inr⟩
 ·rcases z2 with⟨hm,rfl⟩|z2|z2
  ·show n1 hm ((e2 b).mpr (.inl c))
  ·show e3 b c z2
  ·show q b ((n b).mpr (.inr ((e2 b).mpr (.inl c)))) z2
 ·let N:=e5 m p l f (λb o s e=>k1 b o (s.imp id λz=>.inr (.inl z)) e) u P λb c z2=>g b c (.inr (.inl z2))
  let C:m a=Sb o:=by
   cases hm:hd.mu with
   |true=>show k1 a o (.inr (.inl ⟨hm,rfl⟩)) q1
   |false=>show k1 a o (.inl (n2 hm)) q1
  let O:Tr K m p (.nd hd (ds.set j l)) (.own es r) (.ref a) (λb=>(hd.mu=Se/\b=a)\/(f b\/i b)):=by
   unfold Tr;show⟨a,o,xs,λb=>f b\/i b,rfl,C,A,λhm z=>z.elim (λz=>g a z (.inl ⟨hm,rfl⟩)) λz=>n1 hm ((e2 a).mpr (.inr z)),λhm=>u a o q1 (n2 hm),λb=>Iff.rfl,N⟩
  let y:=E m p _ _ (λb o s e=>k1 b o (s.imp id λz=>.inr (.inr z)) e) u O λb c z2=>by
   rcases c with⟨hm,rfl⟩|c|c
   ·show q b ((n b).mpr (.inl ⟨hm,rfl⟩)) z2
   ·show g b c (.inr (.inr z2))
   ·show q b ((n b).mpr (.inr ((e2 b).mpr (.inr c)))) z2
  let L:(λb=>((hd.mu=Se/\b=a)\/(f b\/i b))\/w b)=λb=>f b\/((hd.mu=Se/\b=a)\/i b\/w b):=by
   funext b;show propext ⟨λz=>z.elim (λz=>z.elim (λz=>.inr (.inl z)) λz=>z.imp id λz=>.inr (.inl z)) λz=>.inr (.inr (.inr z)),λz=>z.elim (λz=>.inl (.inr (.inl z))) λz=>z.elim (λz=>.inl (.inl z)) λz=>z.elim (λz=>.inl (.inr (.inr z))) .inr⟩
  rw[L] at y;show y
end
def Do(hd:Hd)(n:Nat)(x:D):Option Nat:=match hd with
 |.lst=>(match x with|.int z=>kf n z|_=>Sd)
 |.tup=>(match x with|.int z=>kf n z|_=>Sd)
 |.dic t ks=>(match j3 x with|some k=>if jg t k=Se then aH ks k else Sd|none=>Sd)
 |.obj _ _=>Sd
def yN(p:Option (Ow×D×(D->D)))(x:Option KD):Option (Ow×D×(D->D)):=match p,x with
 |some (.own es r,.nd hd ds,up),Sb (_,dx)=>(match Do hd ds.length dx with
  |some j=>(match ds[j]? with|some d=>Sb (es.getD j r,d,λz=>up (.nd hd (ds.set j z)))|none=>Sd)
  |none=>Sd)
 |_,_=>Sd
def yO(f:Str)(p:Option (Ow×D×(D->D))):Option (Ow×D×(D->D)):=match p with
 |some (.own es r,.nd (.obj c ns) ds,up)=>(match bm f ns with
  |some j=>(match ds[j]? with|some d=>Sb (es.getD j r,d,λz=>up (.nd (.obj c ns) (ds.set j z)))|none=>Sd)
  |none=>Sd)
 |_=>Sd
noncomputable def fV(o:Option (Option Sl)):Option (Ow×D×(D->D)):=match o with
 |some (Sb ⟨Sf,k,d⟩)=>Sb (k,d,id)
 |_=>Sd
def mw(X:Cx)(i:Nat)(f:Ro->Option (Ow×D×(D->D)))(e:Si):Prop:=∀Y k1 B up,f Y=Sb (k1,B,up)->∀g U H Q,SE X.K g Y U H->
 (∀q H' v F k d,Same H H'->Y[i]?=Sb (Sb ⟨Sf,k,d⟩)->U[i]?=Sb (Sb v)->(∀b,F b->g b=Sb (Sb i))->FP X.K H' (Sg g) k v F k1 B q up->Q q H')->wE X e U H Q
section
variable {X:Cx} {Z:fA} {c:Cz}
theorem FS(O:av X Z c){i:Nat}(a:eR c x=Sb i)(pos:Pos):mw X i (λY=>fV Y[i]?) (.Name x pos):=by
 intro Y k1 b j h g U H Q f q;dsimp only[fV] at h;split at h
 ·ext k d e;cases h;obtain⟨v,F,e1,e2,e3⟩:=f.slot i _ e;show eY O a pos e1 (q v H v F k1 b (Same.refl H) e e1 e2 (.root e3))
 ·cases h
theorem FT(O:av X Z c){V:Ro->Option (Ow×D×(D->D))}{T:Ro->Option KD}(E:mw X i V a)(N:SndE X T b)(K:dA b=Se):mw X i (λY=>yN (V Y) (T Y)) (.Subscript a b pos):=by
 intro Y k1 d1 up h g U H Q p q;dsimp only[yN] at h;split at h
 ·ext es r hd S hc kx W I L;split at h
  ·ext j f;split at h
   ·ext dj M;cases h
    cases hd with
    |lst=>
     show ar (ug nP aw aw (ce K)) (E Y _ _ _ I g U H _ p λP u v F k d s1 e1 e2 e3 e=>N Y _ _ L g U u _ (p.same s1) λy s s2 B=>?_)
     cases W with
     |int z=>
      obtain rfl:=B.rd.int;obtain⟨w,o,C,x,rfl,q1,A,l,n,m⟩:=(e.same s2).step M;cases(A);show .inl ⟨w,C,z,x,rfl,rfl,.of q1,by unfold L2.o6;rw[l,(show kf S.length z=Sb j from f)];show n,q x s v F k d (s1.trans s2) e1 e2 e3 m⟩
     |_=>cases f
    |tup=>
     show ar (ug nP aw aw (ce K)) (E Y _ _ _ I g U H _ p λP u v F k d s1 e1 e2 e3 e=>N Y _ _ L g U u _ (p.same s1) λy s s2 B=>?_)
     cases W with
     |int z=>
      obtain rfl:=B.rd.int;obtain⟨w,o,C,x,rfl,q1,A,l,n,m⟩:=(e.same s2).step M;cases(A);show .inr (.inl ⟨w,C,z,x,rfl,rfl,.of q1,by unfold L2.o6;rw[l,(show kf S.length z=Sb j from f)];show n,q x s v F k d (s1.trans s2) e1 e2 e3 m⟩)
     |_=>cases f
    |dic t ks=>
     simp only[Do] at f;split at f
     ·ext kk hk;split at f
      ·ext hf;show ar (nS (by have:=O.tab.units;lia) aw aw (ce K)) (E Y _ _ _ I g U H _ p λP u v F k d s1 e1 e2 e3 e=>N Y _ _ L g U u _ (p.same s1) λy s s2 B=>?_);obtain⟨w,o,C,x,rfl,q1,A,l,n,m⟩:=(e.same s2).step M;let R:=ux q1 A hk B.rd hf;rw[f,Pe,n] at R;show⟨w,x,rfl,R,q x s v F k d (s1.trans s2) e1 e2 e3 m⟩
      ·cases f
     ·cases f
    |obj c ns=>cases f
   ·cases h
  ·cases h
 ·cases h
end
section
variable {X:Cx}
theorem JM{p:Ro->Option (Ow×D×(D->D))}(I:attributeBase a f X.env (eval a X.env)=eval a X.env)(s:mw X i p a):mw X i (λY=>yO f (p Y)) (.Attribute a f pos):=by
 intro Y k1 P R h g U H Q L q;dsimp only[yO] at h;split at h
 ·ext V r c O S y w;split at h
  ·ext j n;split at h
   ·ext M z;cases h;show ar (xx aw I) (s Y _ _ _ w g U H _ L λN u v F k d s1 e1 e2 e3 b=>?_);obtain⟨A,o,T,x,rfl,q1,B,l,m,e⟩:=b.step z;obtain⟨C,K,_,⟨E,t⟩,rfl,_⟩:=B;show⟨A,C,K,_,x,rfl,q1,E,t f (OK (aZ n)),sC n m,q x u v F k d s1 e1 e2 e3 e⟩
   ·cases h
  ·cases h
 ·cases h
end
open Classical in
noncomputable def Gh.give(g:Gh)(F:Pr)(i:Nat):Gh:=λb=>if F b then Sb (Sb i) else g b
section
variable {K:Om} {H:Hp} {g:Gh} {F:Pr} {Y:Ro} {U:L2.St}
theorem iU{F2:Pr}(h:F2 b):g.give F2 i b=Sb (Sb i):=by unfold Gh.give;rw[if_pos h]
theorem bF{F2:Pr}(h:¬F2 b):g.give F2 i b=g b:=by unfold Gh.give;rw[if_neg h]
theorem give_S{F2:Pr}:Sg (g.give F2 i) b↔Sg g b\/F2 b:=by
 by_cases h:F2 b
 ·show⟨λ_=>.inr h,λ_=>by rw[Sg,iU h];simp⟩
 ·show⟨λz=>.inl (by rw[Sg,bF h] at z;show z),λz=>z.elim (λz=>by rw[Sg,bF h];show z) λz=>absurd z h⟩
structure oy(K:Om)(H:Hp)(g:Gh)(F:Pr)(Y:Ro)(U:L2.St)(i:Nat)(k:Ow)(es:List Ow)(r:Ow)(hd:Hd)(ds:List D)(up:D->D)(a:Addr)(o:HO)(xs:List V)(F':Pr):Prop where
 at_:H a=Sb o
 ok:d4 K o hd xs
 kids:TrL K H (Sg (g.plus F)) ds es r xs F'
 lab:∀b,F' b->g b=Sb (Sb i)
 nin:¬F' a
 own:g a=Sb (Sb i)
 put:∀(o':HO) (hd':Hd) (ds':List D) (xs':List V) (F2 F3:Pr),hd'.mu=Se->d4 K o' hd' xs'->(∀xs,o'≠.tup xs)->(∀b,F2 b->F b)->(∀b,F3 b->F' b\/F2 b)->TrL K H (Sg (g.give F2 i)) ds' es r xs' F3->
  SE K (g.give F2 i) (Y.set i (Sb ⟨Sf,k,up (.nd hd' ds')⟩)) U (upd H a o')
theorem FP.node{i:Nat}{O:Pr}{hd:Hd}(T:SE K (g.plus F) Y U H)(hg:∀b,F b->g b=Sd)(e:Y[i]?=Sb (Sb ⟨Sf,k,d⟩))(hv:U[i]?=Sb (Sb v))(lb:∀b,O b->(g.plus F) b=Sb (Sb i))(fp:FP K H (Sg (g.plus F)) k v O (.own es r) (.nd hd ds) v1 up)(hm:hd.mu=Se):∃a o xs F',v1=.ref a/\oy K H g F Y U i k es r hd ds up a o xs F':=by
 obtain⟨F1,Fr,D,N,W,h4⟩:=fp;unfold Tr at W;obtain⟨a,o,xs,F',rfl,q1,q2,n1,n2,x,t⟩:=W;let C:∀b,O b->g b=Sb (Sb i):=λb z=>bO (lb b z);let m:g a=Sb (Sb i):=C a ((D a).mpr (.inl ((x a).mpr (.inl ⟨hm,rfl⟩))));let V:∀b,F' b->g b=Sb (Sb i):=λb z=>C b ((D b).mpr (.inl ((x b).mpr (.inr z))));show⟨a,o,xs,F',rfl,q1,q2,t,V,n1 hm,m,λy Q S P s L A E nt s2 s3 t'=>?_⟩;let q:∀b,Sg (g.give s i) b->Sg (g.plus F) b:=λb z=>(am b).mpr ((give_S.mp z).imp id (s2 b));let B:∀b f,b≠a->H b=Sb f->upd H a y b=Sb f:=λb f n e=>by rw[ac n];show e
 let l:∀b,s b->g b=Sd:=λb z=>hg b (s2 b z);let p:¬L a:=λz=>(s3 a z).elim (n1 hm) λz=>by rw[l a z] at m;cases m
 show⟨λj sl u=>?_,λb z=>?_,by simp[T.len]⟩
 ·by_cases I:j=i
  ·subst I
   let R:j<Y.length:=by
    have:=(OA.mp u).1;simpa using this
   rw[OO R] at u;cases u
   let tn:Tr K (upd H a y) (Sg (g.give s j)) (.nd Q S) (.own es r) (.ref a) (λb=>b=a\/L b):=by
    unfold Tr;show⟨a,y,P,L,rfl,ah,E,λ_=>p,λh=>by (rw[A] at h;cases h),λb=>⟨λz=>z.imp (λz=>⟨A,z⟩) id,λz=>z.imp (λz=>z.2) id⟩,t'.go (λb f c e=>B b f (λz=>?_) e) λ_ _ _ n=>n⟩;subst z;rcases c with c|c
    ·show c (give_S.mpr (.inl (by rw[Sg,m];simp)))
    ·show p c
   show⟨v,_,hv,λb z=>?_,h4 (upd H a y) (Sg (g.give s j)) _ _ (λb f c e=>B b f (λz=>?_) e) (λb f _ n z=>n (q b z)) tn λb M z2=>?_⟩
   ·rcases z with(rfl|z)|z
    ·rw[bF (λz=>by rw[l b z] at m;cases m)];show m
    ·by_cases z2:s b
     ·show iU z2
     ·rw[bF z2];show(s3 b z).elim (V b) λz=>absurd z z2
    ·have:=C b ((D b).mpr (.inr z));rw[bF (λz=>by rw[l b z] at this;cases this)];show this
   ·subst z;rcases c with c|c
    ·show c ((am b).mpr (.inl (by rw[Sg,m];simp)))
    ·show N b ((x b).mpr (.inl ⟨hm,rfl⟩)) c
   ·rcases M with rfl|M
    ·show N b ((x b).mpr (.inl ⟨hm,rfl⟩)) z2
    ·rcases s3 b M with z|z
     ·show N b ((x b).mpr (.inr z)) z2
     ·have:=C b ((D b).mpr (.inr z2));rw[l b z] at this;cases this
  ·rw[ON (Ne.symm I)] at u;obtain⟨w,X,e1,e2,e3⟩:=T.slot j sl u;let Z:∀b,X b->g b=Sb (Sb j):=λb z=>bO (e2 b z);show⟨w,X,e1,λb z=>?_,e3.go (λb f c e=>B b f (λz=>?_) e) λb f _ n z=>n (q b z)⟩
   ·have:=Z b z;rw[bF (λz=>by rw[l b z] at this;cases this)];show this
   ·subst z;rcases c with c|c
    ·show c ((am b).mpr (.inl (by rw[Sg,m];simp)))
    ·rw[Z b c] at m;cases m;show I rfl
 ·by_cases c:b=a
  ·show⟨y,by rw[c];show ah,nt⟩
  ·obtain⟨f,e2,n⟩:=T.mu b (q b z);show⟨f,B b f c e2,n⟩
theorem Evo.give{F2:Pr}(c:Evo g0 H0 g H F)(s2:∀b,F2 b->F b)(h:g a=Sb (Sb i)):Evo g0 H0 (g.give F2 i) (L2.upd H a o') (λ_=>False):=by
 let d:∀b,F2 b->g b=Sd:=λb z=>(c.tmp b (s2 b z)).1;show⟨λb o n e=>?_,λb=>⟨λe=>?_,λe=>?_⟩,λb j e=>?_,λ_ z=>z.elim,λb o e=>?_⟩
 ·rw[ac (λz=>?_)]
  ·show c.keep b o n e
  ·subst z;rcases c.new b i h with⟨j,q⟩|q
   ·show n j q
   ·rw[e] at q;cases q
 ·have:=(c.out b).mp e;rw[bF (λz=>by rw[d b z] at this;cases this)];show this
 ·by_cases z:F2 b
  ·rw[iU z] at e;cases e
  ·rw[bF z] at e;show(c.out b).mpr e
 ·by_cases z:F2 b
  ·show(c.tmp b (s2 b z)).2
  ·rw[bF z] at e;show c.new b j e
 ·by_cases f:b=a
  ·show⟨o',by rw[f];show ah⟩
  ·obtain⟨k,q⟩:=c.dom b o e;show⟨k,by rw[ac f];show q⟩
end
end J
namespace L2
open PyProof.Rows
section
variable {X:Cx}
def uV:V->List V->Hp->VK->Prop:=λx vs H Q=>∃l xs i y,x=.ref l/\vs=[.int i,y]/\H l=Sb (.lst xs)/\0<=i/\i<=100000/\xs.length<sizeLine/\Q .non (upd H l (.lst (xs.take i.toNat++y::xs.drop i.toNat)))
theorem wF:KQ X "list.insert" uV:=by
 intro f s U H x w v C Q I m j h;obtain⟨l,o,i,y,rfl,rfl,d,A,B,p,q⟩:=h;cases m;obtain⟨u,c,rfl,⟨t,rfl⟩,g⟩:=j.two;obtain⟨z,a,n,r,hl,e⟩:=I.lstM d
 let b:¬(!Builtin.List.listFitsIndex i)=Se:=by
  have:Builtin.List.listFitsIndex i=Se:=by
   unfold Builtin.List.listFitsIndex;simp only[Oo,decide_eq_true_eq]
   lia
  rw[this];decide
 show call_meets F.slot_list_insert ⟨_,e,rfl⟩ F.entry_list_insert (F.args_list_insert_3 _ _ _) (AutoSeq1.list_insert_list_int_val_1 l a.toArray n i t c b (by rw[OC];lia)) ⟨e,?_⟩;show⟨.non,_,I.lset (its':=a.take i.toNat++c::a.drop i.toNat) d e ?_ ((r.take _).append (.cons g (r.drop _))) ?_,rfl,q⟩
 ·change((a.toArray.extract 0 (if i<0 then(i+(a.toArray.size:Int)).toNat else min i.toNat a.toArray.size)).push c++a.toArray.extract (if i<0 then(i+(a.toArray.size:Int)).toNat else min i.toNat a.toArray.size))=_
  rw[if_neg (by lia)];let e1:a.take (min i.toNat a.toArray.size)=a.take i.toNat:=by rw[OC,<- List.take_take,OR]
  let e2:a.drop (min i.toNat a.toArray.size)=a.drop i.toNat:=by
   rw[OC];by_cases h:i.toNat<=a.length
   ·rw[Qe h]
   ·rw[Nat.min_eq_right (by lia),P8,List.drop_eq_nil_of_le (by lia)]
  rw[<- e1,<- e2];generalize min i.toNat a.toArray.size=k;apply Array.ext';simp[List.extract_eq_take_drop];show P0 (by simp)
 ·rw[OF,OM,OP,QX]
  lia
end
end L2
namespace J
def ju(m:Str)(es:List Ow)(r:Ow)(ds:List D)(q:List KD):Option (D×List D):=
 if m="append" then(match q with|[x]=>if es.length<=ds.length/\bE r x=Se/\ds.length<100000 then Sb (.non,ds++[x.2]) else Sd|_=>Sd)
 else if m="extend" then(match q with|[(k,.nd .lst ys)]=>if jI (.own es r)=Se/\jd k ys=Se/\bv k=Sf/\ds.length+ys.length<=100000 then Sb (.non,ds++ys) else Sd|_=>Sd)
 else if m="clear" then(match q with|[]=>Sb (.non,[])|_=>Sd)
 else if m="insert" then(match q with
  |[(_,.int z),(k,d)]=>if jI (.own es r)=Se/\i7 k d=Se/\0<=z/\z<=100000/\ds.length<100000 then Sb (.non,ds.take z.toNat++d::ds.drop z.toNat) else Sd
  |_=>Sd)
 else Sd
def FU(m:Str):V->List V->Hp->VK->Prop:=
 if m="append" then ui else if m="extend" then uj else if m="clear" then xH else if m="insert" then uV else λ_ _ _ _=>False
section
variable {K:Om} {H:Hp} {g g0:Gh} {H0:Hp} {F F':Pr} {Y:Ro} {U:L2.St} {i:Nat} {k:Ow} {es:List Ow} {r:Ow} {ds:List D} {up:D->D} {a:Sj} {o:HO} {xs:List V}
theorem uW:g.give (λ_=>False) i=g:=by funext b;show bF λz=>z
theorem TrL.snoc2:∀{ds:List D} {es:List Ow} {r:Ow} {us:List V} {F F2:Pr} {d:D} {v:V},es.length<=ds.length->TrL K H S ds es r us F->Tr K H S d r v F2->(∀b,F b->¬F2 b)->TrL K H S (ds++[d]) es r (us++[v]) (λb=>F b\/F2 b)
 |[],es,r,us,F,F2,d,v,hl,h,t,dj=>by
  have:es=[]:=Q4.mp (Nat.le_zero.mp hl);subst this;show TrL.snoc h t dj
 |e::ds,es,r,us,F,F2,d,v,hl,h,t,dj=>by
  unfold TrL at h;obtain⟨y,k,g,f,rfl,c,a,l,j⟩:=h;unfold TrL
  show⟨y,k++[v],g,λb=>f b\/F2 b,rfl,λb=>?_,λb i z2=>?_,l,TrL.snoc2 (by cases es<;>simp at hl⊢;lia) j t λb z=>dj b ((c b).mpr (.inr z))⟩
  ·change F b\/F2 b↔g b\/f b\/F2 b;rw[c b,or_assoc]
  ·rcases z2 with z2|z2
   ·show a b i z2
   ·show dj b ((c b).mpr (.inl i)) z2
theorem TrL.ofFlat:∀{ds:List D} {es:List Ow} {xs:List V},(∀e∈es,e=.fz)->RpL K H S ds xs->TrL K H S ds es .fz xs λ_=>False
 |[],_,_,_,h=>by unfold TrL;show⟨h.nil_inv,λ_ z=>z⟩
 |d::ds,es,_,he,h=>by
  obtain⟨y,c,rfl,r,t⟩:=h.cons_inv;unfold TrL
  show⟨y,c,_,_,rfl,λb=>⟨.inl,λz=>z.elim id id⟩,λ_ z=>z.elim,?_,TrL.ofFlat (λe q=>he e (by cases es with|nil=>cases q|cons a r=>show .tail _ q)) t⟩
  let e:es.headD .fz=.fz:=by
   cases es with
   |nil=>rfl
   |cons a r=>show he a (.head _)
  rw[e];show Tr.fz r
theorem iV{Q:VK}(h:ju m es r ds as=Sb (d',ds'))(j:oy K H g F Y U i k es r .lst ds up a o xs F')(T:Evo g0 H0 g H F)(S:SE K (g.plus F) Y U H)(E:VRL K H g F as vs F)(q:∀v g' H' I,Evo g0 H0 g' H' I->SE K (g'.plus I) (Y.set i (Sb ⟨Sf,k,up (.lst ds')⟩)) U H'->VR1 K H' g' I .sh d' v I->Q v H'):FU m (.ref a) vs H Q:=by
 let ho:o=.lst xs:=j.ok;subst ho;let L:∀b,F b->g b=Sd:=λb z=>(T.tmp b z).1;let mm:MuOk H (Sx g F):=λb z=>S.mu b ((am b).mpr z);let sx:∀b,Sg (g.plus F) b↔Sx g F b:=λb=>am b
 -- behind the change
 let l:∀{c:List V} {F2 F3:Pr} {v:V},(∀b,F2 b->F b)->(∀b,F3 b->F' b\/F2 b)->TrL K H (Sg (g.give F2 i)) ds' es r c F3->Rp K (upd H a (.lst c)) (Sg (g.give F2 i)) d' v->Q v (upd H a (.lst c)):=λ{c F2 F3 v} s2 s3 t R=>by
  show q v (g.give F2 i) _ (λ_=>False) (T.give s2 j.own) ?_ ⟨λ_ z=>z,R.weak λb z=>z.elim id λz=>z.elim⟩;rw[aW λ_ z=>z];show j.put (.lst c) .lst ds' c F2 F3 rfl rfl (λ_ h=>by cases h) s2 s3 t
 let N:∀{F2:Pr},(∀b,F2 b->F b)->∀b o,H b=Sb o->¬Sg (g.plus F) b->¬Sg (g.give F2 i) b:=λs2 b o _ n z=>n ((am b).mpr ((give_S.mp z).imp id (s2 b)))
 let p:jI (.own es r)=Se->(∀e∈es,e=.fz)/\r=.fz/\RpL K H (Sg g) ds xs:=λhf=>by
  obtain⟨w,A⟩:=uu hf;show⟨w,A,?_⟩;have:=j.kids;rw[A] at this;show(this.flat w).2.weak λb z=>(am b).mpr (.inl z)
 let ha:∀{d:D} {v:V} {c:List V},Rp K H (Sg g) d v->Rp K (upd H a (.lst c)) (Sg g) d v:=λr=>r.go λb o n e=>⟨by rw[ac (λz=>n (by rw[z,Sg,j.own];simp))];show e,n⟩;unfold ju at h;unfold FU;split at h
 ·ext hm;rw[if_pos hm];split at h
  ·ext x;split at h
   ·ext f;cases h;obtain⟨y,ys,F1,hb,rfl,C,dj,P,rfl,hn⟩:=E;let e1:∀b,F b↔F1 b:=λb=>⟨λz=>((C b).mp z).elim id λz=>absurd z (hn b),λz=>(C b).mpr (.inl z)⟩;obtain⟨F2,O,a2⟩:=VR1.fit f.2.1 mm (λb z=>L b ((e1 b).mpr z)) (λb z=>(e1 b).mpr z) P;show⟨a,xs,y,rfl,rfl,j.at_,by rw[j.kids.len];show Ov f.2.2 (aJ (Ox _)),?_⟩;show l (λb z=>(e1 b).mpr (O b z)) (λb z=>z) (TrL.snoc2 f.1 (j.kids.go (λ_ _ _ e=>e) (N λb z=>(e1 b).mpr (O b z))) (a2 _ λb z=>?_) λb Z z2=>?_) (by unfold Rp;rfl)
    ·rcases give_S.mp z with z|z
     ·show .inr (.inl z)
     ·show .inr (.inr (.inl z))
    ·have:=j.lab b Z;rw[L b ((e1 b).mpr (O b z2))] at this;cases this
   ·cases h
  ·cases h
 ·ext hm;rw[if_neg hm];split at h
  ·ext s;rw[if_pos s];split at h
   ·ext kk ys;split at h
    ·ext f;cases h;obtain⟨w,A,B⟩:=p f.1;subst A;obtain⟨v,rfl,R⟩:=E.off.one;obtain⟨b,o,X,rfl,gb,qb,W⟩:=R.items f.2.1 (ot S L) iP;cases(qb);show⟨a,b,xs,X,rfl,rfl,j.at_,gb,by rw[B.len,W.len];show aJ f.2.2.2,?_⟩;show l (F2:=λ_=>False) (F3:=λ_=>False) (λ_ z=>z.elim) (λ_ z=>z.elim) (by rw[uW];show .ofFlat w (B.append W)) (by unfold Rp;rfl)
    ·cases h
   ·cases h
  ·ext s;rw[if_neg s];split at h
   ·ext u;rw[if_pos u];split at h
    ·cases h;obtain⟨rfl,_⟩:=E;show⟨a,xs,rfl,rfl,j.at_,?_⟩;show l (F2:=λ_=>False) (F3:=λ_=>False) (λ_ z=>z.elim) (λ_ z=>z.elim) (by unfold TrL;show⟨rfl,λ_ z=>z⟩) (by unfold Rp;rfl)
    ·cases h
   ·ext u;rw[if_neg u];split at h
    ·ext M;rw[if_pos M];split at h
     ·ext kz z kd dd;split at h
      ·ext f;cases h;obtain⟨w,A,B⟩:=p f.1;subst A;obtain⟨v1,v2,rfl,P,r2⟩:=E.off.two;obtain rfl:=P.rd.int;let ry:=r2.sh f.2.1 (ot S L) iP;show⟨a,xs,z,v2,rfl,rfl,j.at_,f.2.2.1,f.2.2.2.1,by rw[B.len];show Ov f.2.2.2.2 (aJ (Ox _)),?_⟩;show l (F2:=λ_=>False) (F3:=λ_=>False) (λ_ z=>z.elim) (λ_ z=>z.elim) (by rw[uW];show .ofFlat w ((B.take _).append (.cons ry (B.drop _)))) (by unfold Rp;rfl)
      ·cases h
     ·cases h
    ·cases h
end
noncomputable def mNames:List Str:=["append","extend","clear","insert"]
def fW(m:Str)(i:Nat)(p:Option (Ow×D×(D->D)))(q:Option (List KD))(Y:Ro):MR:=match p,q with
 |some (.own es r,.nd .lst ds,up),Sb q=>(match ju m es r ds q,Y[i]? with
  |some (d',ds'),Sb (Sb ⟨Sf,k,_⟩)=>Sb (.sh,d',Y.set i (Sb ⟨Sf,k,up (.lst ds')⟩))
  |_,_=>Sd)
 |_,_=>Sd
section
variable {X:Cx} {Z:fA} {c:Cz}
theorem oz(hm:m∈mNames):∃id,Slot "list" m id/\typeOf (.builtin id)=pure (.type "method_descriptor")/\Iu X id (FU m):=by
 simp only[mNames,OD,O0,or_false] at hm;rcases hm with rfl|rfl|rfl|rfl
 ·show⟨_,PySem.F.slot_list_append,PySem.F.type_list_append,mK⟩
 ·show⟨_,PySem.F.slot_list_extend,PySem.F.type_list_extend,wg⟩
 ·show⟨_,PySem.F.slot_list_clear,PySem.F.type_list_clear,xI⟩
 ·show⟨_,PySem.F.slot_list_insert,PySem.F.type_list_insert,wF⟩
theorem FV{j cp:Pos}{p:Ro->Option (Ow×D×(D->D))}(hm:m∈mNames)(x:mw X i p b)(B:gM b=Se)(hl:(j.endLine==cp.line)=Se):bw X (λY=>fW m i (p Y) (Sb []) Y) (.Call (.Attribute b m j) [] [] cp):=by
 intro Y P d T h g U H Q s q;dsimp only[fW] at h;split at h
 ·ext Z r S R O w y;cases y;split at h
  ·ext N C k W E f;cases h;obtain⟨I,s1,s2,s3⟩:=oz hm;show ar (xE PySem.F.plainAttrs_list s1 s2 s3 aw (gw B) hl) (x Y _ _ _ w g U H _ s λM u v F k0 V sm e1 e2 e3 t=>?_);rw[f] at e1;cases e1;let c:SE X.K (g.plus λ_=>False) Y U u:=by rw[aW λ_ z=>z];show s.same sm
   let n:g.plus (λ_=>False)=g:=aW λ_ z=>z;obtain⟨a,o,l,L,rfl,e⟩:=FP.node c (λ_ z=>z.elim) f e2 (by rw[n];show e3) (by rw[n];show t) rfl;let A:o=.lst l:=e.ok;subst A;show⟨.inl ⟨rfl,l,.of e.at_⟩,iV E e (cY sm (λ_ z=>z.elim) λ_ z=>z.elim) c ⟨rfl,λ_ z=>z⟩ q⟩
  ·cases h
 ·cases h
theorem BJ(h:ak e=Se)(h':ak e'=Se):((backTo cp (Sy [e,e'] env)).all (λx=>!x.1)&&(backToKw cp (keywordEach [] env)).all (λx=>x.1.isSome)
      && decide ([e,e'].length+([]:List Keyword).length+(if([]:List Keyword).isEmpty then 0 else 1)<30))=Se:=by
  rw[ae h,ae h'];rfl
theorem FW{b e:Si}{T cp:Pos}{Z:Ro->Option (Ow×D×(D->D))}{W:Ro->Option KD}(hm:m∈mNames)(hp:mw X i Z b)(ha:SndE X W e)(C:gM b=Se)(hn:ak e=Se)(hl:(T.endLine==cp.line)=Se):bw X (λY=>fW m i (Z Y) (fI (W Y) (Sb [])) Y) (.Call (.Attribute b m T) [e] [] cp):=by
 intro Y kd d Y' h g U H Q l q;dsimp only[fW] at h;split at h
 ·ext es r ds up as ep s;split at h
  ·ext d' hf k dd em A;cases h;obtain⟨he,s1,s2,s3⟩:=oz hm;show ar (xF PySem.F.plainAttrs_list s1 s2 s3 aw (bu aw dL (ae hn)) (gw C) (lj hn) hl (ae hn) rfl) (hp Y _ _ _ ep g U H _ l λR B v F k0 d0 sm e1 e2 e3 I=>?_);rw[A] at e1;cases e1;unfold fI at s;split at s
   ·ext x hd ex L;cases L;cases s;obtain⟨kx,dx⟩:=x;let M:g.plus (λ_=>False)=g:=aW λ_ z=>z
    let sq:∃j,SqL X.K B (match R with|.ref a=>a|_=>0) j/\∃a,R=.ref a:=by
     obtain⟨a,o,j,F',rfl,u⟩:=FP.node (F:=λ_=>False) (by rw[M];show l.same sm) (λ_ z=>z.elim) A e2 (by rw[M];show e3) (by rw[M];show I) rfl;let ho:o=.lst j:=u.ok;subst ho;show⟨j,.of u.at_,a,rfl⟩
    obtain⟨w,E,a0,rfl⟩:=sq;show⟨.inl ⟨rfl,w,E⟩,ha Y kx dx ex g U B _ (l.same sm) λy H2 c r2=>?_⟩;obtain⟨p,t,V⟩:=r2;let S:=(l.same sm).plus c t V.dom;let f:∀b,p b->g b=Sd:=λb z=>eV (l.same sm).mu (t b z);let hc:=I.same c
    let f3:FP X.K H2 (Sg (g.plus p)) k v F (.own es r) (.lst ds) (.ref a0) up:=by
     obtain⟨F1,Fr,q1,q2,q3,q4⟩:=I;let N:∀b o,B b=Sb o->¬Sg g b->¬Sg (g.plus p) b:=λb o e n z=>((am b).mp z).elim n λz=>by rw[t b z] at e;cases e
     show⟨F1,Fr,q1,q2,q3.go (λb o _ e=>c b o e) N,λH' S' O P t1 t2 t3 t4=>q4 H' S' O P (λb o C e=>t1 b o (C.imp (λn=>N b o e n) id) (c b o e)) (λb o e n=>t2 b o (c b o e) (N b o e n)) t3 t4⟩
    obtain⟨a,o,j,F',e4,u⟩:=FP.node S f A e2 (λb z=>cA (e3 b z) λz2=>by have:=e3 b z;rw[f b z2] at this;cases this) f3 rfl;cases e4;show iV em u (cY (sm.trans c) (λb z=>sm.free (t b z)) f) S ⟨y,[],p,λ_=>False,rfl,λb=>⟨.inl,λz=>z.elim id λz=>z.elim⟩,λ_ _ z=>z,V,rfl,λ_ z=>z⟩ q
   ·cases s
  ·cases h
 ·cases h
def qu(m:Str)(i:Nat)(o:Option (Option Sl))(a:MR):MR:=match o,a with
 |some (Sb ⟨Sf,.own _ _,.nd .lst _⟩),Sb (kd,d,Y1)=>fW m i (fV Y1[i]?) (Sb [(c9 kd d,d)]) Y1
 |_,_=>Sd
theorem FX(O:av X Z c){i:Nat}{e:Si}{t cp:Pos}{C:Ro->MR}(hm:m∈mNames)(W:eR c x=Sb i)(T:bw X C e)(N:gM (.Name x p)=Se)(hn:ak e=Se)(hl:(t.endLine==cp.line)=Se):bw X (λY=>qu m i Y[i]? (C Y)) (.Call (.Attribute (.Name x p) m t) [e] [] cp):=by
 intro Y kd d Y' h g U H Q E q;dsimp only[qu] at h;split at h
 ·ext he r0 L V dx A I ex;obtain⟨S,s1,s2,s3⟩:=oz hm;obtain⟨v,F,e1,e2,e3⟩:=E.slot i _ I;let n:=e3;unfold Tr at n;obtain⟨a0,K,l,hd,rfl,D,q1,_⟩:=n;let q1:K=.lst l:=q1;subst q1;show ar (xF PySem.F.plainAttrs_list s1 s2 s3 aw (bu aw dL (ae hn)) (gw N) (lj hn) hl (ae hn) rfl) (eY O W p e1 ⟨.inl ⟨rfl,l,.of D⟩,T Y V dx A ex g U H _ E λy D H1 F1 s f P=>?_⟩);unfold fW at h;split at h
  ·ext es r ds up as u M;cases M;split at h
   ·ext d' hf k dd em j;cases h;have:fV A[i]?=Sb (k,dd,id):=by rw[j];rfl
    rw[this] at u;cases u;obtain⟨w,Fi,B,w2,R⟩:=f.slot i _ j;rw[e1] at B;cases B;obtain⟨a,o,xs,F',e4,nd⟩:=FP.node f (λb z=>(s.tmp b z).1) j e1 w2 (.root R) rfl;cases e4;show iV em nd s f ⟨y,[],F1,λ_=>False,rfl,λb=>⟨.inl,λz=>z.elim id λz=>z.elim⟩,λ_ _ z=>z,P.im f.mu,rfl,λ_ z=>z⟩ q
   ·cases h
  ·cases h
 ·cases h
def lH(m:Str)(i:Nat)(o:Option (Option Sl))(a:Option (List KD×Ro)):MR:=match o with
 |some (Sb ⟨Sf,.own _ _,.nd .lst _⟩)=>(match a with|some (kds,Y1)=>fW m i (fV Y1[i]?) (Sb kds) Y1|none=>Sd)
 |_=>Sd
theorem BK(O:av X Z c){i:Nat}{y cp:Pos}{D:Ro->Option (List KD×Ro)}(hm:m∈mNames)(W:eR c x=Sb i)(V:lB X D [e,e'])(P:gM (.Name x p)=Se)(hn:ak e=Se)(n:ak e'=Se)(hl:(y.endLine==cp.line)=Se):bw X (λY=>lH m i Y[i]? (D Y)) (.Call (.Attribute (.Name x p) m y) [e,e'] [] cp):=by
 intro Y kd d Y' h g U H Q I q;dsimp only[lH] at h;split at h
 ·ext he r0 M K;split at h
  ·ext t B ex;obtain⟨T,s1,s2,s3⟩:=oz hm;obtain⟨v,F,e1,e2,e3⟩:=I.slot i _ K;let s:=e3;unfold Tr at s;obtain⟨a0,L,l,hd,rfl,E,q1,_⟩:=s;let q1:L=.lst l:=q1;subst q1;show ar (xF PySem.F.plainAttrs_list s1 s2 s3 aw cW (gw P) (BJ hn n) hl (ae hn) (by rw[ae n];rfl)) (eY O W p e1 ⟨.inl ⟨rfl,l,.of E⟩,V Y t B ex g U H _ I λys E H1 F1 u f R=>?_⟩);unfold fW at h;split at h
   ·ext es r ds up as A N;cases N;split at h
    ·ext d' hf k dd em j;cases h;have:fV B[i]?=Sb (k,dd,id):=by rw[j];rfl
     rw[this] at A;cases A;obtain⟨w,Fi,C,w2,S⟩:=f.slot i _ j;rw[e1] at C;cases C;obtain⟨a,o,xs,F',e4,nd⟩:=FP.node f (λb z=>(u.tmp b z).1) j e1 w2 (.root S) rfl;cases e4;show iV em nd u f R q
    ·cases h
   ·cases h
  ·cases h
 ·cases h
end
abbrev jQ:Pr:=λ_=>False
def frzI(i:Nat)(Y:Ro):Ro:=match Y[i]? with
 |some (Sb ⟨Sf,.own _ _,.nd hd ds⟩)=>if hd.mu=Se then Y.set i (Sb ⟨Sf,.own [] .fz,.nd hd ds⟩) else Y
 |_=>Y
def frzN:List Nat->Ro->Ro
 |[],Y=>Y
 |i::is,Y=>frzN is (if 1000<=i then frzI (i-1000) Y else match Y[i]? with|some (Sb ⟨Sf,k,d⟩)=>Y.set i (Sb ⟨Sf,.fz,d⟩)|_=>Y)
open Classical in
theorem SE.frzI(i:Nat)(k:SE K g Y U H):∃g',SE K g' (frzI i Y) U H/\Evo g H g' H jQ:=by
 unfold J.frzI;split
 ·ext L r w A e;split
  ·ext hm;obtain⟨v,D,e1,e2,e3⟩:=k.slot i _ e;let e3:Tr K H (Sg g) (.nd w A) (.own L r) v D:=e3;unfold Tr at e3;obtain⟨a,o,B,c,rfl,q1,y,n1,n2,u,t⟩:=e3;let m:∀b,c b->g b=Sb (Sb i):=λb z=>e2 b ((u b).mpr (.inr z));let x:g a=Sb (Sb i):=e2 a ((u a).mpr (.inl ⟨hm,rfl⟩))
   show let g':Gh:=λb=>if c b then Sd else g b;?_
   let f:∀b,¬c b->g' b=g b:=λb h=>if_neg h;let p:∀b,c b->g' b=Sd:=λb h=>if_pos h
   let d:∀b,Sg g' b->Sg g b/\¬c b:=λb z=>by
    by_cases h:c b
    ·show absurd (p b h) z
    ·show⟨by rw[Sg,<- f b h];show z,h⟩
   show⟨g',⟨λj F l=>?_,λb z=>k.mu b (d b z).1,by rw[PX];show k.len⟩,⟨λ_ _ _ e=>e,λb=>⟨λz=>?_,λz=>?_⟩,λb j z=>.inl ⟨j,?_⟩,λ_ z=>z.elim,λ_ o e=>⟨o,e⟩⟩⟩
   ·by_cases q:j=i
    ·subst q;let s:j<Y.length:=by have:=(OA.mp l).1;simpa using this
     rw[OO s] at l;cases l;show⟨.ref a,λb=>b=a,e1,λb z=>by rw[z,f a (n1 hm)];show x,?_⟩;unfold Tr;show⟨a,o,B,λ_=>False,rfl,q1,y,λ_ z=>z,(λh=>by rw[hm] at h;cases h),λb=>⟨λz=>.inl ⟨hm,z⟩,λz=>z.elim (λz=>z.2) λz=>z.elim⟩,.ofFz (t.rp d)⟩
    ·rw[ON (Ne.symm q)] at l;obtain⟨v,C,k1,E,I⟩:=k.slot j F l;show⟨v,C,k1,λb z=>?_,I.go (λ_ _ _ e=>e) λb o _ n z=>n (d b z).1⟩;have:=E b z;rw[f b λh=>by rw[m b h] at this;cases this;show q rfl];show this
   ·rw[f b λh=>by rw[m b h] at z;cases z];show z
   ·by_cases h:c b
    ·rw[p b h] at z;cases z
    ·rw[f b h] at z;show z
   ·by_cases h:c b
    ·rw[p b h] at z;cases z
    ·rw[f b h] at z;show z
  ·show⟨g,k,.refl g H⟩
 ·show⟨g,k,.refl g H⟩
theorem SE.frz1{g:Gh}{Y:Ro}{i:Nat}(f:SE K g Y U H)(e:Y[i]?=Sb (Sb ⟨Sf,k,d⟩)):SE K (g.off i) (Y.set i (Sb ⟨Sf,.fz,d⟩)) U H/\Evo g H (g.off i) H jQ:=by
 obtain⟨v,h,e1,e2,e3⟩:=f.slot i _ e;let r:Rp K H (Sg ((g.off i).plus jQ)) d v:=e3.rp λb z=>((am b).mp z).elim (λz=>⟨(jP z).1,λz2=>(jP z).2 (e2 b z2)⟩) λz=>z.elim
 have:=ox (Y':=Y.set i (Sb ⟨Sf,.fz,d⟩)) (F:=jQ) f (λ_ z=>z.elim) (by simp) λj l e4=>(by
  by_cases a:j=i
  ·subst a
   let c:j<Y.length:=by
    have:=(OA.mp e4).1;simpa using this
   rw[OO c] at e4;cases e4;show .inr ⟨v,e1,rfl,r⟩
  ·rw[ON (Ne.symm a)] at e4;show .inl ⟨a,e4⟩)
 rw[aW λ_ z=>z] at this;show⟨this,km λ_ z=>z.elim⟩
theorem SE.frzN{H:Hp}:∀(a:List Nat) {g:Gh} {Y:Ro},SE K g Y U H->∃g',SE K g' (frzN a Y) U H/\Evo g H g' H jQ
 |[],g,Y,se=>⟨g,se,.refl g H⟩
 |i::a,g,Y,se=>by
  unfold J.frzN;by_cases hi:1000<=i
  ·rw[if_pos hi];obtain⟨c,s1,e1⟩:=se.frzI (i-1000);obtain⟨b,s2,e2⟩:=SE.frzN a s1;show⟨b,s2,lE e1 e2⟩
  rw[if_neg hi];split
  ·ext k d e;obtain⟨s1,e1⟩:=se.frz1 e;obtain⟨b,s2,e2⟩:=SE.frzN a s1;show⟨b,s2,lE e1 e2⟩
  ·show SE.frzN a se
inductive BP where
 |nm (i:Nat)
 |ix (b:BP) (e:IE)
 |fld (b:BP) (f:Str)
noncomputable def BP.slot:BP->Nat
 |.nm i=>i
 |.ix b _=>b.slot
 |.fld b _=>b.slot
def rB(Z:Nat->Option Fn):BP->Ro->Option (Ow×D×(D->D))
 |.nm i,Y=>fV Y[i]?
 |.ix b e,Y=>yN (rB Z b Y) (aa Z e Y)
 |.fld b f,Y=>yO f (rB Z b Y)
mutual
inductive ME where
 |p (e:IE)
 |mv (i:Nat)
 |fz (i:Nat)
 |io (f:Nat) (as:MAs)
 |fn (f:Nat) (as:j4)
 |blt (x:Str) (as:j4)
 |tup (k:Ow) (as:j4)
 |bin (op:SJ) (as:j4)
 |cmp (op:SI) (as:j4)
 |ix (as:j4)
 |comp (r:Ow) (cap:List (Option Nat)) (tg:IT) (it:MI) (ts:MO) (elt:ME)
 |mut (m:Str) (b:BP) (as:IEs)
 |mutM (m:Str) (i:Nat) (a:ME)
 |mutMs (m:Str) (i:Nat) (as:j4)
inductive MI where
 |p (it:II)
 |rng (a:ME)
inductive MAs where
 |nil
 |ref (i:Nat) (r:MAs)
 |val (a:ME) (r:MAs)
inductive j4 where
 |fin (a:ME) (r:IEs)
 |cons (a:ME) (r:j4)
inductive MT where
 |p (e:IE)
 |cmp (op:SI) (as:j4)
inductive MO where
 |non
 |som (t:MT)
end
noncomputable def oS(f:List KD->Option KD)(a:Option (List KD×Ro)):MR:=match a with
 |some (kds,Y)=>(match f kds with|some (kd,d)=>Sb (kd,d,Y)|none=>Sd)
 |none=>Sd
def Dp(op:SI)(a:Option (List KD×Ro)):Option (Bool×Ro):=match a with
 |some ([x,y],Y)=>(match aq op x.2 y.2 with|some b=>Sb (b,Y)|none=>Sd)
 |_=>Sd
noncomputable def KY(a:Option KD)(Y:Ro):MR:=match a with|some (kd,d)=>Sb (kd,d,Y)|none=>Sd
noncomputable def Nx(a:Option Bool)(Y:Ro):Option (Bool×Ro):=match a with|some b=>Sb (b,Y)|none=>Sd
structure GG where
 fn:Nat->Option Fn
 fm:Nat->Option Fm
mutual
def aO(Z:GG):ME->Ro->MR
 |.p e,Y=>KY (aa Z.fn e Y) Y
 |.mv i,Y=>wB i Y
 |.fz i,Y=>wC i Y
 |.io f as,Y=>FL (Z.fm f) (dD Z as Y)
 |.fn f as,Y=>(match Z.fn f with|some B=>oS (uB B) (ba Z as Y)|none=>Sd)
 |.blt x as,Y=>oS (fx x) (ba Z as Y)
 |.tup k as,Y=>oS (λkds=>iC k (Sb kds)) (ba Z as Y)
 |.bin op as,Y=>oS (f2 (fw op)) (ba Z as Y)
 |.cmp op as,Y=>oS (f2 λx y=>bV (aq op x.2 y.2)) (ba Z as Y)
 |.ix as,Y=>oS (f2 KW) (ba Z as Y)
 |.comp r cap tg it ts elt,Y=>fU r (eZ Z it Y) (eX cap tg (mx Z ts) (aO Z elt)) cap
 |.mut m b as,Y=>fW m b.slot (rB Z.fn b Y) (aP Z.fn as Y) Y
 |.mutM m i a,Y=>qu m i Y[i]? (aO Z a Y)
 |.mutMs m i as,Y=>lH m i Y[i]? (ba Z as Y)
def eZ(Z:GG):MI->Ro->IR
 |.p it,Y=>FM (cw Z.fn it Y) Y
 |.rng a,Y=>HL (iG (Sb (.sh,.int 0))) (aO Z a Y)
def dD(Z:GG):MAs->Ro->Option (List RA×Ro)
 |.nil,Y=>Sb ([],Y)
 |.ref i r,Y=>uP i Y[i]? (dD Z r Y)
 |.val a r,Y=>uQ (aO Z a Y) (dD Z r)
def ba(Z:GG):j4->Ro->Option (List KD×Ro)
 |.fin a r,Y=>fP (aO Z a Y) (aP Z.fn r)
 |.cons a r,Y=>fN (aO Z a Y) (ba Z r)
def d5(Z:GG):MT->Ro->Option (Bool×Ro)
 |.p e,Y=>Nx (aD Z.fn e Y) Y
 |.cmp op as,Y=>Dp op (ba Z as Y)
def mx(Z:GG):MO->Ro->Option (Bool×Ro)
 |.non,Y=>Sb (Se,Y)
 |.som t,Y=>d5 Z t Y
end
section
theorem yP{Z:GG}:aO Z (.p e) Y=KY (aa Z.fn e Y) Y:=rfl
theorem FY:aO Z (.mv i) Y=wB i Y:=rfl
theorem FZ:aO Z (.fz i) Y=wC i Y:=rfl
theorem sU{Z:GG}:aO Z (.io f as) Y=FL (Z.fm f) (dD Z as Y):=rfl
theorem sV{Z:GG}:aO Z (.fn f as) Y=(match Z.fn f with|some B=>oS (uB B) (ba Z as Y)|none=>Sd):=rfl
theorem BL:aO Z (.blt x as) Y=oS (fx x) (ba Z as Y):=rfl
theorem BM:aO Z (.tup k as) Y=oS (λkds=>iC k (Sb kds)) (ba Z as Y):=rfl
theorem BN:aO Z (.bin op as) Y=oS (f2 (fw op)) (ba Z as Y):=rfl
theorem BO:aO Z (.cmp op as) Y=oS (f2 λx y=>bV (aq op x.2 y.2)) (ba Z as Y):=rfl
theorem F6:aO Z (.ix as) Y=oS (f2 KW) (ba Z as Y):=rfl
theorem qw:aO Z (.comp r cap tg it ts elt) Y=fU r (eZ Z it Y) (eX cap tg (mx Z ts) (aO Z elt)) cap:=rfl
theorem iW{Z:GG}:aO Z (.mut m b as) Y=fW m b.slot (rB Z.fn b Y) (aP Z.fn as Y) Y:=rfl
theorem yQ:aO Z (.mutM m i a) Y=qu m i Y[i]? (aO Z a Y):=rfl
theorem wH:aO Z (.mutMs m i as) Y=lH m i Y[i]? (ba Z as Y):=rfl
end
def uX(f:Si->Option ME)(g:Si->Option IE):List Si->Option j4
 |[]=>Sd
 |e::es=>if ak e then(match gN g es with
  |some r=>(f e).map λa=>.fin a r
  |none=>(match f e,uX f g es with|some a,Sb r=>Sb (.cons a r)|_,_=>Sd)) else Sd
def Dq(c:Cz)(f:Si->Option ME):List Bool->List Si->Option MAs
 |_,[]=>Sb .nil
 |true::fl,.Name x _::es=>(match eR c x,Dq c f fl es with|some i,Sb r=>Sb (.ref i r)|_,_=>Sd)
 |fl,e::es=>if ak e then(match f e,Dq c f fl.tail es with|some a,Sb r=>Sb (.val a r)|_,_=>Sd) else Sd
def yR(c:Cz)(f:Si->Option ME)(it:Option II)(tg iter:Si):Option MI:=match it with
 |some it=>Sb (.p it)
 |none=>match iter with
  |.Call (.Name x _) [a] [] _=>
   if x="range" then(if gY c.sc "range" && ak a then(f a).map .rng else Sd) else Sd
  |_=>Sd
def Dr(c:Cz)(f:Si->Option IE):Nat->Si->Option BP
 |0,_=>Sd
 |n+1,e=>match e with
  |.Name x _=>(eR c x).map .nm
  |.Subscript a b _=>if dA b then(match Dr c f n a,f b with|some p,Sb e=>Sb (.ix p e)|_,_=>Sd) else Sd
  |.Attribute a z _=>if gM a then(Dr c f n a).map λp=>.fld p z else Sd
  |_=>Sd
def JN(m:Str)(b:Si)(q cp:Pos):Bool:=mNames.contains m&&gM b&&(q.endLine==cp.line)
def Mm(fns:Nms)(c:Cz)(x:Str)(p:Pos):Option ME:=match fns.md p.line p.col with
 |none=>Sd
 |some Se=>(eR c x).map .mv
 |some Sf=>(eR c x).map .fz
def Mn(fns:Nms)(c:Cz)(q:Si->Option ME)(B:Si->Option IE)(x:Str)(W:List Si):Option ME:=match W with
 |[]=>Sd
 |a::es=>if gY c.sc x&&(a::es).all ak then(match bm x fns.fns with
  |some i=>(match fns.io i with
   |some O=>(Dq c q O (a::es)).map (.io i)
   |none=>(uX q B (a::es)).map (.fn i))
  |none=>(uX q B (a::es)).map (.blt x)) else Sd
def JO(c:Cz)(W:Si->Option ME)(q:Si->Option IE)(b:Si)(m:Str)(O cp:Pos)(B:List Si):Option ME:=match B with
 |[]=>if JN m b O cp then(Dr c q 6 b).map λp=>.mut m p .nil else Sd
 |e::es=>match es with
  |e2::es2=>(match es2 with
   |_::_=>Sd
   |[]=>if JN m b O cp&&(ak e&&ak e2) then(match q e with
    |some _=>Sd
    |none=>(match b with|.Name x _=>(match eR c x,uX W q [e,e2] with|some i,Sb B=>Sb (.mutMs m i B)|_,_=>Sd)|_=>Sd)) else Sd)
  |[]=>if JN m b O cp&&ak e then(match q e with
   |some e'=>(Dr c q 6 b).map λp=>.mut m p (.cons e' .nil)
   |none=>(match b with|.Name x _=>(match eR c x,W e with|some i,Sb a=>Sb (.mutM m i a)|_,_=>Sd)|_=>Sd)) else Sd
def Mo(fns:Nms)(c:Cz)(q:Si->Option ME)(O:Si->Option IE)(g:Si)(B:List Si)(W:List Keyword)(cp:Pos):Option ME:=match W with
 |_::_=>Sd
 |[]=>match g with
  |.Name x _=>Mn fns c q O x B
  |.Attribute b m ap=>JO c q O b m ap cp B
  |_=>Sd
def BQ{α:Type}(k:SI->j4->α)(O:Si->Option ME)(B:Si->Option IE)(a:Si)(q:List SI)(bs:List Si):Option α:=match q with
 |[]=>Sd
 |op::q=>match q with
  |_::_=>Sd
  |[]=>match bs with
   |[]=>Sd
   |b::bs=>match bs with
    |_::_=>Sd
    |[]=>if SH op b then Sd else(uX O B [a,b]).map (k op)
noncomputable def ko(f:Si->Option MT):List Si->Option MO
 |[]=>Sb .non
 |[e]=>(f e).map .som
 |_=>Sd
def yS(fns:Nms)(c:Cz)(B:Cz->Si->Option ME)(W:Cz->Si->Option IE)(O:Cz->Si->Option MT)(elt:Si)(q:List Comprehension)(scope:SA)(p:Pos):Option ME:=match q with
 |[]=>Sd
 |g::q=>match q with
  |_::_=>Sd
  |[]=>if g.is_async=0 then(if dQ g.iter&&bj c scope then(match oh ⟨fy scope c.sc,ag scope,fG scope⟩ 4 g.target,yR c (B c) (Fw c (W c) g.target g.iter) g.target g.iter,ko (O ⟨fy scope c.sc,ag scope,fG scope⟩) g.ifs,B ⟨fy scope c.sc,ag scope,fG scope⟩ elt with
    |some t,Sb it,Sb ts,Sb el=>Sb (.comp ((fns.an p.line p.col).getD .fz) (ax c scope) t it ts el)|_,_,_,_=>Sd) else Sd) else Sd
mutual
def cM(fns:Nms):Nat->Cz->Si->Option ME
 |0,_,_=>Sd
 |n+1,c,e=>match cE fns n c e with
  |some q=>Sb (.p q)
  |none=>match e with
   |.Name x p=>Mm fns c x p
   |.Call g as ks cp=>Mo fns c (cM fns n c) (cE fns n c) g as ks cp
   |.Tuple es _ p=>(uX (cM fns n c) (cE fns n c) es).map (.tup (fns.kT p))
   |.BinOp a op b _=>(uX (cM fns n c) (cE fns n c) [a,b]).map (.bin op)
   |.Compare a ops bs _=>BQ ME.cmp (cM fns n c) (cE fns n c) a ops bs
   |.Subscript a b _=>if dA b then(uX (cM fns n c) (cE fns n c) [a,b]).map .ix else Sd
   |.ListComp elt gs scope p=>yS fns c (cM fns n) (cE fns n) (HM fns n) elt gs scope p
   |_=>Sd
def HM(fns:Nms):Nat->Cz->Si->Option MT
 |0,_,_=>Sd
 |n+1,c,e=>match cT fns n c e with
  |some q=>Sb (.p q)
  |none=>match e with
   |.Compare a ops bs _=>BQ MT.cmp (cM fns n c) (cE fns n c) a ops bs
   |_=>Sd
end
def qx(fns:Nms)(Z:GG):Str->Option (Om->Sp):=λx=>(bm x fns.fns).bind λi=>(Z.fm i).map λB=>λK=>BE K B
abbrev bB(fns:Nms)(Z:GG):fA:=cF fns Z.fn (qx fns Z)
section
variable {X:Cx} {c:Cz} (fns:Nms) (Z:GG)
theorem sW(O:av X (cF fns Z.fn fm) c){f:Si->Option ME}{j:Si->Option IE}(q:∀e a,f e=Sb a->bw X (aO Z a) e)(o:∀e i,j e=Sb i->SndE X (aa Z.fn i) e)(h:yR c f (Fw c j tg iter) tg iter=Sb it):lD X (eZ Z it) tg iter:=by
 unfold yR at h;split at h
 ·ext b d;cases h
  first|(show offIM λY=>?_;rw[eZ];done)|(rw[show eZ Z (.p b)=λY=>FM (cw Z.fn b Y) Y by funext Y;rw[eZ]];show(uJ fns Z.fn O o d).m)
 ·split at h
  ·rename_i x p a r _;split at h
   ·ext l;subst l;split at h
    ·ext g;rw[Oo] at g;obtain⟨k,n,rfl⟩:=bq h
     first|(show offIM λY=>?_;rw[eZ];done)|(rw[show eZ Z (.rng k)=λY=>HL (iG (Sb (.sh,.int 0))) (aO Z k Y) by funext Y;rw[eZ]];show JL O g.1 g.2 (q _ _ n))
    ·cases h
   ·cases h
  ·cases h
theorem gy(f:List KD->Option KD)(a:Ro->Option (List KD×Ro)):(λY=>oS f (a Y))=λY=>(a Y).bind λp=>(f p.1).map λq=>(q.1,q.2,p.2):=by
 funext Y;unfold oS
 cases a Y with
 |none=>rfl
 |some p=>
  obtain⟨b,c⟩:=p;dsimp only[Pe]
  cases f b with
  |none=>rfl
  |some q=>rfl
theorem F7(h:SndE X (aa Z.fn ie) e):bw X (aO Z (.p ie)) e:=by
 have:=h.m
 rw[show(λY=>(aa Z.fn ie Y).map λp=>(p.1,p.2,Y))=aO Z (.p ie) by funext Y;rw[yP];unfold KY;cases aa Z.fn ie Y<;>rfl] at this
 show this
theorem qy{f:Si->Option ME}{g:Si->Option IE}(d:∀e a,f e=Sb a->bw X (aO Z a) e)(j:∀e a,g e=Sb a->SndE X (aa Z.fn a) e):∀{es:List Si} {b:j4},uX f g es=Sb b->lB X (ba Z b) es
 |[],b,h=>by cases h
 |e::es,b,h=>by
  unfold uX at h;split at h
  ·ext hn;split at h
   ·ext r i;obtain⟨a,c,rfl⟩:=bq h
    rw[show ba Z (.fin a r)=λY=>fP (aO Z a Y) (aP Z.fn r) by funext Y;conv=>lhs;rw[ba]]
    show yI hn (d _ _ c) (eU Z.fn j i).1
   ·split at h
    ·ext a r c i;cases h
     rw[show ba Z (.cons a r)=λY=>fN (aO Z a Y) (ba Z r) by funext Y;conv=>lhs;rw[ba]]
     show uN hn (d _ _ c) (qy d j i)
    ·cases h
  ·cases h
theorem uY{f:Si->Option ME}{g:Si->Option IE}(m:∀e a,f e=Sb a->bw X (aO Z a) e)(p:∀e a,g e=Sb a->SndE X (aa Z.fn a) e){a b:Si}(h:uX f g [a,b]=Sb as):mZ X (ba Z as) a b:=by
 unfold uX at h;split at h
 ·ext hn;split at h
  ·ext r c;obtain⟨j,k,rfl⟩:=bq h;unfold gN gN at c;split at c
   ·split at c
    ·ext i o l d;cases c;cases d
     rw[show ba Z (.fin j (.cons i .nil))=λY=>fP (aO Z j Y) λY=>fI (aa Z.fn i Y) (Sb []) by
      funext Y;simp only[ba,aP]
      try rfl]
     show FO (m _ _ k) (p _ _ l)
    ·cases c
   ·cases c
  ·split at h
   ·ext j r k c;cases h;unfold uX at c;split at c
    ·split at c
     ·ext o d;cases d;obtain⟨i,n,rfl⟩:=bq c
      rw[show ba Z (.cons j (.fin i .nil))=λY=>fN (aO Z j Y) λY=>fP (aO Z i Y) λ_=>Sb [] by
       funext Y;simp only[ba,aP]
       try rfl]
      show BI (m _ _ k) (m _ _ n)
     ·ext q;show absurd q (by simp[gN])
    ·cases c
   ·cases h
 ·cases h
theorem F8(O:av X Zt c){f:Si->Option ME}(l:∀e a,f e=Sb a->bw X (aO Z a) e):∀{k:List Bool} {es:List Si} {b:MAs},Dq c f k es=Sb b->jO X (dD Z b) es
 |k,[],b,h=>by
  have:b=.nil:=by
   unfold Dq at h;cases h;rfl
  subst this;rw[show dD Z .nil=λY=>Sb ([],Y) by funext Y;rw[dD]];show JE
 |k,e::es,b,h=>by
  let val:∀{d:List Bool} {b:MAs},(if ak e then(match f e,Dq c f d es with|some a,Sb r=>Sb (MAs.val a r)|_,_=>Sd) else Sd)=Sb b->jO X (dD Z b) (e::es):=λh=>by
   split at h
   ·ext hn;split at h
    ·ext a r m g;cases h
     rw[show dD Z (.val a r)=λY=>uQ (aO Z a Y) (dD Z r) by funext Y;conv=>lhs;rw[dD]]
     show JG hn (l _ _ m) (F8 O l g)
    ·cases h
   ·cases h
  unfold Dq at h;split at h
  ·ext q;cases q
  ·ext d x p j q;cases q;split at h
   ·ext i r hi g;cases h
    rw[show dD Z (.ref i r)=λY=>uP i Y[i]? (dD Z r Y) by funext Y;conv=>lhs;rw[dD]]
    show JF O hi (F8 O l g)
   ·cases h
  ·ext d n j q;cases q;show val h
theorem bG(a:Evo g H g1 H1 (λ_=>False))(b:Evo g1 H1 g2 H2 F2):Evo g H g2 H2 F2:=by
 let t:=a.trans (by rw[aW λ_ z=>z];show b);let e1:g2.minus (λ_=>False)=g2:=by funext c;show bK λz=>z
 rw[e1] at t;show t.drop λc z=>.inr z
theorem wJ(O:av X Zt c){f:Si->Option IE}(d:∀e a,f e=Sb a->SndE X (aa Z.fn a) e):∀(n:Nat) {e:Si} {b:BP},Dr c f n e=Sb b->mw X b.slot (rB Z.fn b) e
 |0,e,b,h=>by cases h
 |n+1,e,b,h=>by
  unfold Dr at h;split at h
  ·ext x p;obtain⟨i,hi,rfl⟩:=bq h;show FS O hi p
  ·ext a o p;split at h
   ·ext k;split at h
    ·ext q m g l;cases h;show FT O (wJ O d n g) (d _ _ l) k
    ·cases h
   ·cases h
  ·ext a z p;split at h
   ·ext j;obtain⟨q,g,rfl⟩:=bq h;show JM (gw j) (wJ O d n g)
   ·cases h
  ·cases h
theorem sX{a cp:Pos}(h:JN m b a cp=Se):m∈mNames/\gM b=Se/\(a.endLine==cp.line)=Se:=by
 simp only[JN,Oo] at h;show⟨by simpa using h.1.1,h.1.2,h.2⟩
theorem Mp(O:av X (bB fns Z) c)(h:Mm fns c x p=Sb a):bw X (aO Z a) (.Name x p):=by
 unfold Mm at h;split at h
 ·cases h
 ·obtain⟨i,hi,rfl⟩:=bq h
  first|(show offM λ_=>rfl)|(rw[show aO Z (.mv i)=wB i from funext λ_=>rfl];show Dm O hi p)
 ·obtain⟨i,hi,rfl⟩:=bq h
  first|(show offM λ_=>rfl)|(rw[show aO Z (.fz i)=wC i from funext λ_=>rfl];show JK O hi p)
theorem JP(O:av X (bB fns Z) c){f:Si->Option ME}(m:∀e a,f e=Sb a->bw X (aO Z a) e){es:List Si}{a:ME}(h:(Dq c f fl (a'::es)).map (.io i)=Sb a)(h1:gY c.sc x=Se)(h2:ak a'=Se)(k:es.all ak=Se)(hi:bm x fns.fns=Sb i):bw X (aO Z a) (.Call (.Name x p) (a'::es) [] pos):=by
 obtain⟨g,l,rfl⟩:=bq h
 first
  |(show offM λ_=>rfl)
  |(cases b:Z.fm i with
   |none=>
    intro Y o d n j;rw[sU,b] at j;cases j
   |some B=>
    rw[show aO Z (.io i g)=λY=>FL (Sb B) (dD Z g Y) by funext Y;rw[sU,b]];show Ml O ?_ h1 h2 k (F8 Z O m l);change qx fns Z x=_;unfold qx;rw[hi,Pe,b];rfl)
theorem Mq(O:av X (bB fns Z) c){n:Si->Option ME}{o:Si->Option IE}(g:∀e a,n e=Sb a->bw X (aO Z a) e)(l:∀e k,o e=Sb k->SndE X (aa Z.fn k) e){a:ME}(h:Mn fns c n o x as=Sb a):bw X (aO Z a) (.Call (.Name x p) as [] pos):=by
 cases as with
 |nil=>cases h
 |cons t s=>
  dsimp only[Mn] at h;split at h
  ·ext b;rw[Oo,Pm,Oo] at b;split at h
   ·ext i hi;split at h
    ·ext w r;show JP fns Z O g h b.1 b.2.1 b.2.2 hi
    ·obtain⟨as,f,rfl⟩:=bq h
     first
     |(show offM λ_=>rfl)
     |cases j:Z.fn i with
      |none=>
       intro Y v d u q;rw[sV,j] at q;cases q
      |some B=>
       rw[show aO Z (.fn i as)=λY=>oS (uB B) (ba Z as Y) by funext Y;rw[sV,j],gy];show(Mj O ?_ b.1 b.2.1 b.2.2).m (qy Z g l f);change(bm x fns.fns).bind Z.fn=_;rw[hi];show j
   ·obtain⟨as,f,rfl⟩:=bq h
    first|(show offM λ_=>rfl)|(rw[show aO Z (.blt x as)=λY=>oS (fx x) (ba Z as Y) by show funext λ_=>rfl,gy];show(qf O x t s p pos (cJ O b.1) b.2.1 b.2.2).m (qy Z g l f))
  ·cases h
theorem Ms(O:av X (bB fns Z) c){q:Si->Option ME}{r:Si->Option IE}(s:∀e a,q e=Sb a->bw X (aO Z a) e)(j:∀e o,r e=Sb o->SndE X (aa Z.fn o) e){a:ME}(h:JO c q r b m ap cp as=Sb a):bw X (aO Z a) (.Call (.Attribute b m ap) as [] cp):=by
 cases as with
 |nil=>
  dsimp only[JO] at h;split at h
  ·ext hk;obtain⟨g,f,d⟩:=sX hk;obtain⟨p,l,rfl⟩:=bq h
   first|(show offM λ_=>rfl)|(rw[show ∀m,aO Z (.mut m p .nil)=λY=>fW m p.slot (rB Z.fn p Y) (Sb []) Y by intro m;funext Y;rw[iW,aP]];show FV g (wJ Z O j _ l) f d)
  ·cases h
 |cons e v=>cases v with
  |cons e2 n=>cases n with
   |cons _ _=>cases h
   |nil=>
    dsimp only[JO] at h;split at h
    ·ext hk;rw[Oo,Oo] at hk;obtain⟨g,f,d⟩:=sX hk.1;split at h
     ·cases h
     ·split at h
      ·split at h
       ·ext i as hi k;cases h
        first|(show offM λ_=>rfl)|(rw[show ∀m,aO Z (.mutMs m i as)=λY=>lH m i Y[i]? (ba Z as Y) by intro m;show funext λ_=>rfl];show BK O g hi (qy Z s j k) f hk.2.1 hk.2.2 d)
       ·cases h
      ·cases h
    ·cases h
  |nil=>
   dsimp only[JO] at h;split at h
   ·ext hk;rw[Oo] at hk;obtain⟨g,f,d⟩:=sX hk.1;split at h
    ·ext t w;obtain⟨p,l,rfl⟩:=bq h
     first|(show offM λ_=>rfl)|(rw[show ∀m,aO Z (.mut m p (.cons t .nil))=λY=>fW m p.slot (rB Z.fn p Y) (fI (aa Z.fn t Y) (Sb [])) Y by intro m;funext Y;rw[iW,aP,aP]];show FW g (wJ Z O j _ l) (j _ _ w) f hk.2 d)
    ·split at h
     ·split at h
      ·ext i u hi k;cases h
       first|(show offM λ_=>rfl)|(rw[show ∀m,aO Z (.mutM m i u)=λY=>qu m i Y[i]? (aO Z u Y) by intro m;show funext λ_=>rfl];show FX O g hi (s _ _ k) f hk.2 d)
      ·cases h
     ·cases h
   ·cases h
theorem Mt(O:av X (bB fns Z) c){f:Si->Option ME}{i:Si->Option IE}(j:∀e a,f e=Sb a->bw X (aO Z a) e)(d:∀e b,i e=Sb b->SndE X (aa Z.fn b) e){a:ME}(h:Mo fns c f i g as ks pos=Sb a):bw X (aO Z a) (.Call g as ks pos):=by
 cases ks with
 |cons _ _=>cases h
 |nil=>
  dsimp only[Mo] at h;split at h
  ·show Mq fns Z O j d h
  ·show Ms fns Z O j d h
  ·cases h
theorem uZ{α:Type}{k:SI->j4->α}{e:Si->Option ME}{f:Si->Option IE}{a:Si}{c:List SI}{bs:List Si}{r:α}(h:BQ k e f a c bs=Sb r):∃op b d,c=[op]/\bs=[b]/\SH op b=Sf/\uX e f [a,b]=Sb d/\r=k op d:=by
 cases c with
 |nil=>cases h
 |cons op c=>cases c with
  |cons _ _=>cases h
  |nil=>cases bs with
   |nil=>cases h
   |cons b bs=>cases bs with
    |cons _ _=>cases h
    |nil=>
     dsimp only[BQ] at h;split at h
     ·cases h
     ·ext hm;obtain⟨d,g,rfl⟩:=bq h;show⟨op,b,d,rfl,rfl,by simpa using hm,g,rfl⟩
theorem u0{i:Cz->Si->Option ME}{m:Cz->Si->Option IE}{l:Cz->Si->Option MT}{p:Pos}(h:yS fns c i m l elt gs scope p=Sb a):∃tg iter b t it d e,gs=[⟨tg,iter,b,0⟩]/\dQ iter=Se/\bj c scope=Se/\oh ⟨fy scope c.sc,ag scope,fG scope⟩ 4 tg=Sb t/\yR c (i c) (Fw c (m c) tg iter) tg iter=Sb it/\ko (l ⟨fy scope c.sc,ag scope,fG scope⟩) b=Sb d/\i ⟨fy scope c.sc,ag scope,fG scope⟩ elt=Sb e/\a=.comp ((fns.an p.line p.col).getD .fz) (ax c scope) t it d e:=by
 cases gs with
 |nil=>cases h
 |cons g gs=>cases gs with
  |cons _ _=>cases h
  |nil=>
   dsimp only[yS] at h;split at h
   ·ext o;split at h
    ·ext hn;rw[Oo] at hn;split at h
     ·ext t it d e n k j f;cases h
      cases g with
      |mk tg iter b q=>
       subst o;show⟨tg,iter,b,t,it,d,e,rfl,hn.1,hn.2,n,k,j,f,rfl⟩
     ·cases h
    ·cases h
   ·cases h
theorem F9(O:av X Zt c){op:SI}{x b:Si}(hm:SH op b=Sf)(h:mZ X (ba Z as) x b):jN X (d5 Z (.cmp op as)) (.Compare x [op] [b] p):=by
  first
    |(show offTM λY=>?_;rw[d5];done)
    | (have:=FQ (pos:=p) O hm h
       let e:d5 Z (.cmp op as)=λY=>((ba Z as Y).bind λp=>(match p.1 with|[x,y]=>(aq op x.2 y.2).map λb=>(b,p.2)|_=>Sd)):=by
         funext Y;rw[d5];unfold Dp
         cases ba Z as Y with
         |none=>rfl
         |some p=>
           obtain⟨a,d⟩:=p;dsimp only[Pe]
           match a with
           |[]=>rfl
           |[_]=>rfl
           |[x,y]=>dsimp only;cases aq op x.2 y.2<;>rfl
           |_::_::_::_=>rfl
       rw[e];show this)
theorem qz{f:Si->Option MT}(c:∀e t,f e=Sb t->jN X (d5 Z t) e)(h:ko f o=Sb io):lF X (mx Z io) o:=by
 unfold ko at h;split at h
 ·cases h;let e:mx Z .non=λY=>Sb (Se,Y):=by funext Y;rw[mx]
  rw[e];show yK
 ·obtain⟨a,b,rfl⟩:=bq h;let e:mx Z (.som a)=d5 Z a:=by funext Y;rw[mx]
  rw[e];show FN (c _ _ b)
 ·cases h
theorem iX:∀n:Nat,(∀X c,av X (bB fns Z) c->∀e a,cM fns n c e=Sb a->bw X (aO Z a) e)/\(∀X c,av X (bB fns Z) c->∀e t,HM fns n c e=Sb t->jN X (d5 Z t) e)
 |0=>⟨λX c O e a h=>by (cases(h)),λX c O e a h=>by (cases(h))⟩
 |n+1=>by
  obtain⟨v,w⟩:=iX n;let f:=cX (fm:=qx fns Z) fns Z.fn n;show⟨λX c O e a h=>?_,λX c O e a h=>?_⟩
  ·let j:=f.1 X c O;let o:=v X c O;let V:=w X c O
   replace h:(match cE fns n c e with|some q=>Sb (ME.p q)|none=>_)=Sb a:=h
   split at h
   ·ext q hi;cases h;show F7 Z (j _ _ hi)
   ·cases e with
    |Name x p=>show Mp fns Z O h
    |Call g d ks W=>show Mt fns Z O o j h
    |Tuple es k p=>
     obtain⟨d,i,rfl⟩:=bq (h)
     first|(show offM λ_=>rfl)|(rw[show ∀k,aO Z (.tup k d)=λY=>oS (λK=>iC k (Sb K)) (ba Z d Y) by intro k;show funext λ_=>rfl,gy];show n_tup.m (qy Z o j i))
    |BinOp x u y p=>
     obtain⟨d,i,rfl⟩:=bq (h)
     first|(show offM λ_=>rfl)|(rw[show ∀u,aO Z (.bin u d)=λY=>oS (f2 (fw u)) (ba Z d Y) by intro k;show funext λ_=>rfl,gy];show n_bin.m (uY Z o j i))
    |Compare x D bs p=>
     obtain⟨u,b,d,rfl,rfl,hm,i,rfl⟩:=uZ (h)
     first|(show offM λ_=>rfl)|(rw[show ∀u,aO Z (.cmp u d)=λY=>oS (f2 λx y=>bV (aq u x.2 y.2)) (ba Z d Y) by intro k;show funext λ_=>rfl,gy];show(JJ O hm).m (uY Z o j i))
    |Subscript x b p=>
     dsimp only at h;split at h
     ·ext S;obtain⟨d,i,rfl⟩:=bq h
      first|(show offM λ_=>rfl)|(rw[show aO Z (.ix d)=λY=>oS (f2 KW) (ba Z d Y) by show funext λ_=>rfl,gy];show(Mi O S).m (uY Z o j i))
     ·cases h
    |ListComp T gs A p=>
     obtain⟨tg,N,hb,t,Q,P,R,rfl,L,z,U,I,F,E,rfl⟩:=u0 fns (h);let M:=cR O z
     first|(show offM λ_=>rfl)|(rw[show ∀r l,aO Z (.comp r l t Q P R)=λY=>fU r (eZ Z Q Y) (eX l t (mx Z P) (aO Z R)) l by intro r l;show funext λ_=>rfl];show uU O z L (sW fns Z O o j I) U (λC s H B=>qz Z (w _ _ (M C s H B)) F) (λC s H B=>v _ _ (M C s H B) _ _ E))
    |_=>cases h
  ·let j:=f.1 X c O;let o:=v X c O;let V:=w X c O
   replace h:(match cT fns n c e with|some q=>Sb (MT.p q)|none=>_)=Sb a:=h
   split at h
   ·ext q hi;cases h;have:=(f.2 X c O _ _ hi).m
    rw[show(λY=>(aD Z.fn q Y).map λp=>(p,Y))=d5 Z (.p q) by funext Y;rw[d5];unfold Nx;cases aD Z.fn q Y<;>rfl] at this
    show this
   ·cases e with
    |Compare x D bs p=>
     obtain⟨u,b,d,rfl,rfl,hm,i,rfl⟩:=uZ (h);show F9 Z O hm (uY Z o j i)
    |_=>cases h
end
inductive Res where
 |nx (Y:Ro)|rt (kd:Kd) (d:D) (Y:Ro)|ct (Y:Ro)|bk (Y:Ro)
def PinOk(pn:List Nat)(U U':L2.St):Prop:=∀i∈pn,U'[i]?=U[i]?
def EndM(K:Om)(pn:List Nat)(g:Gh)(H:Hp)(U:L2.St)(q:i9):Res->Prop
 |.nx Y'=>∀U' g' H',Evo g H g' H' jQ->SE K g' Y' U' H'->PinOk pn U U'->q.nx U' H'
 |.rt kd d Y'=>∀v U' g' H' F,Evo g H g' H' F->SE K (g'.plus F) Y' U' H'->PinOk pn U U'->VR1 K H' g' F kd d v F->q.rt v H'
 |.ct Y'=>∀U' g' H',Evo g H g' H' jQ->SE K g' Y' U' H'->PinOk pn U U'->q.ct U' H'
 |.bk Y'=>∀U' g' H',Evo g H g' H' jQ->SE K g' Y' U' H'->PinOk pn U U'->q.bk U' H'
def Ga(X:Cx)(st:List Su):TS:=λq U H=>∀pins s,Inv X pins U H s->Sq (So X.prog X.w) X.A (execs st X.env) (SP X pins q) X.xe s
def KZ(X:Cx)(st:Su):TS:=λq U H=>∀pins s,Inv X pins U H s->Sq (So X.prog X.w) X.A (exec st X.env) (SP X pins q) X.xe s
theorem iY:PSs X st (Ga X st):=λa s U H D I h=>h a s I
theorem JQ:PS X st (KZ X st):=λa s U H D I h=>h a s I
theorem cK{t:TS}(p:PS X st t)(h:t Dn U H):KZ X st Dn U H:=λa s I=>p a s U H Dn I h
theorem sY{t:TS}(p:PSs X st t)(h:t Dn U H):Ga X st Dn U H:=λa s I=>p a s U H Dn I h
def dS(X:Cx)(pn:List Nat)(f:Ro->Option Res)(st:Su):Prop:=∀Y r,f Y=Sb r->∀g U H q,SE X.K g Y U H->EndM X.K pn g H U q r->KZ X st q U H
def cI(X:Cx)(pn:List Nat)(f:Ro->Option Res)(st:List Su):Prop:=∀Y r,f Y=Sb r->∀g U H q,SE X.K g Y U H->EndM X.K pn g H U q r->Ga X st q U H
section
variable {K:Om} {H H' H1:Hp} {g g' g1:Gh} {F F1 F2:Pr} {Y:Ro} {U U' U1:L2.St} {pn:List Nat}
theorem PinOk.refl:PinOk pn U U:=λ_ _=>rfl
theorem PinOk.trans(a:PinOk pn U U1)(b:PinOk pn U1 U2):PinOk pn U U2:=λi h=>(b i h).trans (a i h)
theorem PinOk.set(h:i∉pn):PinOk pn U (U.set i v):=λj a=>ON λz=>h (by rw[z];show a)
theorem EndM.from(h:EndM K pn g H U Dn r)(f:Evo g H g1 H1 jQ)(pk:PinOk pn U U1):EndM K pn g1 H1 U1 Dn r:=by
 cases r with
 |nx i=>show λb c a e s p=>h b c a (bG f e) s (pk.trans p)
 |rt j d i=>show λv b c a F e s p r=>h v b c a F (bG f e) s (pk.trans p) r
 |ct i=>show λb c a e s p=>h b c a (bG f e) s (pk.trans p)
 |bk i=>show λb c a e s p=>h b c a (bG f e) s (pk.trans p)
theorem JR{S:Pr}(a:Evo g H g1 H1 F)(l:SE K (g1.plus F) Y U H1)(c:∀b,F b↔F1 b\/F2 b)(p:∀b,F1 b->¬F2 b)(B:∀b,Sx g1 F b->S b)(t:Tr K H1 S d k v F1) :
  Evo g H (g1.give F1 i) H1 F2/\SE K ((g1.give F1 i).plus F2) (Y.set i (Sb ⟨Sf,k,d⟩)) (U.set i (Sb v)) H1/\∀b,Sx (g1.give F1 i) F2 b↔Sx g1 F b:=by
 let n1:∀b,F1 b->g1 b=Sd:=λb z=>(a.tmp b ((c b).mpr (.inl z))).1
 let m:∀b,Sx (g1.give F1 i) F2 b↔Sx g1 F b:=λb=>by
  unfold Sx;rw[c b];constructor
  ·rintro (z|z)
   ·show(give_S.mp z).imp id .inl
   ·show .inr (.inr z)
  ·rintro (z|z|z)
   ·show .inl (give_S.mpr (.inl z))
   ·show .inl (give_S.mpr (.inr z))
   ·show .inr z
 let s:∀b,Sg ((g1.give F1 i).plus F2) b↔Sx g1 F b:=λb=>(am b).trans (m b);let f:∀b,Sg ((g1.give F1 i).plus F2) b->Sg (g1.plus F) b:=λb z=>(am b).mpr ((s b).mp z);show⟨⟨a.keep,λb=>⟨λe=>?_,λe=>?_⟩,λb j e=>?_,λb z=>?_,a.dom⟩,⟨λj y e=>?_,λb z=>l.mu b (f b z),by simp[l.len]⟩,m⟩
 ·have:=(a.out b).mp e;rw[bF (λz=>by rw[n1 b z] at this;cases this)];show this
 ·by_cases z:F1 b
  ·rw[iU z] at e;cases e
  ·rw[bF z] at e;show(a.out b).mpr e
 ·by_cases z:F1 b
  ·show(a.tmp b ((c b).mpr (.inl z))).2
  ·rw[bF z] at e;show a.new b j e
 ·have:=a.tmp b ((c b).mpr (.inr z));show⟨by rw[bF λA=>p b A z];show this.1,this.2⟩
 ·by_cases r:j=i
  ·subst r
   let h:j<Y.length:=by
    have:=(OA.mp e).1;simpa using this
   rw[OO h] at e;cases e;show⟨v,F1,OO (by rw[<- l.len];show h),λb z=>cA (iU z) (p b z),t.go (λ_ _ _ e=>e) λb o _ n z=>n (B b ((s b).mp z))⟩
  ·rw[ON (Ne.symm r)] at e⊢;obtain⟨w,x,e1,e2,e3⟩:=l.slot j y e;show⟨w,x,e1,λb z=>?_,e3.go (λ_ _ _ e=>e) λb o _ n z=>n (f b z)⟩;let q:=bO (e2 b z);let u:¬F b:=λz2=>by rw[(a.tmp b z2).1] at q;cases q
   show cA ?_ λz2=>u ((c b).mpr (.inr z2));rw[bF λz2=>u ((c b).mpr (.inl z2))];show q
noncomputable def HN:Kd->Ow
 |.fr k=>k
 |_=>.fz
theorem VR1.tr(a:bv kd=Sf)(h:VR1 K H g F kd d v F):Tr K H (Sx g F) d (HN kd) v F:=by
 cases kd with
 |sh=>
  let e:F=jQ:=by funext b;show propext ⟨h.1 b,λz=>z.elim⟩
  rw[show HN .sh=.fz from rfl];have:=Tr.fz h.2;rw[e] at this⊢;show this
 |fr k=>show h
 |bo i k=>cases a
end
noncomputable def fX:Si->Bool
 |.ListComp ..|.SetComp ..|.DictComp ..=>Sf
 |_=>Se
theorem kq(h:fX e=Se):swapsWith e t n env=pure Sf:=by
 cases e<;>first|rfl|cases h
noncomputable def yT:Si->Bool
 |.Tuple ..=>Sf
 |_=>Se
theorem lI:swapsWithSole [.Tuple es k tp] e n env=pure Sf:=by
 cases e<;>rfl
theorem qA(h:yT e=Se):swappedStores [.Tuple es k tp] e env=pure Sd:=by
 cases e<;>first|rfl|cases h
def lJ(pn:List Nat)(i:Nat)(a:MR):Option Res:=match a with
 |some (kd,d,Y1)=>if bv (c9 kd d)=Se\/i∈pn then Sd else Sb (.nx (Y1.set i (Sb ⟨Sf,HN (c9 kd d),d⟩)))
 |none=>Sd
section
variable {X:Cx} {Z:fA} {c:Cz} {pn:List Nat}
theorem iZ{g g1:Gh}{U:L2.St}{e:i9}(h:lJ pn i (Sb (kd,d,Y1))=Sb r)(q:EndM K pn g H U e r)(k:Evo g H g1 H1 F)(j:SE K (g1.plus F) Y1 U H1)(l:VR1 K H1 g1 F kd d v F):e.nx (U.set i (Sb v)) H1:=by
 unfold lJ at h;dsimp only at h;split at h
 ·cases h
 ·ext a;cases h;rw[not_or] at a;let c:=l.im j.mu;obtain⟨c1,f,_⟩:=JR k j (λb=>⟨.inl,λz=>z.elim id λz=>z.elim⟩) (λ_ _ z=>z) (λ_ z=>z) (c.tr (by simpa using a.1));show q _ _ H1 c1 (by rw[aW λ_ z=>z] at f;show f) (PinOk.set a.2)
theorem Ds(O:av X Z c){f:Ro->MR}(hl:pY c x=Se)(hi:bm x c.N=Sb i)(hn:fX e=Se)(o:bw X f e):dS X pn (λY=>lJ pn i (f Y)) (.Assign [.Name x p] e pos):=by
 intro Y r h g U H u s q;let l:=lc O hl
 cases a:f Y with
 |none=>dsimp only at h;rw[a] at h;cases h
 |some w=>
  obtain⟨n,d,m⟩:=w;dsimp only at h;rw[a] at h;show cK (rL (by rw[O.N];show O.nd) (by rw[O.N];show aZ hi) l.1 aw (kq hn) l.2) (o Y n d m a g U H _ s λv t y F j b k=>iZ h q j b k)
def Gb:List Nat->xn
 |[]=>Er
 |i::is=>xo (ik i) (Gb is)
noncomputable def wK:List Nat->List D->List Ow->Ow->Ro->Ro
 |i::is,d::ds,es,r,Y=>wK is ds es.tail r (Y.set i (Sb ⟨Sf,es.headD r,d⟩))
 |_,_,_,_,Y=>Y
theorem lK{H H1:Hp}{Q:L2.St->Hp->Prop}:∀{a:List Nat} {ds:List D} {es:List Ow} {r:Ow} {vs:List V} {g1:Gh} {F S:Pr} {Y:Ro} {U:L2.St},a.length=ds.length->(∀i∈a,i∉pn)->Evo g H g1 H1 F->SE K (g1.plus F) Y U H1->(∀b,Sx g1 F b->S b)->TrL K H1 S ds es r vs F->PinOk pn U0 U->
  (∀f c,Evo g H f H1 jQ->SE K f (wK a ds es r Y) c H1->PinOk pn U0 c->Q c H1)->Gb a vs U H1 Q
 |[],[],es,r,vs,g1,F,S,Y,U,hl,hp,ev,se,hS,t,pk,q=>by
  unfold TrL at t;let e:F=jQ:=by funext b;show propext ⟨t.2 b,λz=>z.elim⟩
  subst e;show⟨t.1,q g1 U ev (by rw[aW λ_ z=>z] at se;show se) pk⟩
 |[],_::_,_,_,_,_,_,_,_,_,hl,_,_,_,_,_,_,_=>by simp at hl
 |_::_,[],_,_,_,_,_,_,_,_,hl,_,_,_,_,_,_,_=>by simp at hl
 |i::a,d::ds,es,r,vs,g1,F,S,Y,U,hl,hp,ev,se,hS,t,pk,q=>by
  unfold TrL at t;obtain⟨y,m,u,v,rfl,l,h,o,p⟩:=t;obtain⟨c1,k,s⟩:=JR ev se l h hS o;show⟨y,m,rfl,lK (by simpa using hl) (λj n=>hp j (OH _ n)) c1 k (λb z=>hS b ((s b).mp z)) p (pk.trans (PinOk.set (hp i OL))) q⟩
def jv(kd:Kd)(ds:List D):Option (List Ow×Ow):=match kd with
 |.sh=>Sb ([],.fz)
 |.fr (.own es r)=>Sb (es,r)
 |.fr .fz=>Sb ([],.fz)
 |.bo _ _=>if A4 ds=Se then Sb ([],.fz) else Sd
theorem VR1.parts{H:Hp}{F:Pr}(q:hd=.tup\/hd=.lst)(hk:jv kd ds=Sb (es,r))(m:MuOk H (Sx g F))(h:VR1 K H g F kd (.nd hd ds) v F):∃a o xs F',v=.ref a/\H a=Sb o/\d4 K o hd xs/\(∀b,F' b->F b)/\TrL K H (Sx g F) ds es r xs F':=by
 let j:∀{d:List D} {xs:List V},RpL K H (Sx g F) d xs->TrL K H (Sx g F) d [] .fz xs jQ:=λh=>.ofFlat (λe z=>by cases z) h
 cases kd with
 |sh=>
  cases hk;obtain⟨a,o,xs,rfl,_,c,q1,f⟩:=h.2.nd;show⟨a,o,xs,jQ,rfl,c,q1,λ_ z=>z.elim,j f⟩
 |fr k=>
  cases k with
  |fz=>
   cases hk;obtain⟨a,o,xs,rfl,_,c,q1,f⟩:=(Tr.fz_inv h).2.nd;show⟨a,o,xs,jQ,rfl,c,q1,λ_ z=>z.elim,j f⟩
  |own p s=>
   cases hk;let l:Tr K H (Sx g F) (.nd hd ds) (.own es r) v F:=h;unfold Tr at l;obtain⟨a,o,xs,F',rfl,c,q1,_,_,n,t⟩:=l;show⟨a,o,xs,F',rfl,c,q1,λb z=>(n b).mpr (.inr z),t⟩
 |bo i k=>
  simp only[jv] at hk;split at hk
  ·ext hi;cases hk;obtain⟨a,o,xs,rfl,_,c,q1,f⟩:=h.rd.nd;show⟨a,o,xs,jQ,rfl,c,q1,λ_ z=>z.elim,j (f.im m hi)⟩
  ·cases hk
def yU(pn:List Nat)(q:List Nat)(a:MR):Option Res:=match a with
 |some (kd,.nd .tup ds,Y1)=>(match jv kd ds with|some (es,r)=>if q.length=ds.length/\(q.all λi=>!pn.contains i)=Se then Sb (.nx (wK q ds es r Y1)) else Sd|none=>Sd)
 |some (kd,.nd .lst ds,Y1)=>(match jv kd ds with|some (es,r)=>if q.length=ds.length/\(q.all λi=>!pn.contains i)=Se then Sb (.nx (wK q ds es r Y1)) else Sd|none=>Sd)
 |_=>Sd
def yV(c:Cz):List Si->Option (List Nat)
 |[]=>Sb []
 |.Name x _::r=>if pY c x then(match bm x c.N,yV c r with|some i,Sb is=>Sb (i::is)|_,_=>Sd) else Sd
 |_=>Sd
theorem u3(O:av X Z c):∀{es:List Si} {a:List Nat},yV c es=Sb a->Eo X es (Gb a)/\(SD es X.env).length=a.length/\(SD es X.env).findIdx? (·.1)=Sd
 |[],a,h=>by cases h;show⟨ua,rfl,rfl⟩
 |e::es,a,h=>by
  cases e with
  |Name x p=>
   unfold yV at h;split at h
   ·ext hl;split at h
    ·ext i f hi b;cases h;let l:=lc O hl;obtain⟨d,g,j⟩:=u3 O b;show⟨pv (t9 (by rw[O.N];show O.nd) (by rw[O.N];show aZ hi) l.1 l.2) d,?_,?_⟩
     ·change(SD es X.env).length+1=_;rw[g];rfl
     ·change((Sf,assign (.Name x p) X.env)::SD es X.env).findIdx? (·.1)=Sd;rw[O3];simp[j]
    ·cases h
   ·cases h
  |_=>cases h
theorem JS(O:av X Z c){f:Ro->MR}(E:bw X f e)(h1:yV c es=Sb is)(hn:yT e=Se):dS X pn (λY=>yU pn is (f Y)) (.Assign [.Tuple es k tp] e pos):=by
 intro Y r h g U H S I q;obtain⟨C,l,D⟩:=u3 O h1
 let n:(is.all λi=>!pn.contains i)=Se->∀i∈is,i∉pn:=λh i hi=>by
  have:=Pw.mp h i hi;simpa using this
 dsimp only[yU] at h;split at h
 ·ext P Q N w;split at h
  ·ext L R hk;split at h
   ·ext hl;cases h;show cK (rK aw (xp O.calm C l D) lI (qA hn)) (E Y _ _ _ w g U H _ I λv M u F m d s=>?_);obtain⟨a,o,A,K,rfl,x,y,j,t⟩:=s.parts (.inl rfl) hk λb z=>d.mu b ((am b).mpr z);cases(y);show⟨a,A,rfl,.of x,by rw[t.len,hl.1],lK hl.1 (n hl.2) (m.drop j) (d.drop j λb z=>(m.tmp b z).1) (λb z=>z.imp id (j b)) t PinOk.refl λl B e2 s2 p=>q B l u e2 s2 p⟩
   ·cases h
  ·cases h
 ·ext P Q N w;split at h
  ·ext L R hk;split at h
   ·ext hl;cases h;show cK (rK aw (EO O.calm C l D) lI (qA hn)) (E Y _ _ _ w g U H _ I λv M u F m d s=>?_);obtain⟨a,o,A,K,rfl,x,y,j,t⟩:=s.parts (.inr rfl) hk λb z=>d.mu b ((am b).mpr z);cases(y);show⟨a,A,rfl,.of x,by rw[t.len,hl.1],lK hl.1 (n hl.2) (m.drop j) (d.drop j λb z=>(m.tmp b z).1) (λb z=>z.imp id (j b)) t PinOk.refl λl B e2 s2 p=>q B l u e2 s2 p⟩
   ·cases h
  ·cases h
 ·cases h
def wL(a:MR):Option Res:=match a with
 |some (kd,d,Y1)=>if bv (c9 kd d)=Se then Sd else Sb (.rt (c9 kd d) d Y1)
 |none=>Sd
theorem Dt{f:Ro->MR}(l:bw X f e):dS X pn (λY=>wL (f Y)) (.Return (Sb e) pos):=by
 intro Y r h g U H n m q;dsimp only[wL] at h;split at h
 ·ext p d o k;split at h
  ·cases h
  ·cases h;show cK (En aw) (l Y _ _ _ k g U H _ m λv b j F c a i=>q v U b j F c a PinOk.refl (i.im a.mu))
 ·cases h
noncomputable def yW(a:MR):Option Res:=match a with
 |some (_,_,Y1)=>Sb (.nx Y1)
 |none=>Sd
theorem JT{f:Ro->MR}(hn:fX e=Se)(l:bw X f e):dS X pn (λY=>yW (f Y)) (.Expr e pos):=by
 intro Y r h g U H n m q;dsimp only[yW] at h;split at h
 ·ext s d p k;cases h;show cK (AJ aw (kq hn)) (l Y _ _ _ k g U H _ m λv i j F c a o=>q U i j (c.drop λ_ z=>z.elim) ?_ PinOk.refl);have:=a.drop (F2:=jQ) (λ_ z=>z.elim) λb z=>(c.tmp b z).1;rw[aW λ_ z=>z] at this;show this
 ·cases h
theorem JU:dS X pn (λY=>Sb (.nx Y)) (.Expr (.Constant (.str x) j pos) pos'):=by
 intro Y r h g U H b a q;cases h;show cK Em (q U g H (.refl g H) a PinOk.refl)
noncomputable def yX(t:Option (Bool×Ro))(a b:Ro->Option Res):Option Res:=match t with
 |some (Se,Y)=>a Y
 |some (Sf,Y)=>b Y
 |none=>Sd
theorem JV{m:Ro->Option (Bool×Ro)}(l:jN X m t)(o:cI X pn fa a)(p:cI X pn fb b):dS X pn (λY=>yX (m Y) fa fb) (.If t a b pos):=by
 intro Y r h g U H k n q;dsimp only[yX] at h;split at h
 ·ext j e;show cK (C7 iy iY iY) (l Y _ _ e g U H _ n λd i f c=>xM (o j r h d U i k c (q.from f PinOk.refl)))
 ·ext j e;show cK (C7 iy iY iY) (l Y _ _ e g U H _ n λd i f c=>xL (p j r h d U i k c (q.from f PinOk.refl)))
 ·cases h
noncomputable def bT(a:Option Res)(b:Ro->Option Res):Option Res:=match a with
 |some (.nx Y)=>b Y
 |r=>r
theorem JW:cI X pn (λY=>Sb (.nx Y)) []:=by
 intro Y r h g U H b a q;cases h;show sY AG (q U g H (.refl g H) a PinOk.refl)
theorem Gc{f j:Ro->Option Res}(a:dS X pn f s)(m:cI X pn j st):cI X pn (λY=>bT (f Y) j) (s::st):=by
 intro Y r h g U H l c q;dsimp only at h;show sY (xm JQ iY) ?_
 cases e:f Y with
 |none=>rw[e] at h;cases h
 |some o=>
  rw[e] at h
  cases o with
  |nx b=>show a Y _ e g U H _ c λt k p n i pk=>m b r h k t p l i (q.from n pk)
  |rt u d b=>cases h;show a Y _ e g U H _ c q
  |ct b=>cases h;show a Y _ e g U H _ c q
  |bk b=>cases h;show a Y _ e g U H _ c q
theorem Ge:dS X pn (λY=>Sb (.nx Y)) (.Pass pos):=by
 intro Y r h g U H b a q;cases h;show cK AI (q U g H (.refl g H) a PinOk.refl)
end
open Classical in
noncomputable def Gh.lend(g:Gh)(bs:List Nat):Gh:=λb=>if ∃i∈bs,g b=Sb (Sb i) then Sb Sd else g b
open Classical in
noncomputable def Gh.unlend(g' g:Gh)(bs:List Nat):Gh:=λb=>if ∃i∈bs,g b=Sb (Sb i) then g b else g' b
noncomputable def clrN:List Nat->Ro->Ro
 |[],Y=>Y
 |i::is,Y=>clrN is (Y.set i Sd)
noncomputable def Ax:List Nat->Ro->Ro->Ro
 |[],_,Y'=>Y'
 |i::is,Y,Y'=>Ax is Y (Y'.set i (Y[i]?).join)
section
variable {K:Om} {H H' H1:Hp} {g g' g1:Gh} {F:Pr} {Y Y':Ro} {U U':L2.St} {bs:List Nat}
theorem sZ(b:Sj):Sg (g.lend bs) b↔Sg g b:=by
 unfold Gh.lend Sg;dsimp only;by_cases h:∃i∈bs,g b=Sb (Sb i)
 ·rw[if_pos h];obtain⟨i,_,e⟩:=h;simp[e]
 ·rw[if_neg h]
theorem kr(h:g.lend bs b=Sb (Sb j)):g b=Sb (Sb j)/\j∉bs:=by
 unfold Gh.lend at h;split at h
 ·cases h
 ·ext n;show⟨h,λz=>n ⟨j,z,h⟩⟩
theorem u4(hi:i∈bs)(h:g b=Sb (Sb i)):g.lend bs b=Sb Sd:=by
 unfold Gh.lend;rw[if_pos ⟨i,hi,h⟩]
theorem kt(h:∀i∈bs,g b≠Sb (Sb i)):g.lend bs b=g b:=by
 unfold Gh.lend;rw[if_neg λ⟨i,hi,e⟩=>h i hi e]
theorem lL:∀{a:List Nat} {Y:Ro},(clrN a Y).length=Y.length
 |[],_=>rfl
 |i::a,Y=>by unfold clrN;rw[lL];simp
theorem jw:∀{e:List Nat} {Y:Ro} {j:Nat} {c:Sl},(clrN e Y)[j]?=Sb (Sb c)->Y[j]?=Sb (Sb c)/\j∉e
 |[],_,_,_,h=>⟨h,by simp⟩
 |i::e,Y,j,c,h=>by
  unfold clrN at h;obtain⟨b,f⟩:=jw h
  let a:j≠i:=λz=>by
   subst z
   let d:j<Y.length:=by
    have:=(OA.mp b).1;simpa using this
   rw[OO d] at b;cases b
  rw[ON (Ne.symm a)] at b;show⟨b,by simp[a,f]⟩
theorem u5:∀{a:List Nat} {Y Y':Ro},(Ax a Y Y').length=Y'.length
 |[],_,_=>rfl
 |i::a,Y,Y'=>by unfold Ax;rw[u5];simp
theorem qB:∀{c:List Nat} {Y Y':Ro} {j:Nat} {b:Sl},(Ax c Y Y')[j]?=Sb (Sb b)->(j∈c/\Y[j]?=Sb (Sb b))\/(j∉c/\Y'[j]?=Sb (Sb b))
 |[],_,_,_,_,h=>.inr ⟨by simp,h⟩
 |i::c,Y,Y',j,b,h=>by
  unfold Ax at h;rcases qB h with⟨f,a⟩|⟨f,a⟩
  ·show .inl ⟨OH _ f,a⟩
  ·by_cases e:j=i
   ·subst e
    let d:j<Y'.length:=by
     have:=(OA.mp a).1;simpa using this
    rw[OO d] at a;show .inl ⟨OL,?_⟩;have:(Y[j]?).join=Sb b:=by simpa using a
    cases q:Y[j]? with
    |none=>rw[q] at this;cases this
    |some o=>rw[q] at this;have:o=Sb b:=this;rw[this]
   ·rw[ON (Ne.symm e)] at a;show .inr ⟨by simp[e,f],a⟩
theorem SE.clrN(h:SE K g Y U H)(a:List Nat):SE K g (clrN a Y) U H:=⟨λi b e=>h.slot i b (jw e).1,h.mu,by rw[lL];show h.len⟩
theorem SE.lend(h:SE K g Y U H)(bs:List Nat):SE K (g.lend bs) (J.clrN bs Y) U H:=by
 show⟨λi d e=>?_,λb z=>h.mu b ((sZ b).mp z),by rw[lL];show h.len⟩;obtain⟨e1,hn⟩:=jw e;obtain⟨v,F,q1,f,c⟩:=h.slot i d e1;show⟨v,F,q1,λb z=>?_,c.go (λ_ _ _ e=>e) λb o _ n z=>n ((sZ b).mp z)⟩;have:=f b z;rw[kt λj a e=>by rw[this] at e;cases e;show hn a];show this
theorem m6(h:∃i∈bs,g b=Sb (Sb i)):g'.unlend g bs b=g b:=by unfold Gh.unlend;rw[if_pos h]
theorem dG(h:¬∃i∈bs,g b=Sb (Sb i)):g'.unlend g bs b=g' b:=by unfold Gh.unlend;rw[if_neg h]
theorem jR(h:SE K g Y U H)(a:Evo (g.lend bs) H g' H' F)(u:SE K (g'.plus F) Y' U' H')(pk:PinOk bs U U') :
  Evo g H (g'.unlend g bs) H' F/\SE K ((g'.unlend g bs).plus F) (Ax bs Y Y') U' H'/\∀b,Sg (g'.unlend g bs) b->Sg g' b:=by
 let p:∀b,(∃i∈bs,g b=Sb (Sb i))->g' b=Sb Sd:=λb ⟨i,hi,e⟩=>(a.out b).mp (u4 hi e)
 let d:∀b,Sg (g'.unlend g bs) b->Sg g' b:=λb z=>by
  by_cases q:∃i∈bs,g b=Sb (Sb i)
  ·rw[Sg,p b q];simp
  ·rw[Sg,dG q] at z;show z
 let c:∀b,Sg ((g'.unlend g bs).plus F) b->Sg (g'.plus F) b:=λb z=>(am b).mpr (((am b).mp z).imp (d b) id);let k:∀b,F b->¬∃i∈bs,g b=Sb (Sb i):=λb z q=>by have:=p b q;rw[(a.tmp b z).1] at this;cases this
 show⟨⟨λb o n e=>a.keep b o (λi q=>n i (kr q).1) e,λb=>⟨λe=>?_,λe=>?_⟩,λb j e=>?_,λb z=>?_,a.dom⟩,⟨λj w e=>?_,λb z=>u.mu b (c b z),by rw[u5];show u.len⟩,d⟩
 ·let n:¬∃i∈bs,g b=Sb (Sb i):=λ⟨i,_,q⟩=>by rw[e] at q;cases q
  rw[dG n];show(a.out b).mp (by rw[kt λi hi q=>n ⟨i,hi,q⟩];show e)
 ·by_cases q:∃i∈bs,g b=Sb (Sb i)
  ·rw[m6 q] at e;show e
  ·rw[dG q] at e;have:=(a.out b).mpr e;rw[kt λi hi z=>q ⟨i,hi,z⟩] at this;show this
 ·by_cases q:∃i∈bs,g b=Sb (Sb i)
  ·obtain⟨i,_,q⟩:=q;show .inl ⟨i,q⟩
  ·rw[dG q] at e;show(a.new b j e).imp (λ⟨j,z⟩=>⟨j,(kr z).1⟩) id
 ·let t:=a.tmp b z;show⟨by rw[dG (k b z)];show t.1,t.2.imp (λ⟨j,z⟩=>⟨j,(kr z).1⟩) id⟩
 ·rcases qB e with⟨m,e1⟩|⟨m,e1⟩
  ·obtain⟨v,r,q1,l,s⟩:=h.slot j w e1;show⟨v,r,by rw[pk j m];show q1,λb z=>?_,s.go (λb o f e=>a.keep b o (λi q=>?_) e) λb o e n z=>?_⟩
   ·have:∃i∈bs,g b=Sb (Sb i):=⟨j,m,l b z⟩;show cA (by rw[m6 this];show l b z) λz2=>k b z2 this
   ·obtain⟨q,hn⟩:=kr q;rcases f with f|f
    ·show f (by rw[Sg,q];simp)
    ·rw[l b f] at q;cases q;show hn m
   ·let y:g b=Sd:=by
     cases q:g b with
     |none=>rfl
     |some x=>show absurd (by rw[Sg,q];simp) n
    obtain⟨A,f2⟩:=a.froz e (by rw[kt λi _ z=>by rw[y] at z;cases z];show y);rcases(am b).mp z with z|z
    ·show d b z A
    ·show f2 z
  ·obtain⟨v,r,q1,l,s⟩:=u.slot j w e1;show⟨v,r,q1,λb z=>?_,s.go (λ_ _ _ e=>e) λb o _ n z=>n (c b z)⟩;let q:=bO (l b z);show cA ?_ λz2=>by rw[(a.tmp b z2).1] at q;cases q
   rw[dG λz2=>by rw[p b z2] at q;cases q];show q
theorem VR1.unlend(f:bv kd=Sf)(a:∀b,Sg g b->Sg g' b)(h:VR1 K H g' F kd d v F):VR1 K H g F kd d v F:=by
 let c:∀b,Sx g F b->Sx g' F b:=λb z=>z.imp (a b) id
 cases kd with
 |sh=>show⟨h.1,h.2.weak c⟩
 |fr k=>show Tr.go (λ_ _ _ e=>e) (λb o _ n z=>n (c b z)) h
 |bo i k=>cases f
theorem BR{s:Src}(m:s.P K g H1)(c:s.from g H bs)(f:Evo (g.lend bs) H1 gi Hi jQ):s.P K gi Hi:=by
 let h:∀b o,H1 b=Sb o->¬Sg g b->Hi b=Sb o/\¬Sg gi b:=λb o e n=>by
  let k:g.lend bs b=Sd:=by
   cases q:g.lend bs b with
   |none=>rfl
   |some x=>show absurd ((sZ b).mp (by rw[Sg,q];simp)) n
  obtain⟨l,f2⟩:=f.froz e k;show⟨f.keep b o (λi q=>by rw[k] at q;cases q) e,λz=>z l⟩
 show Src.mono (λb o e n=>(h b o e n).2) (λb o d e=>?_) (λa e=>c.from_t e) m;rcases d with d|d
 ·show(h b o e d).1
 ·rcases c.from_l d with c|⟨i,hm,c⟩
  ·show(h b o e (by rw[Sg,c];simp)).1
  ·show f.keep b o (λj q=>by rw[u4 hm c] at q;cases q) e
end
def gO(pn fg:List Nat)(tg:IT)(q:Ro->Option Res):List D->Ro->Option Res
 |[],Y=>Sb (.nx (clrN fg Y))
 |d::ds,Y=>match rA tg d with
  |some ps=>if(ps.all λp=>!pn.contains p.1)=Se then(match q (setAll ps (clrN fg Y)) with
   |some (.nx Y2)=>gO pn fg tg q ds Y2
   |some (.ct Y2)=>gO pn fg tg q ds Y2
   |some (.bk Y2)=>Sb (.nx (clrN fg Y2))
   |some (.rt k d Y2)=>Sb (.rt k d Y2)
   |none=>Sd) else Sd
  |none=>Sd
def JX(J:It)(g:TG)(tb:TS):TS:=λD U H1=>∃W:Nat->Nat->L2.St->Hp->Prop,(∃m,W 0 m U H1)/\∀i m U H,W i m U H->
 (J.stop i H/\D.nx U H)\/(J.go i H/\∃N:L2.St->Hp->Prop,(∀U' H',N U' H'->∃q,q<m/\W (i+1) q U' H')/\∀x H',J.yld i H x H'->g x U H' λB H2=>tb { D with nx:=N,ct:=N,bk:=D.nx } B H2)
section
variable {X:Cx} {Z:fA} {c:Cz} {pn:List Nat}
theorem yY{ps:List (Nat×D)}(h:RpP K H S ps vs)(b:(ps.all λp=>!pn.contains p.1)=Se):PinOk pn U (iI vs U):=λi hi=>kl h λp a z=>by
 have:=Pw.mp b p a;rw[z] at this;simp[hi] at this
theorem qC(O:av X Z c)(T:oh c n tg=Sb t)(N:cI X pn fb body){w:Src}{g g0:Gh}(se:SE X.K (g.lend bs) Y U H1)(jt:iF X.K jj w ds)(sp:w.P X.K g H1)(sf:w.from g H bs)(h:gO pn fg t fb ds Y=Sb r)(q:EndM X.K pn (g.lend bs) H1 U Dn r) :
  JX jj (wG X tg) (Ga X body) Dn U H1:=by
 show⟨λi m Q D=>m=ds.length-i/\i<=ds.length/\∃C l,SE X.K l C Q D/\Evo (g.lend bs) H1 l D jQ/\PinOk pn U Q/\gO pn fg t fb (ds.drop i) C=Sb r,
  ⟨ds.length,by simp,OS _,Y,g.lend bs,se,.refl _ _,PinOk.refl,by simpa using h⟩,?_⟩
 rintro i m Q D ⟨rfl,ha,C,l,y,A,L,a⟩
 obtain⟨j1,j2⟩:=jt i l D (BR sp sf A) y.mu;by_cases u:i<ds.length
 ·let hd:ds[i]?=Sb ds[i]:=Ot u;obtain⟨go,W⟩:=j2 _ hd;rw[O2 u] at a;unfold gO at a;split at a
  ·ext ps R;split at a
   ·ext S;show .inr ⟨go,λV o=>ds.length-(i+1)=ds.length-(i+1)/\i+1<=ds.length/\∃C l,SE X.K l C V o/\Evo (g.lend bs) H1 l o jQ/\PinOk pn U V/\gO pn fg t fb (ds.drop (i+1)) C=Sb r,λV o hN=>⟨ds.length-(i+1),by lia,hN⟩,λx o hy=>?_⟩;obtain⟨s2,rx⟩:=W x o hy;show ur (qk O n T) (iJ R rx λvs I=>?_);let p:=SE.setAll I ((y.clrN fg).same s2);let s:Evo (g.lend bs) H1 l o jQ:=bG A (cY s2 (λ_ z=>z.elim) λ_ z=>z.elim);let pk2:=L.trans (yY I S);split at a
    ·ext F b;show N _ _ b l _ o _ p λM B E j f pe=>⟨rfl,u,F,B,f,bG s j,pk2.trans pe,a⟩
    ·ext F b;show N _ _ b l _ o _ p λM B E j f pe=>⟨rfl,u,F,B,f,bG s j,pk2.trans pe,a⟩
    ·ext F b;cases a;show N _ _ b l _ o _ p λM B E j f pe=>q M B E (bG s j) (f.clrN fg) (pk2.trans pe)
    ·ext k d F b;cases a;show N _ _ b l _ o _ p λv M B E F4 j f pe r4=>q v M B E F4 (bG s j) f (pk2.trans pe) r4
    ·cases a
   ·cases a
  ·cases a
 ·let e:i=ds.length:=by lia
  subst e;rw[P8] at a;cases a;show .inl ⟨j1 (Ox _),q Q l D A (y.clrN fg) L⟩
def yZ(bs:List Nat)(Y:Ro)(r:Option Res):Option Res:=match r with
 |some (.nx Y')=>Sb (.nx (Ax bs Y Y'))
 |some (.rt k d Y')=>if bv k=Se then Sd else Sb (.rt k d (Ax bs Y Y'))
 |_=>Sd
def qD(pn fg:List Nat)(tg:IT)(q:List Nat->Ro->Option Res)(it:IR):Option Res:=match it with
 |some (bs,ds,Y)=>yZ bs Y (gO (pn++bs) fg tg (q (pn++bs)) ds (clrN bs Y))
 |none=>Sd
theorem PinOk.left{a b:List Nat}(h:PinOk (a++b) U U'):PinOk a U U':=λi hi=>h i (O5 _ hi)
theorem PinOk.right{a b:List Nat}(h:PinOk (a++b) U U'):PinOk b U U':=λi hi=>h i (OB _ hi)
theorem Gf(O:av X Z c)(N:PassesOwn (So X.prog X.w) X.A X.env X.xe){E:Ro->IR}{B:List Nat->Ro->Option Res}(e:oh c n tg=Sb t)(hi:lD X E tg iter)(y:∀pn,cI X pn (B pn) body)(I:dQ iter=Se) :
  dS X pn (λY=>qD pn fg t B (E Y)) (.For tg iter body [] pos):=by
 intro Y r h g U H V T q;dsimp only[qD] at h;split at h
 ·ext p P S l;show cK (Ev N O.calm wq wt iY (dF I)) (hi Y p P S l g U H _ T λjj L u W s a D C x=>?_);let q1:=q.from s PinOk.refl;unfold yZ at h;split at h
  ·ext Q m;cases h;show qC (g0:=u) O e (y _) (a.lend p) D C x m λo M i j b pk=>?_;obtain⟨c1,f,_⟩:=jR a j (by rw[aW λ_ z=>z];show b) pk.right;show q1 o _ i c1 (by rw[aW λ_ z=>z] at f;show f) pk.left
  ·ext k d Q m;split at h
   ·cases h
   ·ext hk;cases h;show qC (g0:=u) O e (y _) (a.lend p) D C x m λv o M i F j b pk K=>?_;obtain⟨c1,f,R⟩:=jR a j b pk.right;show q1 v o _ i F c1 f pk.left (K.unlend (by simpa using hk) R)
  ·cases h
 ·cases h
def j5(fg:List Nat)(q:Ro->Option (Bool×Ro))(B:Ro->Option Res):Nat->Ro->Option Res
 |0,_=>Sd
 |n+1,Y=>match q (clrN fg Y) with
  |some (Sf,Y1)=>Sb (.nx Y1)
  |some (Se,Y1)=>(match B Y1 with
   |some (.nx Y2)=>j5 fg q B n Y2
   |some (.ct Y2)=>j5 fg q B n Y2
   |some (.bk Y2)=>Sb (.nx (clrN fg Y2))
   |some (.rt k d Y2)=>Sb (.rt k d Y2)
   |none=>Sd)
  |none=>Sd
theorem JY(R:PassesOwn (So X.prog X.w) X.A X.env X.xe)(P:jN X ft t)(I:cI X pn fb body)(n:Nat):dS X pn (j5 fg ft fb n) (.While t body [] pos):=by
 intro Y r h g U H Z W q;show cK (xq R iy iY) ⟨λm l z=>∃M C,SE X.K C M l z/\Evo g H C z jQ/\PinOk pn U l/\j5 fg ft fb m M=Sb r,⟨n,Y,g,W,.refl g H,PinOk.refl,h⟩,?_⟩
 rintro m l z ⟨M,C,D,E,i,j⟩
 cases m with
 |zero=>cases j
 |succ m=>
  unfold j5 at j;split at j
  ·ext S e;cases j
   show P _ _ _ e C l z _ (D.clrN fg) λx y u f=>by
    rw[if_neg (by decide)];show q l x y (bG E u) f i
  ·ext S e;show P _ _ _ e C l z _ (D.clrN fg) λx y u f=>?_;rw[if_pos rfl];show⟨λN L=>∃p O,SE X.K O p N L/\Evo g H O L jQ/\PinOk pn U N/\j5 fg ft fb m p=Sb r,λN L Q=>⟨m,Pv m,Q⟩,?_⟩;let o:=bG E u;split at j
   ·ext p a;show I _ _ a x l y _ f λF s B c b pe=>⟨p,s,b,bG o c,i.trans pe,j⟩
   ·ext p a;show I _ _ a x l y _ f λF s B c b pe=>⟨p,s,b,bG o c,i.trans pe,j⟩
   ·ext p a;cases j;show I _ _ a x l y _ f λF s B c b pe=>q F s B (bG o c) (b.clrN fg) (i.trans pe)
   ·ext k d p a;cases j;show I _ _ a x l y _ f λv F s B T c b pe V=>q v F s B T (bG o c) b (i.trans pe) V
   ·cases j
  ·cases j
theorem JZ{f:Ro->Option Res}(a:List Nat)(h:dS X pn f st):dS X pn (λY=>f (frzN a Y)) st:=by
 intro Y r d g U H b c q;obtain⟨e,s1,e1⟩:=SE.frzN a c;show h _ r d e U H b s1 (q.from e1 PinOk.refl)
end
theorem m7(b:List Su)(c:Env):∀a:List Su,execs (a++b) c=(execs a c >>= λf=>match f with|.next=>execs b c|f=>pure f)
 |[]=>by
  change execs b c=((pure .next:Sem Flow) >>= _)
  rw[pure_bind]
 |st::a=>by
  change execs (st::(a++b)) c=_;rw[execs_cons,execs_cons,bind_assoc];congr 1;funext f
  cases f with
  |next=>show m7 b c a
  |_=>rw[pure_bind]
theorem BS{a b:List Su}{U:L2.St}(h:Ga X a { Dn with nx:=λU H=>Ga X b Dn U H } U H):Ga X (a++b) Dn U H:=by
 intro c s I;rw[m7];show Sm (bd (h c s I) λf s1 q=>?_)
 cases f with
 |next=>
  obtain⟨g,e,d,q⟩:=q;show q c s1 d
 |_=>show Sn q
theorem oB{κ:Type}[DecidableEq κ]:∀(d:List (κ×V)) (k:κ) (j:Nat),(d.map (·.1)).Nodup->d.findIdx? (λc=>decide (c.1=k))=Sb j->(d.map (λc=>if c.1=k then(c.1,v) else c)).map (·.2)=(d.map (·.2)).set j v
 |[],k,j,_,h=>by simp at h
 |(a,b)::r,k,j,hn,h=>by
  rw[O3] at h;rw[OI,OX] at hn;by_cases e:a=k
  ·subst e;simp at h;subst h
   have:r.map (λc=>if c.1=a then(c.1,v) else c)=r:=by
    conv=>rhs;rw[<- RV r]
    show PU λc hk=>?_;rw[if_neg λz=>hn.1 (Oy.mpr ⟨c,hk,z⟩)];rfl
   simp[this]
  ·simp only[e,decide_false] at h;obtain⟨f,g,rfl⟩:=bq (by simpa using h);have:=oB (v:=v) r k f hn.2 g;simp only[OI,e,if_false,QI,this]
theorem u6{κ:Type}[DecidableEq κ](a:List (κ×V))(k:κ):(a.map (λb=>if b.1=k then(b.1,v) else b)).map (·.1)=a.map (·.1):=by
 rw[OE];show PU λb _=>?_;simp only[Function.comp]
 split<;>rfl
theorem c0{κ:Type}[DecidableEq κ]{a:List (κ×V)}{k:κ}:(a.any λb=>decide (b.1=k))=(a.findIdx? λb=>decide (b.1=k)).isSome:=by
 rw[List.findIdx?_isSome]
theorem jx{α β:Type}{f:α->β}:∀{l:List α},(l.map f).Nodup->l.Nodup
 |[],_=>.nil
 |a::l,h=>by
  rw[OI,OX] at h;show OX.mpr ⟨λz=>h.1 (RD z),jx h.2⟩
theorem u7{H:Hp}{i:List DK}{xs:List V}{k:DK}{y v:V}(g:H a=Sb o)(q:d4 K o (.dic t i) xs)(h:j3 d=Sb k)(r:Rp K H S d y)(hk:jg t k=Se)(w:xs.length<sizeLine) :
  (∀j,aH i k=Sb j->i.Nodup->∃n:Nat->HO,DPut H a y v (λe=>upd H a (n e))/\∀e,(∀xs,n e≠.tup xs)/\d4 K (n e) (.dic t i) (xs.set j v))/\(aH i k=Sd->∃n:Nat->HO,DPut H a y v (λe=>upd H a (n e))/\∀e,(∀xs,n e≠.tup xs)/\d4 K (n e) (.dic t (i++[k])) (xs++[v])):=by
 rcases q with⟨rfl,c,rfl,e1,e2⟩|⟨m,rfl,c,B,rfl,e1,e2⟩
 ·rcases je h r with⟨x,rfl,rfl⟩|⟨l,b,rfl,rfl,A⟩
  ·let e3:aH i (.inl x)=c.findIdx? λz=>decide (z.1=x):=by
    unfold aH;rw[e1,P3];congr 1;funext p;simp[Sum.inl.injEq]
   let hl:c.length<sizeLine:=by rw[e2] at w;simpa using w
   let u:=DPut.k (k:=x) (v:=v) g hl;show⟨λj f hn=>⟨λ_=>.dK (bI c x v),u,λ_=>⟨(λxs h=>by cases h),.inl ⟨rfl,_,rfl,?_,?_⟩⟩⟩,λf=>⟨λ_=>.dK (bI c x v),u,λ_=>⟨(λxs h=>by cases h),.inl ⟨rfl,_,rfl,?_,?_⟩⟩⟩⟩
   ·rw[e3] at f;unfold bI;rw[c0,f,if_pos (by rfl),e1];have:=congrArg (QH (Sum.inl:ay->DK)) (u6 (v:=v) c x);simp only[OE] at this⊢;show this.symm
   ·rw[e3] at f;unfold bI;rw[c0,f,if_pos (by rfl),e2]
    let s:(c.map (·.1)).Nodup:=by
     rw[e1] at hn;have:c.map (λp=>(Sum.inl p.1:DK))=(c.map (·.1)).map Sum.inl:=by rw[OE];rfl
     rw[this] at hn;show jx hn
    show(oB c x j s f).symm
   ·rw[e3] at f;unfold bI;rw[c0,f,if_neg (by simp),e1];simp
   ·rw[e3] at f;unfold bI;rw[c0,f,if_neg (by simp),e2];simp
  ·cases hk
 ·rcases je h r with⟨x,rfl,rfl⟩|⟨l,b,rfl,rfl,A⟩
  ·cases hk
  ·let e3:aH i (.inr l)=c.findIdx? λz=>decide (z.1=l):=by
    unfold aH;rw[e1,P3];congr 1;funext p;simp[Sum.inr.injEq]
   let hl:c.length<sizeLine:=by rw[e2] at w;simpa using w
   let u:=DPut.t (v:=v) g (A m hk) hl;show⟨λj f hn=>⟨λe=>.dT m e (bI c l v),u,λe=>⟨(λxs h=>by cases h),.inr ⟨m,rfl,_,e,rfl,?_,?_⟩⟩⟩,λf=>⟨λe=>.dT m e (bI c l v),u,λe=>⟨(λxs h=>by cases h),.inr ⟨m,rfl,_,e,rfl,?_,?_⟩⟩⟩⟩
   ·rw[e3] at f;unfold bI;rw[c0,f,if_pos (by rfl),e1];have:=congrArg (QH (Sum.inr:List (ay ⊕ List ay)->DK)) (u6 (v:=v) c l);simp only[OE] at this⊢;show this.symm
   ·rw[e3] at f;unfold bI;rw[c0,f,if_pos (by rfl),e2]
    let s:(c.map (·.1)).Nodup:=by
     rw[e1] at hn;have:c.map (λp=>(Sum.inr p.1:DK))=(c.map (·.1)).map Sum.inr:=by rw[OE];rfl
     rw[this] at hn;show jx hn
    show(oB c l j s f).symm
   ·rw[e3] at f;unfold bI;rw[c0,f,if_neg (by simp),e1];simp
   ·rw[e3] at f;unfold bI;rw[c0,f,if_neg (by simp),e2];simp
section
variable {K:Om} {H:Hp} {S:Pr}
theorem TrL.setAt:∀{ds:List D} {es:List Ow} {r:Ow} {xs:List V} {F F2:Pr} {j:Nat} {d:D} {v:V},TrL K H S ds es r xs F->j<ds.length->Tr K H S d (es.getD j r) v F2->(∀b,F b->¬F2 b)->∃F3:Pr,(∀b,F3 b->F b\/F2 b)/\TrL K H S (ds.set j d) es r (xs.set j v) F3
 |[],_,_,_,_,_,_,_,_,_,hj,_,_=>by simp at hj
 |d0::ds,es,r,xs,F,F2,0,d,v,h,hj,t,dj=>by
  unfold TrL at h;obtain⟨y,i,g,F3,rfl,a,c,m,f⟩:=h;show⟨λb=>F2 b\/F3 b,λb z=>z.elim .inr λz=>.inl ((a b).mpr (.inr z)),?_⟩;unfold TrL
  show⟨v,i,F2,F3,rfl,λb=>Iff.rfl,λb e z2=>dj b ((a b).mpr (.inr z2)) e,by cases es<;>simpa using t,f⟩
 |d0::ds,es,r,xs,F,F2,j+1,d,v,h,hj,t,dj=>by
  unfold TrL at h;obtain⟨y,i,g,F3,rfl,a,c,m,f⟩:=h
  let o:es.tail.getD j r=es.getD (j+1) r:=by cases es<;>simp
  obtain⟨k,l,n⟩:=TrL.setAt f (by simpa using hj) (by rw[o];show t) λb z=>dj b ((a b).mpr (.inr z));show⟨λb=>g b\/k b,λb z=>z.elim (λz=>.inl ((a b).mpr (.inl z))) λz=>(l b z).imp (λz=>(a b).mpr (.inr z)) id,?_⟩;unfold TrL;show⟨y,_,g,k,rfl,λb=>Iff.rfl,λb e z2=>?_,m,n⟩;rcases l b z2 with z|z
  ·show c b e z
  ·show dj b ((a b).mpr (.inl e)) z
end
def my(es:List Ow)(r:Ow)(hd:Hd)(ds:List D)(dx:D)(x:KD):Option (Hd×List D):=match hd with
 |.lst=>(match dx with|.int z=>(match kf ds.length z with|some j=>if bE (es.getD j r) x=Se then Sb (.lst,ds.set j x.2) else Sd|none=>Sd)|_=>Sd)
 |.dic t ks=>(match j3 dx with
  |some k=>if jg t k=Se/\ds.length<100000 then(match aH ks k with
   |some j=>if bE (es.getD j r) x=Se/\ks.Nodup/\j<ds.length then Sb (.dic t ks,ds.set j x.2) else Sd
   |none=>if es.length<=ds.length/\bE r x=Se then Sb (.dic t (ks++[k]),ds++[x.2]) else Sd) else Sd
  |none=>Sd)
 |_=>Sd
def wM(i:Nat)(B:Ro->Option (Ow×D×(D->D)))(q:Ro->Option KD)(a:MR):Option Res:=match a with
 |some (kd,d,Y1)=>(match B Y1,q Y1,Y1[i]? with
  |some (.own es r,.nd hd ds,up),Sb (_,dx),Sb (Sb ⟨Sf,k,_⟩)=>(match my es r hd ds dx (c9 kd d,d) with
   |some (hd',ds')=>Sb (.nx (Y1.set i (Sb ⟨Sf,k,up (.nd hd' ds')⟩)))
   |none=>Sd)
  |_,_,_=>Sd)
 |none=>Sd
theorem wN:swapsWithSole [.Subscript o b sp] e n env=pure Sf:=by
 cases e<;>rfl
theorem BU:swappedStores [.Subscript o b sp] e env=pure Sd:=by
 cases e<;>rfl
section
variable {X:Cx} {Z:fA} {c:Cz} {pn:List Nat}
theorem y3{H H0:Hp}{g g0:Gh}{Y:Ro}{up:D->D}{xs:List V}{x:KD}{M:i9}(c:my es r hd ds dx x=Sb (hd',ds'))(f:oy K H g F Y U i k es r hd ds up a o xs F')(R:Evo g0 H0 g H F)(se:SE K (g.plus F) Y U H)(vr:VR1 K H g F x.1 x.2 v F)(W:Rp K H S dx y)(q:EndM K pn g0 H0 U M (.nx (Y.set i (Sb ⟨Sf,k,up (.nd hd' ds')⟩)))) :
  (∃z j,hd=.lst/\y=.int z/\o=.lst xs/\H a=Sb o/\kf xs.length z=Sb j/\M.nx U (upd H a (.lst (xs.set j v))))\/((∃t B,hd=.dic t B)/\∃Z,DPut H a y v Z/\∀e,M.nx U (Z e)):=by
 let X:∀b,F b->g b=Sd:=λb z=>(R.tmp b z).1;let mm:MuOk H (Sx g F):=λb z=>se.mu b ((am b).mpr z);let u:∀(d:Pr),(∀b,d b->F b)->∀b,Sg (g.give d i) b->Sg (g.plus F) b:=λd s2 b z=>(am b).mpr ((give_S.mp z).imp id (s2 b))
 let w:∀{P:Ow},bE P x=Se->∃d:Pr,(∀b,d b->F b)/\Tr K H (Sg (g.give d i)) x.2 P v d/\(∀b,F' b->¬d b):=λ{P} m=>by
  obtain⟨d,T,a2⟩:=VR1.fit m mm X (λb z=>z) vr;show⟨d,T,a2 _ λb z=>?_,λb z1 z2=>by have:=f.lab b z1;rw[X b (T b z2)] at this;cases this⟩;show(give_S.mp z).elim (λz=>.inr (.inl z)) λz=>.inr (.inr (.inl z))
 let p:∀{A:HO} {d:Pr},(∀b,d b->F b)->SE K (g.give d i) (Y.set i (Sb ⟨Sf,k,up (.nd hd' ds')⟩)) U (upd H a A)->M.nx U (upd H a A):=λ{A d} s2 s=>q U _ _ (R.give s2 f.own) s PinOk.refl;unfold my at c;split at c
 ·split at c
  ·ext z;split at c
   ·ext j C;split at c
    ·ext m;cases c;obtain⟨d,b1,b2,b3⟩:=w m;let ho:o=.lst xs:=f.ok;let l:=f.kids.len;let Q:j<ds.length:=(nN C).2.1;obtain⟨N,c1,I⟩:=(f.kids.go (λ_ _ _ e=>e) λb o _ n z=>n (u d b1 b z)).setAt Q b2 b3;show .inl ⟨z,j,rfl,W.int,ho,f.at_,by rw[l];show C,p b1 (f.put (.lst (xs.set j v)) .lst _ _ d N rfl rfl (λxs h=>by cases h) b1 c1 I)⟩
    ·cases c
   ·cases c
  ·cases c
 ·ext t B;split at c
  ·ext kk hk;split at c
   ·ext E;let l:=f.kids.len;obtain⟨p1,p2⟩:=u7 f.at_ f.ok hk W E.1 (by rw[l];show Ov E.2 (aJ (Ox _)));split at c
    ·ext j C;split at c
     ·ext m;cases c;obtain⟨A,O,L⟩:=p1 j C m.2.1;obtain⟨d,b1,b2,b3⟩:=w m.1;obtain⟨N,c1,I⟩:=(f.kids.go (λ_ _ _ e=>e) λb o _ n z=>n (u d b1 b z)).setAt m.2.2 b2 b3;show .inr ⟨⟨t,B,rfl⟩,_,O,λe=>p b1 (f.put (A e) (.dic t B) _ _ d N rfl (L e).2 (L e).1 b1 c1 I)⟩
     ·cases c
    ·ext C;split at c
     ·ext m;cases c;obtain⟨A,O,L⟩:=p2 C;obtain⟨d,b1,b2,b3⟩:=w m.2;let I:=TrL.snoc2 m.1 (f.kids.go (λ_ _ _ e=>e) λb o _ n z=>n (u d b1 b z)) b2 b3;show .inr ⟨⟨t,B,rfl⟩,_,O,λe=>p b1 (f.put (A e) (.dic t (B++[kk])) _ _ d _ rfl (L e).2 (L e).1 b1 (λb z=>z) I)⟩
     ·cases c
   ·cases c
  ·cases c
 ·cases c
theorem J1(O:av X Z c){f:Ro->MR}(hf:bw X f e)(hp:mw X i fp b)(hk:SndE X fk k)(ha:dA k=Se)(hn:fX e=Se):dS X pn (λY=>wM i fp fk (f Y)) (.Assign [.Subscript b k sp] e pos):=by
 intro Y r h g U H Dn se q;dsimp only[wM] at h;split at h
 ·ext kd d L he;split at h
  ·ext es r0 P ds up kx dx kk d0 ep ek ei;split at h
   ·ext hc hg M;cases h
    let mu:P.mu=Se:=by
     cases P with
     |tup=>simp[my] at M
     |_=>rfl
    let E:∀v m B F,Evo g H m B F->SE X.K (m.plus F) L U B->VR1 X.K B m F kd d v F->∀I x w Q N R,Same B x->L[i]?=Sb (Sb ⟨Sf,N,R⟩)->U[i]?=Sb (Sb w)->(∀b,Q b->(m.plus F) b=Sb (Sb i))->FP X.K x (Sg (m.plus F)) N w Q (.own es r0) (.nd P ds) I up->∀y u,Same x u->VR X.K (m.plus F) x u kx dx y->
      ∃a o D W,I=.ref a/\oy X.K u m F L U i kk es r0 P ds up a o D W/\((∃z j,P=.lst/\y=.int z/\o=.lst D/\u a=Sb o/\kf D.length z=Sb j/\Dn.nx U (upd u a (.lst (D.set j v))))\/((∃t ks,P=.dic t ks)/\∃F4,DPut u a y v F4/\∀e,Dn.nx U (F4 e))):=by
     intro v m B F C l vr I x w Q N R s2 s V lb A y u s3 T;rw[ei] at s;cases s;let sQ:=s2.trans s3;let S:=l.same sQ;let hb:Evo g H m u F:=⟨λb o n e=>sQ _ _ (C.keep b o n e),C.out,C.new,C.tmp,λb o e=>let ⟨o',q1⟩:=C.dom b o e;⟨o',sQ _ _ q1⟩⟩;obtain⟨a,o,D,W,rfl,nd⟩:=FP.node S (λb z=>(C.tmp b z).1) ei V lb (A.same s3) mu;show⟨a,o,D,W,rfl,nd,y3 M nd hb S ((vr.im l.mu).go sQ λ_ _ _ z=>z) T.rd q⟩
    cases P with
    |lst=>
     show cK (rK aw (Es aw aw xC (by intro v;cases k<;>first|rfl|cases ha)) wN BU) ?_
     show hf Y _ _ _ he g U H _ se λv m B F C l vr=>hp L _ _ _ ep (m.plus F) U B _ l λI x w Q N R s2 s V lb A=>hk L _ _ ek (m.plus F) U x _ (l.same s2) λy u s3 T=>?_;obtain⟨a,o,D,W,rfl,nd,p⟩:=E v m B F C l vr I x w Q N R s2 s V lb A y u s3 T;rcases p with⟨z,j,_,rfl,rfl,g3,hj,p⟩|⟨⟨t,ks,z⟩,_⟩
     ·show⟨a,D,z,j,rfl,rfl,g3,hj,p⟩
     ·cases z
    |dic t ks=>
     show cK (AZ (by have:=O.tab.units;lia) aw aw aw (kq hn)) ?_;show hf Y _ _ _ he g U H _ se λv m B F C l vr=>hp L _ _ _ ep (m.plus F) U B _ l λI x w Q N R s2 s V lb A=>hk L _ _ ek (m.plus F) U x _ (l.same s2) λy u s3 T=>?_;obtain⟨a,o,D,W,rfl,nd,p⟩:=E v m B F C l vr I x w Q N R s2 s V lb A y u s3 T;rcases p with⟨z,j,zz,_⟩|⟨_,H4,d1,p⟩
     ·cases zz
     ·show⟨a,H4,rfl,d1,p⟩
    |tup=>cases mu
    |obj c ns=>simp[my] at M
   ·cases h
  ·cases h
 ·cases h
theorem TrL.snocG:∀{ds:List D} {es:List Ow} {r:Ow} {us:List V} {F F2:Pr} {d:D} {v:V},TrL K H S ds es r us F->Tr K H S d (es.getD ds.length r) v F2->(∀b,F b->¬F2 b)->TrL K H S (ds++[d]) es r (us++[v]) (λb=>F b\/F2 b)
 |[],es,r,us,F,F2,d,v,h,t,dj=>by
  unfold TrL at h;obtain⟨rfl,hn⟩:=h;unfold TrL
  show⟨v,[],F2,λ_=>False,rfl,λb=>⟨λz=>z.elim (λz=>absurd z (hn b)) .inl,λz=>z.elim .inr λz=>z.elim⟩,λ_ _ z=>z,by cases es<;>simpa using t,?_⟩
  unfold TrL;show⟨rfl,λ_ z=>z⟩
 |d0::ds,es,r,us,F,F2,d,v,h,t,dj=>by
  unfold TrL at h;obtain⟨y,g,j,l,rfl,a,e,k,f⟩:=h
  let i:es.getD (d0::ds).length r=es.tail.getD ds.length r:=by cases es<;>simp
  rw[i] at t;have:=TrL.snocG f t λb c z2=>dj b ((a b).mpr (.inr c)) z2;unfold TrL;show⟨y,g++[v],j,λb=>l b\/F2 b,rfl,λb=>⟨λz=>z.elim (λz=>((a b).mp z).imp id .inl) λz=>.inr (.inr z),λz=>z.elim (λz=>.inl ((a b).mpr (.inl z))) λz=>z.imp (λz=>(a b).mpr (.inr z)) id⟩,λb c z2=>z2.elim (e b c) λz2=>dj b ((a b).mpr (.inl c)) z2,k,this⟩
theorem u8:∀{a:List Str} {xs:List V} {j:Nat},bm f a=Sb j->a.length=xs.length->putF f v (a.zip xs)=a.zip (xs.set j v)
 |[],_,_,h,_=>by cases h
 |_::_,[],_,_,l=>by cases l
 |n::a,x::xs,j,h,l=>by
  unfold bm at h;rw[PY];unfold putF;split at h
  ·ext hn;cases h;rw[if_pos hn.symm];rfl
  ·ext hn;obtain⟨c,b,rfl⟩:=bq h;rw[if_neg (Ne.symm hn),QI,PY,u8 b (by simpa using l)]
theorem qG{f:Str}{v:V}:∀{a:List Str} {xs:List V},bm f a=Sd->a.length=xs.length->putF f v (a.zip xs)=(a++[f]).zip (xs++[v])
 |[],[],_,_=>rfl
 |[],_::_,_,l=>by cases l
 |_::_,[],_,l=>by cases l
 |n::a,x::xs,h,l=>by
  unfold bm at h;rw[PY];unfold putF;split at h
  ·cases h
  ·ext hn
   rw[if_neg (Ne.symm hn),PH,PH,PY,qG (by cases q:bm f a with|none=>rfl|some z=>rw[q] at h;cases h) (by simpa using l)]
def J2(es:List Ow)(r:Ow)(q:List Str)(ds:List D)(f:Str)(x:KD):Option (List Str×List D):=match bm f q with
 |some j=>if bE (es.getD j r) x=Se/\j<ds.length/\ds.length<900 then Sb (q,ds.set j x.2) else Sd
 |none=>if bE (es.getD ds.length r) x=Se/\ds.length<900 then Sb (q++[f],ds++[x.2]) else Sd
def u9(i:Nat)(c f:Str)(q:Ro->Option (Ow×D×(D->D)))(a:MR):Option Res:=match a with
 |some (kd,d,Y1)=>(match q Y1,Y1[i]? with
  |some (.own es r,.nd (.obj c' ns) ds,up),Sb (Sb ⟨Sf,k,_⟩)=>if c'=c then(match J2 es r ns ds f (c9 kd d,d) with
   |some (ns',ds')=>Sb (.nx (Y1.set i (Sb ⟨Sf,k,up (.nd (.obj c ns') ds')⟩)))
   |none=>Sd) else Sd
  |_,_=>Sd)
 |none=>Sd
theorem Gg{f:Ro->MR}{i:Nat}{fp:Ro->Option (Ow×D×(D->D))}{b e:Si}{c z:Str}{sp pos:Pos}(ha:∀C,Ps X.K Sz c=Sb (Sb (.ref C))->Cls X.K C/\NoAttr X.K C z)(hf:bw X f e)(hp:mw X i fp b)
  (hs:swapsWith e (Sb (.Attribute b z sp)) pos.line X.env=pure Sf):dS X pn (λY=>u9 i c z fp (f Y)) (.Assign [.Attribute b z sp] e pos):=by
 intro Y r h g U H Dn se q;dsimp only[u9] at h;split at h
 ·ext kd d Y1 he;split at h
  ·ext es r0 c' O ds up kk d0 ep ei;split at h
   ·ext hc;subst hc;split at h
    ·ext W hd l;cases h;show cK (EF aw aw hs) ?_;show hf Y _ _ _ he g U H _ se λv p H1 F u t vr=>hp Y1 _ _ _ ep (p.plus F) U H1 _ t λv1 A w Fi k' d' s2 N ew lb V=>?_;rw[ei] at N;cases N;let B:=t.same s2;let I:Evo g H p A F:=⟨λb o n e=>s2 _ _ (u.keep b o n e),u.out,u.new,u.tmp,λb o e=>let ⟨M,q1⟩:=u.dom b o e;⟨M,s2 _ _ q1⟩⟩;obtain⟨a,o,L,F',rfl,m⟩:=FP.node B (λb z=>(u.tmp b z).1) ei ew lb V rfl;obtain⟨C,T,hC,⟨S,na⟩,ho,hl⟩:=m.ok;subst ho;let hF:∀b,F b->p b=Sd:=λb z=>(I.tmp b z).1;let mm:MuOk A (Sx p F):=λb z=>B.mu b ((am b).mpr z);let P:∀(k:Pr),(∀b,k b->F b)->∀b,Sg (p.give k i) b->Sg (p.plus F) b:=λk s2 b z=>(am b).mpr ((give_S.mp z).imp id (s2 b));let hb:=(vr.im t.mu).go s2 λ_ _ _ z=>z
     let Q:∀{kc:Ow},bE kc (c9 kd d,d)=Se->∃k:Pr,(∀b,k b->F b)/\Tr X.K A (Sg (p.give k i)) d kc v k/\(∀b,F' b->¬k b):=λ{kc} hf=>by
      obtain⟨k,a1,a2⟩:=VR1.fit hf mm hF (λb z=>z) hb;show⟨k,a1,a2 _ λb z=>?_,λb z1 z2=>by have:=m.lab b z1;rw[hF b (a1 b z2)] at this;cases this⟩;show(give_S.mp z).elim (λz=>.inr (.inl z)) λz=>.inr (.inr (.inl z))
     let E:∀{M:HO} {k:Pr},(∀b,k b->F b)->SE X.K (p.give k i) (Y1.set i (Sb ⟨Sf,kk,up (.nd (.obj c' W) hd)⟩)) U (upd A a M)->Dn.nx U (upd A a M):=λ{M k} s2 s=>q U _ _ (I.give s2 m.own) s PinOk.refl;let R:=m.kids.len;let hz:(O.zip L).length=ds.length:=by rw[QD,hl,R,RK]
     obtain⟨hg,nz⟩:=ha C hC;unfold J2 at l;split at l
     ·ext j Z;split at l
      ·ext x;cases l;obtain⟨k,b1,b2,b3⟩:=Q x.1;obtain⟨F3,c1,c2⟩:=(m.kids.go (λ_ _ _ e=>e) λb o _ n z=>n (P k b1 b z)).setAt x.2.1 b2 b3;show⟨a,C,T,O.zip L,rfl,m.at_,S,nz,by rw[hz];have:=x.2.2;lia,?_⟩;rw[u8 Z hl];show E b1 (m.put _ (.obj c' O) _ _ k F3 rfl ⟨C,T,hC,⟨S,na⟩,rfl,by rw[PX];show hl⟩ (λL h=>by cases h) b1 c1 c2)
      ·cases l
     ·ext Z;split at l
      ·ext x;cases l;obtain⟨k,b1,b2,b3⟩:=Q x.1;let c2:=TrL.snocG (m.kids.go (λ_ _ _ e=>e) λb o _ n z=>n (P k b1 b z)) b2 b3;show⟨a,C,T,O.zip L,rfl,m.at_,S,nz,by rw[hz];have:=x.2;lia,?_⟩;rw[qG Z hl];show E b1 (m.put _ (.obj c' (O++[z])) _ _ k _ rfl ⟨C,T,hC,⟨S,λy hy=>(OQ.mp hy).elim (na y) λhy=>by rw[OV.mp hy];show nz⟩,rfl,by rw[OF,OF,hl];rfl⟩ (λL h=>by cases h) b1 (λb z=>z) c2)
      ·cases l
    ·cases h
   ·cases h
  ·cases h
 ·cases h
end
mutual
inductive IS where
 |asg (i:Nat) (a:ME)
 |unp (is:List Nat) (a:ME)
 |put (b:BP) (k:IE) (a:ME)
 |putF (c:Str) (b:BP) (f:Str) (a:ME)
 |ret (a:ME)
 |ifs (t:MT) (a b:bC)
 |fo (fg:List Nat) (tg:IT) (it:MI) (b:bC)
 |wh (fg:List Nat) (t:MT) (b:bC)
 |pas
 |exp (a:ME)
 |pre (is:List Nat) (s:IS)
 |stk
inductive bC where
 |nil
 |cons (s:IS) (r:bC)
end
mutual
def gP(Z:GG)(N:Nat):IS->List Nat->Ro->Option Res
 |.asg i a,pn,Y=>lJ pn i (aO Z a Y)
 |.unp is a,pn,Y=>yU pn is (aO Z a Y)
 |.put b k a,_,Y=>wM b.slot (rB Z.fn b) (aa Z.fn k) (aO Z a Y)
 |.putF c b f a,_,Y=>u9 b.slot c f (rB Z.fn b) (aO Z a Y)
 |.ret a,_,Y=>wL (aO Z a Y)
 |.ifs t a b,pn,Y=>yX (d5 Z t Y) (aY Z N a pn) (aY Z N b pn)
 |.fo fg tg it b,pn,Y=>qD pn fg tg (aY Z N b) (eZ Z it Y)
 |.wh fg t b,pn,Y=>j5 fg (d5 Z t) (aY Z N b pn) N Y
 |.pas,_,Y=>Sb (.nx Y)
 |.exp a,_,Y=>yW (aO Z a Y)
 |.pre is s,pn,Y=>gP Z N s pn (frzN is Y)
 |.stk,_,_=>Sd
def aY(Z:GG)(N:Nat):bC->List Nat->Ro->Option Res
 |.nil,_,Y=>Sb (.nx Y)
 |.cons s r,pn,Y=>bT (gP Z N s pn Y) (aY Z N r pn)
end
section
theorem BV:gP Z N (.asg i a) pn Y=lJ pn i (aO Z a Y):=rfl
theorem BW:gP Z N (.unp is a) pn Y=yU pn is (aO Z a Y):=rfl
theorem BX{Z:GG}:gP Z N (.put b k a) z0 Y=wM b.slot (rB Z.fn b) (aa Z.fn k) (aO Z a Y):=rfl
theorem BY:gP Z N (.ret a) z0 Y=wL (aO Z a Y):=rfl
theorem va:gP Z N (.ifs t a b) pn Y=yX (d5 Z t Y) (aY Z N a pn) (aY Z N b pn):=rfl
theorem Gi:gP Z N (.fo fg tg it b) pn Y=qD pn fg tg (aY Z N b) (eZ Z it Y):=rfl
theorem Gj:gP Z N (.wh fg t b) pn Y=j5 fg (d5 Z t) (aY Z N b pn) N Y:=rfl
theorem BZ:gP Z N (.exp a) z0 Y=yW (aO Z a Y):=rfl
theorem B0:gP Z N (.pre is s) pn Y=gP Z N s pn (frzN is Y):=rfl
end
theorem lM{f:Ro->Option Res}(h:∀Y,f Y=Sd):dS X pn f e:=λY r a=>by rw[h] at a;cases a
structure An where
 fg:Nat->List Nat:=λ_=>[]
 pz:Nat->List Nat:=λ_=>[]
 fa:Nat->Bool:=λ_=>Sf
 sk:Nat->Bool:=λ_=>Sf
noncomputable def tf(f:Su->Option IS):List Su->Option bC
 |[]=>Sb .nil
 |s::r=>match f s,tf f r with|some a,Sb b=>Sb (.cons a b)|_,_=>Sd
noncomputable def tj:Su->Nat
 |.Assign _ _ p=>p.line
 |.AugAssign _ _ _ p=>p.line
 |.Return _ p=>p.line
 |.Expr _ p=>p.line
 |.If _ _ _ p=>p.line
 |.For _ _ _ _ p=>p.line
 |.While _ _ _ p=>p.line
 |.Raise _ _ p=>p.line
 |.Try _ _ _ _ p=>p.line
 |.Delete _ p=>p.line
 |_=>0
noncomputable def vb:Si->Bool
 |.ListComp _ gs _ _=>(match gs with|[]=>Sf|g::gs=>(match gs with|[]=>g.is_async==0|_::_=>Sf))
 |_=>Sf
noncomputable def Du(l:List Nat)(s:Option IS):Option IS:=match l,s with
 |[],s=>s
 |l,Sb s=>Sb (.pre l s)
 |_,Sd=>Sd
noncomputable def Dv:Si->Bool
 |.Constant (.str _) _ _=>Se
 |_=>Sf
noncomputable def Dw(f:Str):List (Str×List Str)->Option Str
 |[]=>Sd
 |(c,fs)::r=>if f∈fs then Sb c else Dw f r
def Dx(fns:Nms)(f:Str):Option Str:=match Dw f fns.cls with
 |some c=>(match fns.cls.lookup c with|some fs=>if f∈fs then Sb c else Sd|none=>Sd)
 |none=>Sd
def HP(fns:Nms)(m:Nat)(c:Cz)(q:List Si)(e:Si):Option IS:=match q with
 |[]=>Sd
 |t::q=>match q with
  |_::_=>Sd
  |[]=>match t with
   |.Name x _=>if pY c x&&(fX e||vb e) then(match bm x c.N,cM fns (m+1) c e with|some i,Sb a=>Sb (.asg i a)|_,_=>Sd) else Sd
   |.Tuple es _ _=>if yT e then(match yV c es,cM fns (m+1) c e with|some is,Sb a=>Sb (.unp is a)|_,_=>Sd) else Sd
   |.Subscript b k _=>if dA k&&fX e then(match Dr c (cE fns (m+1) c) 6 b,cE fns (m+1) c k,cM fns (m+1) c e with|some b,Sb k,Sb a=>Sb (.put b k a)|_,_,_=>Sd) else Sd
   |.Attribute b z _=>if fX e then(match Dx fns z,Dr c (cE fns (m+1) c) 6 b,cM fns (m+1) c e with|some cl,Sb b,Sb a=>Sb (.putF cl b z a)|_,_,_=>Sd) else Sd
   |_=>Sd
noncomputable def J3(c:Cz)(tg iter:Si)(body:List Su):Option IS:=Sd
def Ny(fns:Nms)(an:An)(m:Nat)(c:Cz)(q:List Su->Option bC)(tg iter:Si)(body B:List Su)(p:Pos):Option IS:=match B with
 |_::_=>Sd
 |[]=>if an.fa p.line then J3 c tg iter body else if dQ iter then(match oh c 4 tg,yR c (cM fns (m+1) c) (Fw c (cE fns (m+1) c) tg iter) tg iter,q body with|some t,Sb it,Sb b=>Sb (.fo (an.fg p.line) t it b)|_,_,_=>Sd) else Sd
def HQ(fns:Nms)(an:An)(m:Nat)(c:Cz)(q:List Su->Option bC):Su->Option IS
 |.Assign ts e _=>HP fns m c ts e
 |.Return e _=>(match e with|some e=>(cM fns (m+1) c e).map .ret|none=>Sd)
 |.Expr e _=>if Dv e then Sb .pas else if fX e then(cM fns (m+1) c e).map .exp else Sd
 |.If t a b _=>(match HM fns (m+1) c t,q a,q b with|some t,Sb a,Sb b=>Sb (.ifs t a b)|_,_,_=>Sd)
 |.For tg iter body els p=>Ny fns an m c q tg iter body els p
 |.While t body els p=>(match els with|_::_=>Sd|[]=>(match HM fns (m+1) c t,q body with|some t,Sb b=>Sb (.wh (an.fg p.line) t b)|_,_=>Sd))
 |.Pass _=>Sb .pas
 |_=>Sd
def cS(fns:Nms)(an:An)(m:Nat)(c:Cz):Nat->Su->Option IS
 |0,_=>Sd
 |n+1,s=>if an.sk (tj s)=Se then Sb .stk else Du (an.pz (tj s)) (HQ fns an m c (tf (cS fns an m c n)) s)
abbrev cB(fns:Nms)(an:An)(m:Nat)(c:Cz)(n:Nat):List Su->Option bC:=tf (cS fns an m c n)
section
variable {X:Cx} {c:Cz} (fns:Nms) (Z:GG)
theorem wP:∃b:Bool,swapsWith (.ListComp elt [⟨tg,iter,ifs,0⟩] scope cp) (Sb (.Name x p)) n env=pure b:=⟨_,rfl⟩
theorem Gm(O:av X (bB fns Z) c){m i:Nat}(hl:pY c x=Se)(hi:bm x c.N=Sb i)(hc:vb e=Se)(ha:cM fns (m+1) c e=Sb a):dS X pn (λY=>lJ pn i (aO Z a Y)) (.Assign [.Name x p] e pos):=by
 let hs:∃o M j n f L,e=.ListComp o [⟨M,j,n,0⟩] f L:=by
  cases e with
  |ListComp o gs f L=>cases gs with
   |nil=>cases hc
   |cons g gs=>cases gs with
    |cons _ _=>cases hc
    |nil=>
     cases g with
     |mk M j n as=>
      let h0:as=0:=eq_of_beq (hc);subst h0;show⟨_,_,_,_,_,_,rfl⟩
  |_=>cases hc
 obtain⟨o,M,j,n,f,L,rfl⟩:=hs;let l:=lc O hl;let hf:=(iX fns Z (m+1)).1 X c O _ _ ha;intro Y r h g U H Dn se q
 cases k:aO Z a Y with
 |none=>dsimp only at h;rw[k] at h;cases h
 |some w=>
  obtain⟨kd,d,Y1⟩:=w;dsimp only at h;rw[k] at h;obtain⟨b,hb⟩:=wP
  cases b with
  |false=>show cK (rL (by rw[O.N];show O.nd) (by rw[O.N];show aZ hi) l.1 aw hb l.2) (hf Y kd d Y1 k g U H _ se λv g1 H1 F ev V vr=>iZ h q ev V vr)
  |true=>
   let hj:∀{hck:bj c f=Se} {hns:dQ j=Se},jb (wI X M j) (λv U H Q=>∀C s E y,wG (ao X (ag f) f C s E y) M v U H Q) (λU H Q=>∀C s E y,Fp (ao X (ag f) f C s E y) n U H Q) (λU H Q=>∀C s E y,wE (ao X (ag f) f C s E y) o U H Q) (ax c f) U H (λv H1=>ik i v U H1 Dn.nx)->KZ X (.Assign [.Name x p] (.ListComp o [⟨M,j,n,0⟩] f L) pos) Dn U H:=λ{hck hns} ht=>
    cK (xZ O.calm (dO O hck) wq
     (λC s E y B s' U' P v u Q' I r hh=>wt B s' U' P v u Q' I r (hh C s E y)) (λC s E y B s' U' P Q' I hh=>hh C s E y B s' I) (λC s E y B s' U' P Q' I hh=>hh C s E y B s' I) (dF hns)
     (by rw[O.N];show O.nd) (by rw[O.N];show aZ hi) l.1 l.2 hb) ht
   let S:∀v g' P F,Evo g H g' P F->SE X.K (g'.plus F) Y1 U P->VR1 X.K P g' F kd d v F->ik i v U P Dn.nx:=λv g1 H1 F ev V vr=>iZ h q ev V vr
   cases R:cE fns m c (.ListComp o [⟨M,j,n,0⟩] f L) with
   |some ie=>
    let W:Sb (ME.p ie)=Sb a:=by rw[<- ha];change _=(match cE fns m c _ with|some ie=>Sb (ME.p ie)|none=>_);rw[R]
    cases W
    cases m with
    |zero=>cases(R)
    |succ m=>
     let A:JA fns c (cE fns m) (cT fns m) o [⟨M,j,n,0⟩] f L=Sb ie:=R;unfold JA at A;dsimp only at A;rw[if_pos rfl] at A;split at A
     ·ext hn;rw[Oo] at hn;split at A
      ·ext t it ts el ht hg he hd;cases A;let D:=cX (fm:=qx fns Z) fns Z.fn m;let CO:=cR O hn.2
       let hv:aa Z.fn (.comp ((fns.an L.line L.col).getD Ow.fz) (ax c f) t it ts el) Y=Sb (kd,d)/\Y1=Y:=by
        rw[yP] at k;unfold KY at k;split at k
        ·ext e';cases k;show⟨e',rfl⟩
        ·cases k
       obtain⟨hv,rfl⟩:=hv;rw[ql] at hv
       show hj (hck:=hn.2) (hns:=hn.1) (yr O hn.2 (uJ fns Z.fn O (D.1 X c O) hg) ht (λC s H y=>uL Z.fn (D.2 _ _ (CO C s H y)) he) (λC s H y=>D.1 _ _ (CO C s H y) _ _ hd) hv se λv P s ⟨F,h1,h2⟩=>
        S v g P F (cY s h1 λb z=>eV se.mu (h1 b z)) (se.plus s h1 h2.dom) h2)
      ·cases A
     ·cases A
   |none=>
    let W:yS fns c (cM fns m) (cE fns m) (HM fns m) o [⟨M,j,n,0⟩] f L=Sb a:=by
     replace ha:(match cE fns m c (.ListComp o [⟨M,j,n,0⟩] f L) with|some ie=>Sb (ME.p ie)|none=>yS fns c (cM fns m) (cE fns m) (HM fns m) o [⟨M,j,n,0⟩] f L)=Sb a:=ha
     rw[R] at ha;show ha
    obtain⟨hp,hk,ho,t,it,ts,el,hq,hm,T,ht,hg,he,hd,rfl⟩:=u0 fns W;cases hq;let D:=cX (fm:=qx fns Z) fns Z.fn m;let CO:=cR O T;rw[qw] at k
    first|(cases k;done)|show hj (hck:=T) (hns:=hm) (uT O T (sW fns Z O ((iX fns Z m).1 X c O) (D.1 X c O) hg) ht (λC s H y=>qz Z ((iX fns Z m).2 _ _ (CO C s H y)) he) (λC s H y=>(iX fns Z m).1 _ _ (CO C s H y) _ _ hd) k se S)
theorem g8{f:Su->Option IS}(c:∀s a,f s=Sb a->∀pn,dS X pn (gP Z N a pn) s):∀{st:List Su} {b:bC},tf f st=Sb b->∀pn,cI X pn (aY Z N b pn) st
 |[],b,h,pn=>by
  cases h;rw[show aY Z N .nil pn=λY=>Sb (.nx Y) by funext Y;rw[aY]];show JW
 |s::st,b,h,pn=>by
  unfold tf at h;split at h
  ·ext a r d e;cases h
   rw[show aY Z N (.cons a r) pn=λY=>bT (gP Z N a pn Y) (aY Z N r pn) by funext Y;conv=>lhs;rw[aY]]
   show Gc (c s a d pn) (g8 c e pn)
  ·cases h
theorem Mu(O:av X (bB fns Z) c){m N:Nat}{l:List Si}{e:Si}{pos:Pos}{a:IS}(h:HP fns m c l e=Sb a)(pn:List Nat):dS X pn (gP Z N a pn) (.Assign l e pos):=by
 let n:=(iX fns Z (m+1)).1 X c O;let w:=(cX fns Z.fn (m+1)).1 X c O
 cases l with
 |nil=>cases h
 |cons t l=>cases l with
  |cons _ _=>cases h
  |nil=>cases t with
   |Name x p=>
    dsimp only[HP] at h;split at h
    ·ext hl;rw[Oo,PL] at hl;split at h
     ·ext i f hi g;cases h;rw[show gP Z N (.asg i f) pn=λY=>lJ pn i (aO Z f Y) from funext λ_=>rfl];rcases hl.2 with u|u
      ·show Ds O hl.1 hi u (n _ _ g)
      ·show Gm fns Z O hl.1 hi u g
     ·cases h
    ·cases h
   |Tuple I k p=>
    dsimp only[HP] at h;split at h
    ·ext hn;split at h
     ·ext y f r g;cases h
      first|(show lM λ_=>rfl)|(rw[show gP Z N (.unp y f) pn=λY=>yU pn y (aO Z f Y) from funext λ_=>rfl];show JS O (n _ _ g) r hn)
     ·cases h
    ·cases h
   |Subscript b k p=>
    dsimp only[HP] at h;split at h
    ·ext hn;rw[Oo] at hn;split at h
     ·ext j A f v hk g;cases h
      first|(show lM λ_=>rfl)|(rw[show gP Z N (.put j A f) pn=λY=>wM j.slot (rB Z.fn j) (aa Z.fn A) (aO Z f Y) from funext λ_=>rfl];show J1 O (n _ _ g) (wJ Z O w _ v) (w _ _ hk) hn.1 hn.2)
     ·cases h
    ·cases h
   |Attribute b z p=>
    dsimp only[HP] at h;split at h
    ·ext hn;split at h
     ·ext o j f d v g;cases h
      let s:∀C,Ps X.K Sz o=Sb (Sb (.ref C))->Cls X.K C/\NoAttr X.K C z:=λC E=>by
       unfold Dx at d;split at d
       ·split at d
        ·ext F q;split at d
         ·ext B;cases d;obtain⟨H,D⟩:=O.tab.cf o F C q E;show⟨H,D z B⟩
         ·cases d
        ·cases d
       ·cases d
      first|(show lM λ_=>rfl)|(rw[show gP Z N (.putF o j z f) pn=λY=>u9 j.slot o z (rB Z.fn j) (aO Z f Y) from funext λ_=>rfl];show Gg s (n _ _ g) (wJ Z O w _ v) (kq hn))
     ·cases h
    ·cases h
   |_=>cases h
theorem Gn(O:av X Zt c)(b:PassesOwn (So X.prog X.w) X.A X.env X.xe)(h:J3 c tg iter body=Sb a)(pn:List Nat):dS X pn (gP Z N a pn) (.For tg iter body [] pos):=by cases h
theorem m8(O:av X (bB fns Z) c)(B:PassesOwn (So X.prog X.w) X.A X.env X.xe):∀(n:Nat) {s:Su} {a:IS},cS fns an m c n s=Sb a->∀pn,dS X pn (gP Z N a pn) s
 |0,s,a,h,pn=>by cases h
 |n+1,s,a,h,pn=>by
  let D:=(iX fns Z (m+1)).1 X c O;let H:=(iX fns Z (m+1)).2 X c O;let K:=(cX fns Z.fn (m+1)).1 X c O;let g:∀{I:List Su} {b:bC},tf (cS fns an m c n) I=Sb b->∀pn,cI X pn (aY Z N b pn) I:=λh=>g8 Z (λs a h=>m8 O B n h) h
  let k:∀{a:IS},HQ fns an m c (tf (cS fns an m c n)) s=Sb a->dS X pn (gP Z N a pn) s:=λ{a} h=>by
   cases s with
   |Assign M e d=>show Mu fns Z O h pn
   |Return e d=>cases e with
    |some e=>
     obtain⟨f,o,rfl⟩:=bq (h)
     first|(show lM λ_=>rfl)|(rw[show gP Z N (.ret f) pn=λY=>wL (aO Z f Y) from funext λ_=>rfl];show Dt (D _ _ o))
    |none=>cases h
   |Expr e d=>
    dsimp only[HQ] at h;split at h
    ·ext C;cases h;rw[show gP Z N .pas pn=λY=>Sb (.nx Y) from funext λ_=>rfl];unfold Dv at C;split at C
     ·show JU
     ·cases C
    ·split at h
     ·ext hn;obtain⟨f,o,rfl⟩:=bq h
      first|(show lM λ_=>rfl)|(rw[show gP Z N (.exp f) pn=λY=>yW (aO Z f Y) from funext λ_=>rfl];show JT hn (D _ _ o))
     ·cases h
   |If t x y d=>
    dsimp only[HQ] at h;split at h
    ·ext j f i z o v;cases h
     first|(show lM λ_=>rfl)|(rw[show gP Z N (.ifs j f i) pn=λY=>yX (d5 Z j Y) (aY Z N f pn) (aY Z N i pn) by show funext λ_=>rfl];show JV (H _ _ z) (g o pn) (g v pn))
    ·cases h
   |For L F r q d=>cases q with
    |cons _ _=>cases h
    |nil=>
     dsimp only[HQ,Ny] at h;split at h
     ·show Gn Z O B h pn
     ·split at h
      ·ext hn;split at h
       ·ext j u i z E v;cases h
        first|(show lM λ_=>rfl)|(rw[show ∀p,gP Z N (.fo p j u i) pn=λY=>qD pn p j (aY Z N i) (eZ Z u Y) by intro p;show funext λ_=>rfl];show Gf O B z (sW fns Z O D K E) (g v) hn)
       ·cases h
      ·cases h
   |While t r q d=>cases q with
    |cons _ _=>cases h
    |nil=>
     dsimp only[HQ] at h;split at h
     ·ext j i z v;cases h
      first|(show lM λ_=>rfl)|(rw[show ∀p,gP Z N (.wh p j i) pn=j5 p (d5 Z j) (aY Z N i pn) N by intro p;show funext λ_=>rfl];show JY B (H _ _ z) (g v pn) N)
     ·cases h
   |Pass d=>
    cases h
    first|(show lM λ_=>rfl)|(rw[show gP Z N .pas pn=λY=>Sb (.nx Y) from funext λ_=>rfl];show Ge)
   |_=>cases h
  unfold cS at h;by_cases hk:an.sk (tj s)=Se
  ·rw[if_pos hk] at h;cases h;show lM λY=>rfl
  rw[if_neg hk] at h;unfold Du at h;split at h
  ·show k h
  ·rename_i f o _;cases h
   first|(show lM λ_=>rfl)|(rw[show ∀l,gP Z N (.pre l f) pn=λY=>gP Z N f pn (frzN l Y) by intro l;show funext λ_=>rfl];show JZ _ (k o))
  ·cases h
end
end J
namespace L2
open PyProof.Rows
theorem mz{R:Result->Sk->Prop}{s:Sk}(I:Nat->Sk->Prop)(e:∀n s,I n s->Sq (So prog w) A (pyNext it) (λr g=>match r with
   |none=>R (.ok .next) g
   |some v=>Sq (So prog w) A (letOwnedTupleGo target it v) (λ_ d=>Sq (So prog w) A (assign target env v) (λ_ p=>
     Sq (So prog w) A (forIn ifs Se λc r=>if r=Se then do let b <- isTrue c env (eval c env);pure (ForInStep.yield b) else pure (ForInStep.yield r)) (λb i=>
      if b=Se then Sq (So prog w) A (eval kx env) (λk o=>Sq (So prog w) A (eval vx env) (λl q=>
       Sq (So prog w) A (dictSet D k l) (λ_ u=>∃m,m<n/\I m u) (λ_ _=>False) q) (λ_ _=>False) o) (λ_ _=>False) i
      else ∃m,m<n/\I m i) (λ_ _=>False) p) (λ_ _=>False) d) (λ_ _=>False) g) (λ_ _=>False) s)(n:Nat)(h:I n s) :
  codeAny (So prog w) A (.compLoop (.DictComp kx vx [⟨target,iter,ifs,0⟩] scope pos) 0 it (.ref D) env) R s:=by
 show codeAny_loop rfl I (λn s x=>?_) n h;show wpAny_noted ?_;rw[compTurn_dict];show Sm (wpAny_standAt (Sm (wpAny_mono (e n s x) (λr g j=>?_) λ_ _ a=>a.elim)))
 cases r with
 |none=>show Sn j
 |some v=>
  show Sm (wpAny_mono j (λ_ d f=>?_) λ_ _ a=>a.elim);show Sm (wpAny_mono f (λ_ p z=>Sm (wpAny_mono z (λb i t=>?_) λ_ _ a=>a.elim)) λ_ _ a=>a.elim)
  cases b with
  |false=>show Sn ⟨rfl,t⟩
  |true=>
   show Sm (Sm (wpAny_mono t (λk o B=>Sm (SB (wpAny_mono B (λl q C=>Sm (wpAny_standAt (SB (wpAny_mono C (λ_ u y=>Sn ⟨rfl,y⟩) λ_ _ a=>a.elim)))) λ_ _ a=>a.elim))) λ_ _ a=>a.elim))
section
variable {X:Cx} {pins:List (Sj×Obj)} {U:St} {H:Hp} {s:Sk}
theorem wQ{A:Sv}{F:Nat->Hp}{Q:Unit->Sk->Prop}(Z:A.units+9<cLine)(I:Inv X pins U H s)(g:DPut H a y v F)(D:RelV y u)(M:RelV v r)(h:∀e s',Inv X pins U (F e) s'->Q () s') :
  Sq (So X.prog X.w) A (dictSet a u r) Q E s:=by
 rcases g with⟨d,k,e,p,l,x⟩|⟨m,C,d,k,b,e,p,L,l,x⟩
 ·subst p x;obtain⟨z,o,P,f,t⟩:=pM I.hok e;let N:P.length<=sizeLine:=by rw[<- f.length];show z
  let hl:(bI d k v).length<=sizeLine:=by have:=cm d k v;lia
  show wpAny_dictSet_pairs (jG D) t λK i n=>h 0 _ ?_;let R:∃q,K.get? a=Sb q:=let ⟨q,_,_,j,_⟩:=i;⟨q,j⟩;show gp I (by rw[e];show True.intro) n R (rZ hl o (f.put k M) i)
 ·subst p x;cases(D);obtain⟨z,o,S,f,t⟩:=xP I.hok e;let N:S.length<=sizeLine:=by rw[<- Paired.length f];show z
  let hl:(bI d k v).length<=sizeLine:=by have:=cm d k v;lia
  show wpAny_dictSet_heap (Nat.lt_of_succ_lt Z) (ir I.hok L) t λK i n=>?_;obtain⟨q,Y,C,j,V,T,O,_,W⟩:=i;show h C _ ?_;show gp I (by rw[e];show True.intro) n ⟨q,j⟩ ⟨hl,o,_,(f.put k L M).keeps λc ys B=>?_,q,Y,j,V,T,O,W⟩
  rw[ac (xh B e (λz=>nomatch z))]
  show B
def oC(wi:TI)(g:TG)(tt:TT)(tk te:TE)(o0:HO)(cap:List (Option Nat)):TE:=λU H Q=>wi U H λJ H1=>∀D,H1 D=Sd->∃W:Nat->Nat->St->Hp->Prop,(∃m,W 0 m (cV U cap) (upd H1 D o0))/\∀i m U' H',W i m U' H'->
 (J.stop i H'/\Q (.ref D) H')\/(J.go i H'/\∀x H2,J.yld i H' x H2->g x U' H2 λB O=>tt B O λok O=>if ok=Se then tk B O λy H4=>te B H4 λv H5=>∃F,DPut H5 D y v F/\∀e,∃q,q<m/\W (i+1) q B (F e) else ∃q,q<m/\W (i+1) q B O)
theorem m9(hc:X.calm=Se)(O:fC X N' scope cap)(hi:PI X tg iter wi)(hg:∀C s H ex,PG (ao X N' scope C s H ex) tg g)(ht:∀C s H ex,A3 (ao X N' scope C s H ex) ifs tt)(hk:∀C s H ex,PE (ao X N' scope C s H ex) kx tk)(he:∀C s H ex,PE (ao X N' scope C s H ex) elt te)(ho:o0=.dK []\/∃m,o0=.dT m 0 [])(hu:X.A.units+9<cLine){Q:VK}(I:Inv X pins U H s)(h:oC wi g tt tk te o0 cap U H Q)(hs:∀x,foldedSetIterable iter X.env x=pure x)(hX:X.xe=E)(hQ:∀(C D:Sj) (s1:Sk) (H1:Hp) (f:List Sj) (U':St) (H':Hp) (s':Sk),Inv X pins U H1 s1->(∀b∈f,ip X pins H1 b)->Inv (ao X N' scope C s1 H1 f) [] U' H' s'->Q (.ref D) H'->
   compPost (So X.prog X.w) X.A E use Q' (.ref D) C (.ok .next) s') :
  Sq (So X.prog X.w) X.A (comprehension (.DictComp kx elt [⟨tg,iter,ifs,0⟩] scope pos) scope X.env cpos newDict Sf (eval iter X.env) use) Q' E s:=by
 let hw:closureFor scope X.env=pure (gB X.env.cells scope.names []):=gH λy hy e=>I.ok.has _ (O.free y hy e);show wpAny_comprehension_free rfl hs hw O.kind O.names ?_;subst hX;show bd (hi pins s U H _ I h) λv s1 h1=>bd h1 λgb s2 h2=>?_;obtain⟨it,f,tn,J,B,e,I2,T,V,f2,hW⟩:=h2;subst e;show SQ (gI ?_);dsimp only;generalize L:s2.heap.push { cls:=.type "dict",dict:=Sd,data:=.dict #[] }=HH;let hh:HH.objs.size=s2.heap.objs.size+1:=by rw[<- L,Pn]
 let h0:s2.heap.objs.size<HH.objs.size:=by rw[hh];show Pv _
 generalize M:pushCells (HH.push { cls:=.type "dict",data:=.dict #[] }) scope.names=h₁;let kp:∀b o,HH.get? b=Sb o->h₁.get? b=Sb o:=λb o e=>M▸pushCells_keeps _ _ b o (Oq _ e);let ha:h₁.Ns HH.objs.size λ_=>Sd:=M▸(Heap.Ns.new HH (.type "dict")).keeps (pushCells_keeps _ _)
 let h3:∀x c,(SC (HH.objs.size+1) scope.names []).lookup x=Sb c->h₁.IsCell c Sd:=λx c e=>by
  let ok:=cellsFrom_ok scope.names (HH.push { cls:=.type "dict",data:=.dict #[] }) 0 [] ⟨λ_ _ hm=>(nomatch hm),List.Pairwise.nil⟩ (OS _)
  rw[Pn] at ok;show M▸(ok.empty x c (cb e)).1
 let S:∀b o,s2.heap.get? b=Sb o->h₁.get? b=Sb o:=λb o e=>kp b o (L▸Oq _ e)
 let h5:ObjOk X.prog X.w (upd B s2.heap.objs.size o0) h₁ s2.heap.objs.size o0:=by
  let hx:=I2.big;let a:(s2.heap.objs.size==sysModules)=Sf:=beq_eq_false_iff_ne.mpr (Ne.symm (OG hx));let eo:h₁.get? s2.heap.objs.size=Sb { cls:=.type "dict",data:=.dict #[] }:=kp _ _ (L▸OJ _ rfl);rcases ho with rfl|⟨m,rfl⟩
  ·show⟨OS _,a,[],.nil,let ⟨q,es,ep,hq,r⟩:=Heap.DictOf.new s2.heap;⟨q,es,ep,by rw[eo,<- hq];show(OJ _ rfl).symm,r⟩⟩
  ·show⟨OS _,a,[],.nil,_,#[],eo,⟨rfl,rfl,rfl⟩,rfl,rfl,Rm⟩
 let hf:∀b∈f,b<s2.heap.objs.size:=λb a=>let ⟨o,e,_⟩:=T.obj 0 _ V b a;Os e;let N:=I2.hok.fresh (Ox s2.heap.objs.size);obtain⟨W,⟨m0,w0⟩,hl⟩:=hW s2.heap.objs.size N;let J0:=pR (tk:=s2.toks) I2 O f2 hf (by rw[hh];show Qa _) (Ox _) h0 h3 ha S h5;let hj:tn 0 h₁:=T.keep 0 _ _ V λb _ o e=>S b o e
 let h8:∀b∈f,(upd B s2.heap.objs.size o0) b=Sd:=λb a=>by
  rw[ac (OG (hf b a))];show(f2 b a).1
 let k:∀{H':Hp},(∀b∈f,H' b=Sd)->∀b∈f,ip (ao X N' scope HH.objs.size s2 B f) [] H' b:=λhn b a=>
  ⟨hn b a,(J0.ok.exf b a).1,J0.ok.exfs b a,.inl a,(J0.ok.exf b a).2,λp hp=>absurd hp (by simp[ao])⟩
 let K:codeAny (So X.prog X.w) X.A (.compLoop (.DictComp kx elt [⟨tg,iter,ifs,0⟩] scope pos) 0 (.ref it) (.ref s2.heap.objs.size) (compEnvC scope (EN X.env.cells scope.names HH.objs.size) HH.objs.size X.env))
   (compPost (So X.prog X.w) X.A X.xe use Q' (.ref s2.heap.objs.size) HH.objs.size) { s2 with heap:=h₁,toks:=s2.toks }:=by
  show mz (λn s'=>∃i U' H',Inv (ao X N' scope HH.objs.size s2 B f) [] U' H' s'/\tn i s'.heap/\(∀b∈f,H' b=Sd)/\W i n U' H') ?_ m0 ⟨0,_,_,J0,hj,h8,w0⟩
  rintro n s3 ⟨i,Z,H3,I3,hd,Y,w3⟩
  rcases hl i n Z H3 w3 with⟨hv,qn⟩|⟨go,R⟩
  ·show bd (T.done (ao X N' scope HH.objs.size s2 B f) rfl rfl rfl hc i [] s3 Z H3 _ I3 (k Y) hd hv) λr s4 ⟨hr,I4⟩=>?_;subst hr;show hQ _ _ s2 B f Z H3 s4 I2 f2 I4 qn
  ·show bd (T.item (ao X N' scope HH.objs.size s2 B f) rfl rfl rfl hc i [] s3 Z H3 _ I3 (k Y) hd go) λr s4 ⟨u,hr,h4⟩=>?_;subst hr;show bd h4 λ_ s5 l=>?_;obtain⟨x,H5,I5,r5,y5,j,h7⟩:=l;let ga:=I5.pinned (k h7) (T.obj _ _ j);show bd (hg _ _ _ _ _ s5 Z H5 x u _ ga r5 (R x H5 y5)) λ_ s6 l=>?_;obtain⟨P,H6,I6,q6⟩:=l;show bd (ht _ _ _ _ _ s6 P H6 _ I6 q6) λok h6 l=>?_;obtain⟨h9,t,z⟩:=l
   cases ok with
   |false=>
    rw[if_neg Px] at z⊢;obtain⟨m',hm,w7⟩:=z;show⟨m',hm,i+1,P,_,t.unpinned,T.keep _ _ _ j λb a o e=>(t.pin (b,o) (OB _ (OB _ (bx a e)))).1,λb a=>?_,w7⟩;obtain⟨o,e,d⟩:=T.obj _ _ j b a;show(t.pin (b,o) (OB _ (OB _ (bx a e)))).2.1
   |true=>
   rw[if_pos rfl] at z⊢;show bd (hk _ _ _ _ _ h6 P h9 _ t z) λkv s7 l=>?_;obtain⟨y,H7,I7,r7,q7⟩:=l;show bd (he _ _ _ _ _ s7 P H7 _ I7 q7) λvv s8 l=>?_;obtain⟨v,H8,I8,r8,F,gF,qF⟩:=l;show wQ (X:=ao X N' scope HH.objs.size s2 B f) hu I8 gF r7 r8 λe s9 I9=>?_;obtain⟨m',hm,w7⟩:=qF e;show⟨m',hm,i+1,P,_,I9.unpinned,T.keep _ _ _ j λb a o e=>(I9.pin (b,o) (OB _ (OB _ (bx a e)))).1,λb a=>?_,w7⟩;obtain⟨o,e,d⟩:=T.obj _ _ j b a;show(I9.pin (b,o) (OB _ (OB _ (bx a e)))).2.1
 show codeAny_compStart_dict K (T.self _ 0 _ _ _ hj K)
theorem y4(l:X.calm=Se)(O:fC X N' scope cap)(hi:PI X tg iter wi)(f:∀C s H ex,PG (ao X N' scope C s H ex) tg g)(i:∀C s H ex,A3 (ao X N' scope C s H ex) ifs tt)(hk:∀C s H ex,PE (ao X N' scope C s H ex) kx tk)(n:∀C s H ex,PE (ao X N' scope C s H ex) elt te)(c:o0=.dK []\/∃m,o0=.dT m 0 [])(o:X.A.units+9<cLine)(d:∀x,foldedSetIterable iter X.env x=pure x:=by intro _;rfl):PE X (.DictComp kx elt [⟨tg,iter,ifs,0⟩] scope pos) (oC wi g tt tk te o0 cap):=by
 intro b s U H Q I h;show m9 l O hi f i hk n c o I h d rfl λC D s1 u t v e p j k J q=>?_;obtain⟨m,hn,_⟩:=J.loc;show⟨m,hn,λr a=>⟨.ref D,e,iw j k J a,rfl,q⟩⟩
theorem y6{cpos pos' pos:Pos}{i:Nat}(Q:X.calm=Se)(O:fC X N' scope cap)(hi:PI X tg iter wi)(hg:∀C s H ex,PG (ao X N' scope C s H ex) tg g)(Z:∀C s H ex,A3 (ao X N' scope C s H ex) ifs tt)(hk:∀C s H ex,PE (ao X N' scope C s H ex) kx tk)(S:∀C s H ex,PE (ao X N' scope C s H ex) elt te)(V:o0=.dK []\/∃m,o0=.dT m 0 [])(hu:X.A.units+9<cLine)(K:∀x,foldedSetIterable iter X.env x=pure x)(L:X.N.Nodup)(z:X.N[i]?=Sb x)(Y:Ef X.env.scope x)(hf:X.fn x=Se\/X.env.scope.names.lookup x=Sb .local)(u:swapsWith (.DictComp kx elt [⟨tg,iter,ifs,0⟩] scope cpos) (Sb (.Name x pos')) pos.line X.env=pure Se) :
  PS X (.Assign [.Name x pos'] (.DictComp kx elt [⟨tg,iter,ifs,0⟩] scope cpos) pos) (AK (oC wi g tt tk te o0 cap) (ik i)):=by
 intro d s U H D I h;rw[exec_Assign_Name_used _ _ _ _ u];show Sm (wpAny_standAt (Sm ?_));show Sm (wpAny_mono (m9 Q O hi hg Z hk S V hu I h K rfl λC W s1 H1 fp U' B n l P J q=>?_) (λ_ n hq=>Sn (Sn hq)) λ_ _ e=>e);let M:Inv X d U B n:=iw l P J (Heap.SameBut.refl C n.heap);let F:s1.heap.objs.size<=C:=J.ok.above;let f:∀b o,s1.heap.get? b=Sb o->b≠C:=λb o e=>OG (Ov (Os e) F);obtain⟨m1,⟨oL,_,_,E,_⟩,_⟩:=id l.loc;let hL:X.env.locals≠C:=f _ _ E
 let k:∀x c,X.env.cells.lookup x=Sb c->c≠C:=λx c e=>by
  obtain⟨v,o,g,_⟩:=l.cell x c e;show f _ _ g
 let w:∀p∈X.pn++d,p.1≠C:=λp R=>f _ _ (l.pin p R).1
 let T:X.s₀.heap.objs.size<=C:=by
  show OW ?_ F;show Qk (O1 l.ok.above (Os E))
 obtain⟨m,hn,_⟩:=J.loc;show wpAny_assign_Name (i8 M L z Y (v:=.ref W) rfl (λs3 I3 j=>?_) hf);obtain⟨a,j,r⟩:=j
 let y:C≠a:=by
  rcases r with rfl|r
  ·show Ne.symm hL
  ·show Ne.symm (k _ _ r)
 show⟨m,hn.sameBut j y,λh' t=>⟨_,B,I3.junk t T hL k w J.free,q⟩⟩
end
end L2
namespace J
def i0(tg:IT)(O:Ro->Option Bool)(q B:Ro->Option KD)(Y0:Ro)(d:D):Option (Option (D×D)):=match rA tg d with
 |some ps=>if bA ps Y0=Se then(match O (setAll ps Y0) with
  |some Se=>(match q (setAll ps Y0) with
   |some k=>(match B (setAll ps Y0) with
    |some y=>if i7 y.1 y.2=Se then Sb (Sb (k.2,y.2)) else Sd
    |none=>Sd)
   |none=>Sd)
  |some Sf=>Sb Sd
  |none=>Sd) else Sd
 |none=>Sd
def y7(t:Nat)(a:List DK×List D)(k y:D):Option (List DK×List D):=match j3 k with
 |some k=>if jg t k=Se then(match aH a.1 k with
  |some j=>if a.1.Nodup then Sb (a.1,a.2.set j y) else Sd
  |none=>Sb (a.1++[k],a.2++[y])) else Sd
 |none=>Sd
def dU(t:Nat)(f:D->Option (Option (D×D))):List D->List DK×List D->Option (List DK×List D)
 |[],a=>Sb a
 |d::ds,a=>match f d with
  |some (Sb p)=>(match y7 t a p.1 p.2 with
   |some q=>dU t f ds q
   |none=>Sd)
  |some Sd=>dU t f ds a
  |none=>Sd
def jy(t:Nat)(it:Option (List Nat×List D))(f:D->Option (Option (D×D))):Option KD:=match it with
 |some (_,ds)=>if ds.length<=100000 then(match dU t f ds ([],[]) with
  |some a=>Sb (.fr (.own [] .fz),.nd (.dic t a.1) a.2)
  |none=>Sd) else Sd
 |none=>Sd
noncomputable def tq:Nat->HO
 |0=>.dK []
 |m+1=>.dT m 0 []
theorem B1:∀t,d4 K (tq t) (.dic t []) []
 |0=>.inl ⟨rfl,[],rfl,rfl,rfl⟩
 |m+1=>.inr ⟨m,rfl,[],0,rfl,rfl,rfl⟩
theorem vc:∀t xs,tq t≠.tup xs
 |0,_,h=>by cases h
 |_+1,_,h=>by cases h
section
variable {X:Cx} {Z:fA} {c:Cz}
abbrev Mv(K:Om)(f:List J.D->List DK×List J.D->Option (List DK×List J.D))(z:Nat)(q:List DK×List J.D)(ds:List J.D)(g':Gh)(Y:Ro)(H1:Hp)(D:Sj):Nat->Nat->L2.St->Hp->Prop:=λi m U' H'=>m=ds.length-i/\i<=ds.length/\∃(a:List DK×List J.D) (us:List V) (o:HO),f (ds.drop i) a=Sb q/\us.length<=i/\SE K (g'.plus λb=>b=D) Y U' H'/\
  (∀b o,H1 b=Sb o->H' b=Sb o)/\H' D=Sb o/\(∀xs,o≠.tup xs)/\d4 K o (.dic z a.1) us/\RpL K H' (Sg (g'.plus λb=>b=D)) a.2 us
theorem vd(O:av X Z c){fi:Ro->Option (List Nat×List D)}(hck:bj c scope=Se)(hi:SndI X fi tg iter)(h4:oh ⟨fy scope c.sc,ag scope,fG scope⟩ n tg=Sb t)(T:∀C s H ex,jM (ao X (ag scope) scope C s H ex) ft ifs)(h2:∀C s H ex,SndE (ao X (ag scope) scope C s H ex) fk kx)(gb:∀C s H ex,SndE (ao X (ag scope) scope C s H ex) fe elt)(h:jy z (fi Y) (i0 t ft fk fe (bi Y (ax c scope)))=Sb (kd,d)){U:L2.St}{Q:VK}(se:SE X.K g Y U H)(q:∀v H',Same H H'->VR X.K g H H' kd d v->Q v H') :
  oC (wI X tg iter) (λv U H Q=>∀C s B ex,wG (ao X (ag scope) scope C s B ex) tg v U H Q) (λU H Q=>∀C s B ex,Fp (ao X (ag scope) scope C s B ex) ifs U H Q) (λU H Q=>∀C s B ex,wE (ao X (ag scope) scope C s B ex) kx U H Q) (λU H Q=>∀C s B ex,wE (ao X (ag scope) scope C s B ex) elt U H Q) (tq z) (ax c scope) U H Q:=by
 let S:lr (ax c scope)=Se:=by
  simp only[bj,Oo] at hck;show hck.1.2
 unfold jy at h;split at h
 ·ext bs k h5;split at h
  ·ext hl;split at h
   ·ext af hm;cases h;let CO:=cR O hck;show hi Y bs k h5 g U H _ se λjj h6 H1 s1 jt sp sf D W=>?_;let F:SE X.K (g.re (jm (ax c scope))) (bi Y (ax c scope)) (cV U (ax c scope)) H1:=(se.same s1).cap S;generalize h8:g.re (jm (ax c scope))=g' at F;let gS:∀b,Sg g' b↔Sg g b:=λb=>by rw[<- h8];show mq b
    generalize hY:bi Y (ax c scope)=Yc at F hm;generalize hU:cV U (ax c scope)=Uc at F;clear hY hU
    show⟨Mv X.K (dU z (i0 t ft fk fe Yc)) z af k g' Yc H1 D,
     ⟨k.length,by simp,OS _,([],[]),[],tq z,hm,Ox _,?_,λb o e=>aj W _ _ e,ah,vc z,B1 z,.nil⟩,?_⟩
    ·show F.plus (aj W) (λb w=>w▸W) λb w=>⟨tq z,w▸ah,vc z⟩
    rintro i m U' H' ⟨rfl,gk,a,A,o,f,gi,N,kk,gD,gj,R,rl⟩
    let hb:∀b,Sg (g'.plus λb=>b=D) b↔Sx g (λb=>b=D) b:=λb=>(am b).trans (or_congr (gS b) Iff.rfl);let L:∀b o,H1 b=Sb o->b≠D:=λb o e w=>by rw[w,W] at e;cases e
    let h9:h6.P X.K (g'.plus λb=>b=D) H':=Src.mono (λb o e n w=>((hb b).mp w).elim n (L b o e)) (λb o _ e=>kk b o e) (λa e=>sf.from_t e) sp;obtain⟨j1,j2⟩:=jt i _ H' h9 N.mu;by_cases u:i<k.length
    ·let hd:k[i]?=Sb k[i]:=Ot u;obtain⟨go,yl⟩:=j2 _ hd;rw[O2 u] at f;show .inr ⟨go,λx H2 hy C s0 B ex=>?_⟩;obtain⟨s2,rx⟩:=yl x H2 hy
     cases E:i0 t ft fk fe Yc k[i] with
     |none=>unfold dU at f;rw[E] at f;cases f
     |some o1=>
      let l:=E;unfold i0 at l;split at l
      ·ext ps hr;split at l
       ·ext hu;show ur (qk (CO C s0 B ex) n h4) (iJ hr rx λvs ha C1 hn hg hk=>?_);let t1:=SE.setAll ha (N.same s2);obtain⟨t2,t3⟩:=SE.passAll ha hu (N.same s2);split at l
        ·ext hT;show T C1 hn hg hk _ Se hT _ _ _ _ t1 λH3 s3=>xM λC2 gc gd hw=>?_;split at l
         ·ext ke hs;split at l
          ·ext ye ht;split at l
           ·ext hx;cases l;obtain⟨h3,dk⟩:=ke;obtain⟨ky,dy⟩:=ye
            let j:(match y7 z a dk dy with|some M=>dU z (i0 t ft fk fe Yc) (k.drop (i+1)) M|none=>Sd)=Sb af:=by
             unfold dU at f;rw[E] at f;show f
            show h2 C2 gc gd hw _ h3 dk hs _ _ H3 _ (t1.same s3) λvk H4 s4 r4 C3 hv h1 ho=>?_;show gb C3 hv h1 ho _ ky dy ht _ _ H4 _ ((t1.same s3).same s4) λvy I s5 r5=>?_;let HR:Same H' I:=((s2.trans s3).trans s4).trans s5;let ry:=r5.sh hx ((t1.same s3).same s4).mu s5;let rk:Rp X.K I (λ_=>False) dk vk:=r4.rd.go λb o n e=>⟨s5 b o e,λw=>w⟩;let h7:I D=Sb o:=HR _ _ gD;let hh:RpL X.K I (Sg (g'.plus λb=>b=D)) a.2 A:=rl.go λb o n e=>⟨HR b o e,n⟩;let h0:Sg (g'.plus λb=>b=D) D:=(am D).mpr (.inr rfl)
            let hf:∀(p:HO) (M:List DK×List J.D) (y:List V),dU z (i0 t ft fk fe Yc) (k.drop (i+1)) M=Sb af->y.length<=i+1->(∀xs,p≠.tup xs)->d4 X.K p (.dic z M.1) y->RpL X.K I (Sg (g'.plus λb=>b=D)) M.2 y->
              ∃m',m'<k.length-i/\m'=k.length-(i+1)/\i+1<=k.length/\∃(a:List DK×List J.D) (A:List V) (o:HO),dU z (i0 t ft fk fe Yc) (k.drop (i+1)) a=Sb af/\A.length<=i+1/\SE X.K (g'.plus λb=>b=D) Yc (iI vs U') (upd I D p)/\
              (∀b o,H1 b=Sb o->upd I D p b=Sb o)/\upd I D p D=Sb o/\(∀xs,o≠.tup xs)/\d4 X.K o (.dic z a.1) A/\RpL X.K (upd I D p) (Sg (g'.plus λb=>b=D)) a.2 A:=λp M y e1 e2 e3 e4 e5=>
             ⟨_,by lia,rfl,u,M,y,p,e1,e2,SE.upd (((t2.same s3).same s4).same s5) (aV rfl) e3,λb o e=>by rw[ac (L b o e)];show HR _ _ (kk b o e),ah,e3,e4,e5.go λb o n e=>⟨by rw[ac (λw=>n (by rw[w];show h0))];show e,n⟩⟩
            let hz:A.length<sizeLine:=O1 gi (Ov u (aJ hl))
            cases r:y7 z a dk dy with
            |none=>rw[r] at j;cases j
            |some M=>
             rw[r] at j;unfold y7 at r;split at r
             ·ext k' hq;split at r
              ·ext hc;obtain⟨p1,p2⟩:=u7 h7 R hq rk hc hz;split at r
               ·ext jn hj;split at r
                ·ext ga;cases r;obtain⟨p,dp,po⟩:=p1 jn hj ga;show⟨_,dp,λe=>hf (p e) _ (A.set jn vy) j (by rw[PX];lia) (po e).1 (po e).2 (RpL.set jn hh ry)⟩
                ·cases r
               ·ext hj;cases r;obtain⟨p,dp,po⟩:=p2 hj;show⟨_,dp,λe=>hf (p e) _ (A++[vy]) j (by rw[OF,Rl];lia) (po e).1 (po e).2 (hh.append (.cons ry .nil))⟩
              ·cases r
             ·cases r
           ·cases l
          ·cases l
         ·cases l
        ·ext hT;cases l;let j:dU z (i0 t ft fk fe Yc) (k.drop (i+1)) a=Sb af:=by unfold dU at f;rw[E] at f;show f
         show T C1 hn hg hk _ Sf hT _ _ _ _ t1 λH3 s3=>xL ?_;let sQ:=s2.trans s3;show⟨k.length-(i+1),by lia,rfl,u,a,A,o,j,by lia,t2.same s3,λb o e=>sQ _ _ (kk b o e),sQ _ _ gD,gj,R,rl.go λb o n e=>⟨sQ b o e,n⟩⟩
        ·cases l
       ·cases l
      ·cases l
    ·let e:i=k.length:=by lia
     subst e;rw[P8] at f;cases f;show .inl ⟨j1 (Ox _),q _ H' (λb o e=>kk b o (s1 _ _ e)) ⟨λb=>b=D,λb w=>s1.free (w▸W),?_⟩⟩;change Tr _ _ _ _ _ _ _;unfold Tr
     show⟨D,o,A,λ_=>False,rfl,gD,R,λ_ w=>w,(λh=>nomatch h),λb=>⟨λw=>.inl ⟨rfl,w⟩,λw=>w.elim (λw=>w.2) λw=>w.elim⟩,.ofFz (rl.weak λb w=>(hb b).mpr w)⟩
   ·cases h
  ·cases h
 ·cases h
theorem ve:∀z,tq z=.dK []\/∃m,tq z=.dT m 0 []
 |0=>.inl rfl
 |m+1=>.inr ⟨m,rfl⟩
theorem B3(O:av X Z c){w:Ro->Option (List Nat×List D)}(hck:bj c scope=Se)(hns:dQ iter=Se)(hi:SndI X w tg iter)(m:oh ⟨fy scope c.sc,ag scope,fG scope⟩ n tg=Sb t)(o:∀C s H ex,jM (ao X (ag scope) scope C s H ex) ft ifs)(p:∀C s H ex,SndE (ao X (ag scope) scope C s H ex) fk kx)(l:∀C s H ex,SndE (ao X (ag scope) scope C s H ex) fe elt) :
  SndE X (λY=>jy z (w Y) (i0 t ft fk fe (bi Y (ax c scope)))) (.DictComp kx elt [⟨tg,iter,ifs,0⟩] scope pos):=by
 intro Y y d h g U H Q x q
 show ar (y4 O.calm (dO O hck) wq
  (λC s e ex a b k i v u j I r f=>wt a b k i v u j I r (f C s e ex)) (λC s e ex a b k i j I f=>f C s e ex a b I) (λC s e ex a b k i j I f=>f C s e ex a b I) (λC s e ex a b k i j I f=>f C s e ex a b I) (ve z) (O1 (QF (by decide:9<=100) _) O.tab.units) (dF hns)) (vd O hck hi m o p l h x q)
theorem tu:∃b:Bool,swapsWith (.DictComp kx elt [⟨tg,iter,ifs,0⟩] scope cp) (Sb (.Name x p)) n env=pure b:=⟨_,rfl⟩
theorem Go(O:av X Z c){S:Ro->Option (List Nat×List D)}(hl:pY c x=Se)(T:bm x c.N=Sb i)(hck:bj c scope=Se)(hns:dQ iter=Se)(hi:SndI X S tg iter)(E:oh ⟨fy scope c.sc,ag scope,fG scope⟩ n tg=Sb t)(o:∀C s H ex,jM (ao X (ag scope) scope C s H ex) ft ifs)(A:∀C s H ex,SndE (ao X (ag scope) scope C s H ex) fk kx)(B:∀C s H ex,SndE (ao X (ag scope) scope C s H ex) fe elt) :
  dS X pn (λY=>lJ pn i ((jy z (S Y) (i0 t ft fk fe (bi Y (ax c scope)))).map λy=>(y.1,y.2,Y))) (.Assign [.Name x p] (.DictComp kx elt [⟨tg,iter,ifs,0⟩] scope cp) pos):=by
 let l:=lc O hl;let hf:=(B3 O (pos:=cp) (z:=z) hck hns hi E o A B);intro Y r h g U H W Q q
 cases L:jy z (S Y) (i0 t ft fk fe (bi Y (ax c scope))) with
 |none=>dsimp only at h;rw[L] at h;cases h
 |some w=>
  obtain⟨y,d⟩:=w;dsimp only at h;rw[L] at h
  let f:∀v e,Same H e->VR X.K g H e y d v->ik i v U e W.nx:=λv e s r=>by
   obtain⟨F,R,f2⟩:=r;show iZ h q (cY s R λb w=>eV Q.mu (R b w)) (Q.plus s R λb w=>f2.dom b w) f2
  obtain⟨b,V⟩:=tu
  cases b with
  |false=>show cK (rL (by rw[O.N];show O.nd) (by rw[O.N];show aZ T) l.1 aw V l.2) (hf Y y d L g U H _ Q f)
  |true=>
   show cK (y6 O.calm (dO O hck) wq
    (λC s k ex a j P e v u M I r m=>wt a j P e v u M I r (m C s k ex)) (λC s k ex a j P e M I m=>m C s k ex a j I) (λC s k ex a j P e M I m=>m C s k ex a j I) (λC s k ex a j P e M I m=>m C s k ex a j I) (ve z) (O1 (QF (by decide:9<=100) _) O.tab.units) (dF hns)
    (by rw[O.N];show O.nd) (by rw[O.N];show aZ T) l.1 l.2 V) (vd O hck hi E o A B L Q f)
end
end J
namespace L2
open PyProof.Rows
section
variable {X:Cx} {pins:List (Sj×Obj)} {U:St} {H:Hp} {s:Sk}
theorem Inv.frz(I:Inv X pins U H s)(e:H a=Sb u)(j:s.heap.get? a=Sb ob)(h1:∀xs,u≠.tup xs)(h2:∀o v,u≠.frz o v)(i:∀ps,u≠.tbl ps)(h:∀x,u≠.own x):Inv X pins U (upd H a (.frz ob u)) s:=by
 let d:∀{b:Sj} {o:HO},H b=Sb o->o≠u->upd H a (.frz ob u) b=Sb o:=λ{b o} q n=>by
  rw[ac (λz=>by rw[z,e] at q;cases q;show n rfl)];show q
 let f:HOk X.prog X.w (upd H a (.frz ob u)) s.heap:=λb o q=>by
  by_cases g:b=a
  ·subst g;rw[ah] at q;cases q;show⟨j,(I.hok b _ e).stay (λ_ _ _ y=>y) (λc y=>d y λz=>h _ z.symm) λc xs y=>d y λz=>h1 _ z.symm⟩
  ·rw[ac g] at q;show(I.hok b o q).stay (λ_ _ _ y=>y) (λc y=>d y λz=>h _ z.symm) λc xs y=>d y λz=>h1 _ z.symm
 let k:Un X.fs [] H (upd H a (.frz ob u)) s.heap s.heap:=⟨λ_ _ q _ _ _=>q,λb o q _ _ _=>⟨o.slots,q⟩,λb o q n _=>by rw[ac (λz=>by rw[z,e] at n;cases n)];show n,λb o q _=>⟨o,q⟩,λb xs q=>d q λz=>h1 _ z.symm,λb o v q=>d q λz=>h2 _ _ z.symm,λb ps q=>⟨#[],by rw[d q λz=>i _ z.symm];simp⟩⟩;show I.un k f
end
def y8(v a:Sj):Sw->Prop:=λh=>h.IsValuesView v a
def y9:V->List V->Hp->VK->Prop:=λx xs H Q=>∃a q,x=.ref a/\xs=[]/\H a=Sb (.dK q)/\∀v,H v=Sd->Q (.ref v) (upd H v (.ext (y8 v a)))
theorem wR:Iu X "dict.values" y9:=by
 intro b s U H x n v t Q I r g h;obtain⟨a,d,rfl,rfl,e,q⟩:=h;cases g;cases(r);obtain⟨z,f,i,j,c⟩:=pM I.hok e;let l:s.TypeIs (.ref a) "dict":=c.typeIs;show call_meetsIn F.slot_dict_values l F.entry_dict_values (F.args_dict_values_1 _) (meets_dict_values (aF X.prog X.w) a f) ⟨⟨i,c⟩,?_⟩;show⟨.ref s.heap.objs.size,_,I.laid (λ_ _ q=>Oq _ q) (Ox _) ?_,rfl,q _ (I.hok.fresh (Ox _))⟩;show⟨⟨_,OJ _ rfl,rfl,rfl⟩,⟨_,OJ _ rfl⟩,λp m ⟨o,e1,e2⟩ k=>⟨o,k o e1,e2⟩⟩
noncomputable def K0(a:Sj)(ob:Obj)(q:List (ay×V)):It:=
 ⟨λi H=>H a=Sb (.frz ob (.dK q))/\i<q.length,λi H x H'=>H'=H/\∃p,q[i]?=Sb p/\x=p.2,λi H=>H a=Sb (.frz ob (.dK q))/\q.length<=i⟩
theorem wS{P:Sr}{w:Ss}{K:Om}{tg:Si}{ep:Nat}{ob:Obj}{es:Array DictEntry}{g:List (ay×V)}(a it:Sj)(q:ob.data=.dict es ep):pw P w K tg (K0 a ob g) [it] it (λi h=>h.IsValIter it a i g.length ep) where
 mem:=by simp
 obj:=λi h f b n=>by
  let e:b=it:=by simpa using n
  subst e;obtain⟨o,e,c,d⟩:=f;show⟨o,e,λv z=>by rw[d] at z;cases z⟩
 keep:=λi h M f k=>f.at λo e=>k it (by simp) o e
 item:=by
  intro X F Q D hc i l s U H E I A f Z;subst F Q D;obtain⟨W,hx⟩:=Z;obtain⟨B,z,hd,r,j,R⟩:=(I.hok a _ W);obtain⟨N,u⟩:=R.dictAt;obtain⟨o',T,x,h2,t,h4⟩:=id u;rw[B] at x;cases x;rw[q] at t;cases t;let hl:r.length=g.length:=j.length.symm;obtain⟨S,C,f2,Y,L,O⟩:=A it (by simp);rw[<- hl] at f;obtain⟨y,hy⟩:∃y,r[i]?=Sb y:=⟨r[i]'(by lia),Ot (by lia)⟩;obtain⟨k,v⟩:=y;show wpAny_pyNext_values_item f u hy λM m sb=>?_;let I1:Inv X l U H { s with heap:=M }:=I.turned (λb o n e=>(sb.2 b n).trans e) S C Y L O;obtain⟨p,hp,_,e2⟩:=Paired.get j hy;rw[hl] at m;obtain⟨oi,ei,c,d⟩:=id m;show⟨_,rfl,px ei c d (by decide) ⟨p.2,H,I1,e2,⟨rfl,p,hp,rfl⟩,m,λb n=>(A b n).1⟩⟩
 done:=by
  intro X F Q D hc i l s U H E I A f Z;subst F Q D;obtain⟨W,hx⟩:=Z;obtain⟨B,z,hd,r,j,R⟩:=(I.hok a _ W);obtain⟨N,u⟩:=R.dictAt;obtain⟨o',T,x,h2,t,h4⟩:=id u;rw[B] at x;cases x;rw[q] at t;cases t;let hl:r.length=g.length:=j.length.symm;obtain⟨S,C,f2,Y,L,O⟩:=A it (by simp);rw[<- hl] at f;show wpAny_pyNext_values_end (I.ok.hd hc) f u (O7 (by lia)) λM eb=>⟨rfl,I.turned (λb o n e=>eb b o n e) S C Y L O⟩
 self:=λ_ _ _ _ _ f h=>wpAny_pyIter_valiter f h
abbrev za(R:It->Hp->Prop):VK:=λy H2=>∃v a q,y=.ref v/\H2 v=Sb (.ext (y8 v a))/\H2 a=Sb (.dK q)/\∀ob,R (K0 a ob q) (upd H2 a (.frz ob (.dK q)))
def J4(K:Om)(tl:TE):TI:=λU H R=>Iz K "dict" y9 tl U H (za R)
theorem B4{K:Om}{a:Sj}{b:List (ay×V)}{H:Hp}{R:It->Hp->Prop}(e:H a=Sb (.dK b))(q:∀v ob,H v=Sd->R (K0 a ob b) (upd (upd H v (.ext (y8 v a))) a (.frz ob (.dK b)))):KP K "dict" (.ref a) H/\y9 (.ref a) [] H (za R):=
 ⟨.inr ⟨rfl,b,e⟩,a,b,rfl,rfl,e,λv c=>⟨v,a,b,rfl,ah,by rw[ac (λz=>by rw[z,c] at e;cases e)];show e,λob=>q v ob c⟩⟩
theorem B6{X:Cx}{tg l:Si}{tl:TE}{p cp:Pos}(hl:PE X l tl)(f:attributeBase l "values" X.env (eval l X.env)=eval l X.env)(d:(p.endLine==cp.line)=Se):PI X tg (.Call (.Attribute l "values" p) [] [] cp) (J4 X.K tl):=by
 intro c s U H R I h;show bd (xE F.plainAttrs_dict F.slot_dict_values F.type_dict_values wR hl f d c s U H (za R) I h) λy s1 A=>?_;obtain⟨x,D,i,P,v,a,j,L,B,n,q⟩:=A;subst L;cases(P);obtain⟨O,_,_⟩:=(i.hok v _ B);obtain⟨z,W,r,m,S⟩:=pM i.hok n;obtain⟨E,t⟩:=S.dictAt;obtain⟨T,V,u,Z,M,Y⟩:=id t;let g:r.length=j.length:=m.length.symm;show wpAny_pyIter_values O t ?_;let C:Inv X c U D { s1 with heap:=s1.heap.push { cls:=.type "dict_valueiterator",data:=.fields #[.ref a,.int 0 0,.int r.length 0,.int E 0] } }:=i.kept λb o e=>Oq _ e
 let Q:=C.frz n (Oq _ u) (λ_ z=>nomatch z) (λ_ _ z=>nomatch z) (λ_ z=>nomatch z) (λ_ z=>nomatch z)
 show⟨s1.heap.objs.size,[s1.heap.objs.size],_,_,_,rfl,Q,wS a _ M,⟨_,OJ _ rfl,rfl,by rw[g];rfl⟩,λb N=>?_,q T⟩;let e:b=s1.heap.objs.size:=by simpa using N
 subst e;let k:s1.heap.objs.size≠a:=λw=>Pa _ (by have:=Os u;rw[<- w] at this;show this);show i.fpOk (Ox _) ?_;rw[ac k];show i.hok.fresh (Ox _)
end L2
namespace J
noncomputable def zb(i:Nat)(Y:Ro):IR:=match Y[i]? with
 |some (Sb ⟨Sf,.own [] .fz,.nd (.dic 0 ks) ds⟩)=>Sb ([],ds,Y.set i Sd)
 |_=>Sd
theorem Mw{b:List (ay×V)}:iF K (K0 a ob b) (.ob a (.frz ob (.dK b)) (b.map (·.2)) ds) ds:=by
 rintro i g H ⟨e,f⟩ m
 let hl:ds.length=b.length:=by have:=f.len;simpa using this.symm
 show⟨λhi=>⟨e,by lia⟩,λd c=>?_⟩;obtain⟨x,e1,e2⟩:=f.getD c;let hi:i<ds.length:=(OA.mp c).1;show⟨⟨e,by lia⟩,λy k h=>?_⟩;obtain⟨rfl,p,j,rfl⟩:=h;rw[Op,j] at e1;cases e1;show⟨Same.refl _,e2⟩
section
variable {X:Cx} {Z:fA} {c:Cz}
theorem J5(O:av X Z c){x:Str}{i:Nat}{tg:Si}{p N cp:Pos}(hc:eR c x=Sb i)(s:attributeBase (.Name x p) "values" X.env (eval (.Name x p) X.env)=eval (.Name x p) X.env)(r:(N.endLine==cp.line)=Se):lD X (zb i) tg (.Call (.Attribute (.Name x p) "values" N) [] [] cp):=by
 intro Y bs S Y1 h g U H R C q;unfold zb at h;split at h
 ·ext ks ha e;cases h;obtain⟨v,F0,e1,e2,e3⟩:=C.slot i _ e;unfold Tr at e3;obtain⟨a,o,xs,M,rfl,ga,V,m1,m2,T,D⟩:=e3;rcases V with⟨_,f,rfl,ek,rfl⟩|⟨m,h0,_⟩
  ·let A:g a=Sb (Sb i):=e2 a ((T a).mpr (.inl ⟨rfl,rfl⟩));let rl:RpL X.K H (λb=>Sg g b/\¬M b) S (f.map (·.2)):=TrL.rp (λb z=>z) D;let I:Sg g a/\¬M a:=⟨by rw[Sg,A];simp,m1 rfl⟩
   let y:∀(j:Nat) (t:Sl),(Y.set i Sd)[j]?=Sb (Sb t)->j≠i:=λj t l z=>by
    subst z;let B:=(OA.mp l).1;rw[PX] at B;rw[OO B] at l;cases l
   ·show iz (B6 aw s r) (eY O hc p e1 (B4 ga λv L hv=>?_));let nv:∀b o,H b=Sb o->b≠v:=λb o e z=>by rw[z,hv] at e;cases e
    let d:∀b o,b≠a->H b=Sb o->upd (upd H v (.ext (y8 v a))) a (.frz L (.dK f)) b=Sb o:=λb o n e=>by rw[ac n,ac (nv b o e)];show e
    let E:SE X.K g (Y.set i Sd) U (upd (upd H v (.ext (y8 v a))) a (.frz L (.dK f))):=by
     show⟨λj t l=>?_,λb z=>?_,by rw[PX];show C.len⟩
     ·let P:=y j t l;rw[ON (Ne.symm P)] at l;obtain⟨v',F,q1,Q,W⟩:=C.slot j t l;show⟨v',F,q1,Q,W.go (λb o k e=>d b o (λz=>?_) e) λb o _ n=>n⟩;subst z;rcases k with k|k
      ·show k (by rw[Sg,A];simp)
      ·have:=Q b k;rw[A] at this;cases this;show P rfl
     ·obtain⟨o,e,n⟩:=C.mu b z;by_cases k:b=a
      ·subst k;show⟨_,ah,λxs z=>nomatch z⟩
      ·show⟨o,d b o k e,n⟩
    let u:=ox (F:=λ_=>False) E (λ_ z=>z.elim) rfl λj t l=>.inl ⟨y j t l,l⟩;rw[aW λ_ z=>z] at u;show q _ (.ob a (.frz L (.dK f)) (f.map (·.2)) S) (g.off i) _ ⟨λb o n e=>d b o (λz=>n i (z▸A)) e,λb=>((km (H:=H) (F:=λ_=>False) λ_ z=>z.elim).out b),λb j z=>.inl ⟨j,(lG z).1⟩,λ_ z=>z.elim,λb o e=>?_⟩ u Mw ⟨ah,rl.go λb o n e=>⟨d b o (λz=>n (by rw[z];show I)) e,λz=>n ⟨(jP z).1,λw=>(jP z).2 (e2 b ((T b).mpr (.inr w)))⟩⟩⟩ (.inl (yM A));by_cases k:b=a
    ·subst k;show⟨_,ah⟩
    ·show⟨o,d b o k e⟩
  ·cases h0
 ·cases h
end
end J
namespace G
open PySem PySem.Spec PySem.Calls PyProof.Rows L2
theorem tw:typeLookup (.type "zip") "keys" = pure Sd:=am_miss_of_fast (by kernel_rfl)
theorem gE:typeLookup (.type "zip") "__getattr__" = pure Sd:=by rw[typeLookup_type,builtinLookup_eq_fast];kernel_rfl
theorem d6:entryFor table "zip.__getattribute__" = Sb Builtin.«object.__getattribute__»:=
 entryFor_alias (id':="object.__getattribute__") (by kernel_rfl) (by nofun) (by nofun) (by kernel_rfl)
theorem lN(a:Sj)(fs:Array Sh)(k:Array (Option Sh))(name:Str)(u:Tok)(f:typeLookup (.type "zip") name=pure Sd)(b:(["__module__","__name__","__qualname__","__doc__","__annotations__"]:List Str).contains name=Sf)(e:name.length+100<=sizeLine) :
  Meets (Builtin.«object.__getattribute__» ⟨[.ref a,.str name u],[]⟩) (λA R s=>s.heap.get? a=Sb { cls:=.type "zip",dict:=Sd,data:=.fields fs,slots:=k }/\raisesAttr (.ref a) name A R s):=
 Meets.of_wp λh w A R s c=>by
  obtain⟨l,g,d,m,j⟩:=s;obtain⟨i,c⟩:=c;let n:(⟨l,g,d,m,j⟩:Sk).TypeIs (.ref a) "zip":=⟨_,i,rfl⟩;unfold Builtin.«object.__getattribute__»
  repeat (any_goals (first|assumption|wp_step))
  simp only[b,O8,if_false]
  repeat (any_goals (first|assumption|wp_step))
  show wpAny_raiseAttrError c.1 c.2 (attrMsg_fits (by nofun) e)
theorem B7{A:Sv}{s:Sk}{Q:Option Sh->Sk->Prop}(g1:s.heap.get? a=Sb { cls:=.type "zip",dict:=Sd,data:=.fields fs,slots:=sl })(f:A.handled=Sd)(q:∀h' tk,(∀b u,s.heap.get? b=Sb u->h'.get? b=Sb u)->Q Sd { s with heap:=h',toks:=tk }):Sq (So prog w) A (getAttr? (.ref a) "keys") Q E s:=by
 obtain⟨j,g,d,tk,c⟩:=s;let e:∀t,(⟨j,g,d,t,c⟩:Sk).TypeIs (.ref a) "zip":=λ_=>⟨_,g1,rfl⟩;let k1:=sub_AttributeError;let p:=PySem.F.slot_zip_getattribute.lookup;let r:=PySem.F.slot_zip_getattribute.bind (.ref a);let m:=gE;unfold getAttr? getAttrBy? getAttrBy;let i:(("keys":Str).length+100<=sizeLine):=by decide
 repeat (any_goals (first|assumption|show e _|((with_reducible show Sq _ _ (call (Value.builtin "zip.__getattribute__") _ _) _ _ _);show call_meets PySem.F.slot_zip_getattribute (e _) d6 (PySem.F.args_zip_getattribute_2 _ _) (lN a fs sl "keys" _ tw (by decide) i) ⟨g1,f,λl h e1 n1=>?_⟩)|wp_step))
 obtain⟨o,n,k⟩:=n1.there;unfold getattributeRaised;let tE:∀t,(⟨l,g,d,t,c⟩:Sk).TypeIs (.ref e1) "AttributeError":=λ_=>⟨_,k,rfl⟩
 repeat (any_goals (first|assumption|show tE _|wp_step))
 all_goals show q _ _ n1.keeps
open PySem PySem.Spec PySem.Calls PyProof.Rows L2
abbrev Dy(h:Sw)(z iA oA:Sj)(q B:Sh):Prop:=
 h.get? z=Sb { cls:=.type "zip",dict:=Sd,data:=.fields #[q,B,.bool Sf,.ref iA,.ref oA],slots:=#[] }
section
variable {prog:Sr} {w:Ss} {A:Sv} {E:Sh->Sk->Prop} {s:Sk}
theorem qH{Q:Option Obj->Sk->Prop}(b:s.heap.get? a=Sb o)(h:Q (Sb o) s):Sq (So prog w) A (loadIfAlive a) Q E s:=λZ p _=>by
 change Sem.wp _ _ (.loadIfAlive a .pure) _ _ _ _;rw[Sem.wp,b];show(Sem.wp_pure ..).mpr h
theorem nc{z iA oA T:Sj}{e:Bool}{o:Obj}{Q:Bool->Sk->Prop}(b:Dy s.heap z iA oA (SM T) (.bool e))(f:s.heap.get? T=Sb o)
  (hQ:∀a,Dy a z iA oA (SM T) (.bool Se)->Heap.SameBut z s.heap a->Q Sf { s with heap:=a }):Sq (So prog w) A (Builtin.SmallTypes.ownedTupleIsFree (.ref z)) Q E s:=by
 unfold Builtin.SmallTypes.ownedTupleIsFree;show Sm (wpAny_field b rfl rfl ?_);change Sq _ _ (loadIfAlive ((T:Int).toNat) >>= _) _ _ _;rw[Ph];show Sm (qH f ?_);show Sm (wpAny_field b rfl (x:=.bool e) rfl ?_)
 cases e with
 |true=>
  rw[if_neg (by decide)];show Sn (hQ s.heap b ⟨rfl,λ_ _=>rfl⟩)
 |false=>
  rw[if_pos (by decide)];show Sm (wpAny_setField_rec b (by simp) λa d c=>Sn (hQ a d c))
theorem mB{z iA oA i1 i2 l1 l2 T:Sj}{k1 n:Nat}{xs ys:Array Sh}{x y:Sh}{o:Obj}{Q:Sh->Sk->Prop}(D:ZipApart z iA oA i1 i2 l1 l2)(g:Dy s.heap z iA oA (SM T) (.bool f1))(I:s.heap.get? T=Sb o)(i:IsPair s.heap iA (.ref i1) (.ref i2))(h1:s.heap.IsListIter i1 l1 k1)(h2:s.heap.IsListIter i2 l2 n)(p:s.heap.IsList l1 xs)(q:s.heap.IsList l2 ys)(F:xs[k1]?=Sb x)(C:ys[n]?=Sb y)(H:∀h',Dy h' z iA oA (SM T) (.bool Se)->h'.IsListIter i1 l1 (k1+1)->h'.IsListIter i2 l2 (n+1)->IsPair h' s.heap.objs.size x y->h'.objs.size=s.heap.objs.size+1->
   (∀c o,c≠z->c≠i1->c≠i2->s.heap.get? c=Sb o->h'.get? c=Sb o)->Q (.ref s.heap.objs.size) { s with heap:=h' }) :
  Sq (So prog w) A (Builtin.«zip.__next__» ⟨[.ref z],[]⟩) (λk u=>∃v,k=.done (.ret v)/\Q v u) E s:=by
 change Sq _ _ (field (.ref z) 2 >>= _) _ _ _;show Sm (wpAny_field g rfl rfl ?_);show Sm (wpAny_field g rfl rfl ?_);show Sm (wpAny_seqItems i rfl ?_);show Sm (nc g I λK h a=>?_);simp only[O8,if_false];rw[<- Qj];simp only[QC,QG];show Sm (Sm (Sm (SB ?_)));show Sm (wpAny_nextOf_list_item (h1.extBut a.extBut D.i1z) (p.extBut a.extBut D.l1z) F λL l b=>Sn ?_);show Sn ?_;show Sm (Sm (SB ?_))
 show Sm (wpAny_nextOf_list_item ((h2.extBut a.extBut D.i2z).extBut b.extBut D.i12.symm)
  ((q.extBut a.extBut D.l2z).extBut b.extBut D.l2i1) C λt m d=>Sn ?_)
 show Sn (Sn ?_);change Sq _ _ (newTuple [x,y] >>= _) _ _ { s with heap:=t };show Sm (wpAny_newTuple ?_);show Sn ⟨_,rfl,?_⟩;let f:t.objs.size=s.heap.objs.size:=by rw[d.1,b.1,a.1]
 let B:∀{c:Sj} {o:Obj},c≠z->c≠i1->c≠i2->s.heap.get? c=Sb o->(t.push { cls:=.type "tuple",data:=.seq [x,y].toArray }).get? c=Sb o:=λc1 r j e=>
  Oq _ (d.extBut _ _ j (b.extBut _ _ r (a.extBut _ _ c1 e)))
 rw[f];show H _ (Oq _ (d.extBut _ _ D.i2z.symm (b.extBut _ _ D.i1z.symm h))) ((l.extBut d.extBut D.i12).at λo e=>Oq _ e) (m.at λo e=>Oq _ e) (by rw[<- f];show OJ _ rfl) (by rw[Pn,f]) λc o c1 r j e=>B c1 r j e
theorem wU{z iA oA i1 i2 l1 l2 T:Sj}{k1 d:Nat}{xs ys:Array Sh}{x y:Sh}{o:Obj}{Q:Option Sh->Sk->Prop}(D:ZipApart z iA oA i1 i2 l1 l2)(g:Dy s.heap z iA oA (SM T) (.bool f1))(q:s.heap.get? T=Sb o)(b:IsPair s.heap iA (.ref i1) (.ref i2))(h1:s.heap.IsListIter i1 l1 k1)(h2:s.heap.IsListIter i2 l2 d)(e:s.heap.IsList l1 xs)(f:s.heap.IsList l2 ys)(i:xs[k1]?=Sb x)(h:ys[d]?=Sb y)(l:∀h',Dy h' z iA oA (SM T) (.bool Se)->h'.IsListIter i1 l1 (k1+1)->h'.IsListIter i2 l2 (d+1)->IsPair h' s.heap.objs.size x y->h'.objs.size=s.heap.objs.size+1->
   (∀c o,c≠z->c≠i1->c≠i2->s.heap.get? c=Sb o->h'.get? c=Sb o)->Q (Sb (.ref s.heap.objs.size)) { s with heap:=h' }):Sq (So prog w) A (pyNext (.ref z)) Q E s:=by
 let a:s.TypeIs (.ref z) "zip":=⟨_,g,rfl⟩;unfold pyNext
 show Sm (wpAny_attempt (wpAny_callSpecial?_slot a F.slot_zip_next
  (SO F.slot_zip_next a F.entry_zip_next (mB D g q b h1 h2 e f i h λh' n p j k r m=>Sn (l h' n p j k r m)) (F.args_zip_next_1 _))))
theorem zc{z iA oA i1 i2 l1 l2 T:Sj}{k1:Nat}{xs:Array Sh}{o:Obj}{Q:Option Sh->Sk->Prop}(q:A.handled=Sd)(D:ZipApart z iA oA i1 i2 l1 l2)(d:Dy s.heap z iA oA (SM T) (.bool f1))(r:s.heap.get? T=Sb o)(f:IsPair s.heap iA (.ref i1) (.ref i2))(h1:s.heap.IsListIter i1 l1 k1)(g:s.heap.IsList l1 xs)(k:xs[k1]?=Sd)(m:∀h',(∀c o,c≠z->c≠i1->s.heap.get? c=Sb o->h'.get? c=Sb o)->Q Sd { s with heap:=h' }):Sq (So prog w) A (pyNext (.ref z)) Q E s:=by
 let b:s.TypeIs (.ref z) "zip":=⟨_,d,rfl⟩;unfold pyNext;show Sm (wpAny_attempt (wpAny_callSpecial?_slot b F.slot_zip_next (SO F.slot_zip_next b F.entry_zip_next ?_ (F.args_zip_next_1 _))));change Sq _ _ (field (.ref z) 2 >>= _) _ _ _;show Sm (wpAny_field d rfl rfl ?_);show Sm (wpAny_field d rfl rfl ?_);show Sm (wpAny_seqItems f rfl ?_);show Sm (nc d r λu l a=>?_);simp only[O8,if_false];rw[<- Qj];simp only[QC,QG];show Sm (Sm (Sm (SB ?_)));show Sm (wpAny_nextOf_list_end q (h1.extBut a.extBut D.i1z) (g.extBut a.extBut D.l1z) k λv e h n=>?_);obtain⟨t,i,j⟩:=n;show Sm (wpAny_isInstance ⟨t,i,j⟩ isSubtype_stop ?_);show Sn (m _ λc o c1 p x=>h _ _ p (a.extBut _ _ c1 x))
end
open PySem PySem.Spec PySem.Calls PyProof.Rows L2
def ZSt(z iA oA i1 i2 l1 l2 d:Sj)(xs ys:Array Sh)(j:Nat)(h:Sw):Prop:=
 ∃(q:Sh) (B:Bool),Dy h z iA oA q (.bool B)/\((q=.none/\B=Sf)\/∃(T:Sj) (o:Obj),q=SM T/\h.get? T=Sb o/\T≠z/\T≠i1/\T≠i2/\T≠oA/\T≠d)/\IsPair h iA (.ref i1) (.ref i2)/\(∃a b,IsPair h oA a b)/\h.IsListIter i1 l1 j/\h.IsListIter i2 l2 j/\h.IsList l1 xs/\h.IsList l2 ys
section
variable {prog:Sr} {w:Ss} {A:Sv} {E:Sh->Sk->Prop} {s:Sk} {z iA oA i1 i2 l1 l2 d:Sj} {xs ys:Array Sh} {j:Nat}
theorem ZSt.keep{h h':Sw}(D:ZipApart z iA oA i1 i2 l1 l2)(hd:∀c∈[z,iA,oA,i1,i2,l1,l2],c≠d)(st:ZSt z iA oA i1 i2 l1 l2 d xs ys j h)(k:∀c o,c≠d->h.get? c=Sb o->h'.get? c=Sb o):ZSt z iA oA i1 i2 l1 l2 d xs ys j h':=by
 obtain⟨u,t,q,v,f,⟨a,b,l⟩,w,p,i,m⟩:=st;show⟨u,t,k z _ (hd z (by simp)) q,v.imp id λ⟨T,o,e,g,n1,n2,r,s,n⟩=>⟨T,o,e,k T _ n g,n1,n2,r,s,n⟩,k iA _ (hd iA (by simp)) f,⟨a,b,k oA _ (hd oA (by simp)) l⟩,w.at λo e=>k i1 o (hd i1 (by simp)) e,p.at λo e=>k i2 o (hd i2 (by simp)) e,i.at λo e=>k l1 o (hd l1 (by simp)) e,m.at λo e=>k l2 o (hd l2 (by simp)) e⟩
theorem zd{x y:Sh}{Q:Option Sh->Sk->Prop}(D:ZipApart z iA oA i1 i2 l1 l2)(hd:∀c∈[z,iA,oA,i1,i2,l1,l2],c≠d)(H:s.heap.get? d=Sb od)(st:ZSt z iA oA i1 i2 l1 l2 d xs ys j s.heap)(B:xs[j]?=Sb x)(v:ys[j]?=Sb y)(C:∀h',ZSt z iA oA i1 i2 l1 l2 d xs ys (j+1) h'->IsPair h' s.heap.objs.size x y->(∀c o,c∉[z,oA,i1,i2]->s.heap.get? c=Sb o->h'.get? c=Sb o)->Q (Sb (.ref s.heap.objs.size)) { s with heap:=h' }):Sq (So prog w) A (pyNext (.ref z)) Q E s:=by
 obtain⟨N,M,m,L,f,⟨a,b,k⟩,t,n,g,h⟩:=st;let l:∀{c:Sj} {o:Obj},s.heap.get? c=Sb o->s.heap.objs.size≠c:=λe=>PB (Os e);let r:s.heap.objs.size≠i1:=by obtain⟨_,e,_⟩:=t;show l e
 let p:s.heap.objs.size≠i2:=by obtain⟨_,e,_⟩:=n;show l e
 rcases L with⟨rfl,rfl⟩|⟨T,o,rfl,F,n1,n2,u,I,K⟩
 ·show wpAny_pyNext_zip_item D m f k t n g h B v λh' b1 b2 b3 b4 b5 b6 hk=>C h' ⟨_,Sf,b1,.inr ⟨_,_,rfl,b5,l m,r,p,l k,l H⟩,hk _ _ D.TIz D.TITO D.TIi1 D.TIi2 f,⟨_,_,b2⟩,b3,b4,g.at λo e=>hk _ o D.l1z D.l1TO D.l1i1 D.l1i2 e,h.at λo e=>hk _ o D.l2z D.l2TO D.l2i1 D.l2i2 e⟩ b5 λc o i e=>?_;show hk c o (λq=>i (by simp[q])) (λq=>i (by simp[q])) (λq=>i (by simp[q])) (λq=>i (by simp[q])) e
 ·show wU D m F f t n g h B v λh' b1 b3 b4 b5 b6 hk=>C h' ⟨_,Se,b1,.inr ⟨T,o,rfl,hk _ _ n1 n2 u F,n1,n2,u,I,K⟩,hk _ _ D.TIz D.TIi1 D.TIi2 f,⟨a,b,hk _ _ D.TOz D.TOi1 D.TOi2 k⟩,b3,b4,g.at λo e=>hk _ o D.l1z D.l1i1 D.l1i2 e,h.at λo e=>hk _ o D.l2z D.l2i1 D.l2i2 e⟩ b5 λc o i e=>?_;show hk c o (λq=>i (by simp[q])) (λq=>i (by simp[q])) (λq=>i (by simp[q])) e
theorem B8{Q:Option Sh->Sk->Prop}(p:A.handled=Sd)(D:ZipApart z iA oA i1 i2 l1 l2)(st:ZSt z iA oA i1 i2 l1 l2 d xs ys j s.heap)(m:xs[j]?=Sd)
  (hQ:∀g,(∀c o,c∉[z,oA,i1,i2]->s.heap.get? c=Sb o->g.get? c=Sb o)->Q Sd { s with heap:=g }):Sq (So prog w) A (pyNext (.ref z)) Q E s:=by
 obtain⟨F,C,n,u,h,⟨a,b,k⟩,r,t,i,l⟩:=st;rcases u with⟨rfl,rfl⟩|⟨T,o,rfl,v,n1,n2,x,y,B⟩
 ·show wpAny_pyNext_zip_end p D n h k r t i l (.inl m) λg hk=>hQ g λc o f e=>hk c o (λq=>f (by simp[q])) (λq=>f (by simp[q])) (λq=>f (by simp[q])) (λq=>f (by simp[q])) e
 ·show zc p D n v h r i m λg hk=>hQ g λc o f e=>hk c o (λq=>f (by simp[q])) (λq=>f (by simp[q])) e
end
theorem B9{A:Sv}{R:Result->Sk->Prop}{xs ys:Array Sh}{ps:List (ay×V)}(hh:A.in1.handled=Sd)(D:ZipApart z iA oA i1 i2 l1 l2)(hd:∀c∈[z,iA,oA,i1,i2,l1,l2],c≠d)(hn:ps.length=xs.size)(hl:xs.size<=sizeLine)(U:∀(i:Nat) (p:ay×V),ps[i]?=Sb p->∃t u,xs[i]?=Sb t/\ys[i]?=Sb u/\RelV (kV p.1) t/\RelV p.2 u):∀(k j:Nat) (s:Sk) (vs:List (ay×Sh)),j+k=xs.size->ZSt z iA oA i1 i2 l1 l2 d xs ys j s.heap->
  s.heap.DictOf (aF prog w) d vs->KV (bp (ps.take j)) vs->
  (∀h X r,h.DictOf (aF prog w) d r->KV (bp ps) r->(∀b o,b∉[z,oA,i1,i2,d]->s.heap.get? b=Sb o->h.get? b=Sb o)->R (.ok (.ret .none)) { s with heap:=h,toks:=X })->
  codeAny (So prog w) A (.builtin "dict.update.loop" ⟨[.ref d,.ref z,SM (j:Int),.none],[]⟩) R s:=by
 let P:d∉[z,oA,i1,i2]:=λl=>by
  simp only[OD,O0,or_false] at l
  rcases l with e|e|e|e<;>show hd _ (by simp) e.symm
 intro k
 induction k with
 |zero=>
  intro j s vs e1 M H m g;let W:j=xs.size:=by lia
  subst W;show codeAny_builtin gq ?_;rw[Around.under_plainId cq _];show Sm (B8 hh D M (Rh (Ox _)) λh a=>?_);show Sm (Sn (Sn ?_));obtain⟨o,I,B,v,y⟩:=H;rw[<- hn,OR] at m;show g h s.toks vs ⟨o,I,B,a d o P v,y⟩ m λb o n q=>a b o (λl=>n (O5 [d] l)) q
 |succ k T=>
  intro j s vs e1 M H m g;let lt:j<xs.size:=by lia
  obtain⟨t,u,hx,Z,rt,S⟩:=U j (ps[j]'(by lia)) (Ot (by lia));show codeAny_builtin gq ?_;rw[Around.under_plainId cq _];obtain⟨o,I,B,v,y⟩:=id H;show Sm (zd D hd v M hx Z λh C O a=>?_);let E:h.DictOf (aF prog w) d vs:=⟨o,I,B,a d o P v,y⟩
  let hz:vs.length<=sizeLine:=by
   have:=cP j ps;rw[<- m.length]
   lia
  show Sm (SB (Sm (wpAny_tryCatch ?_)));unfold Builtin.Dict.pairItems;show Sm (wpAny_typeOf ⟨_,O,rfl⟩ ?_);rw[if_pos (by decide)];show Sm (wpAny_seqItems O rfl (Sn ?_));show SB (wpAny_dictSet_pairs (jG rt) E λh2 x N=>?_);show Sn ⟨plainId_quiet cq _,T (j+1) _ _ (by lia) (C.keep D hd λc o n e=>(N.2 c n).trans e) x ?_ λY K F Q L f=>?_⟩
  ·rw[Pp,Ot (by lia)];change KV (bp (ps.take j++[ps[j]'(by lia)])) _;rw[fD];show m.put _ S
  ·show g Y K F Q L λb o n q=>f b o n ((N.2 b (λe=>n (by simp[e]))).trans (a b o (λl=>n (O5 [d] l)) q))
open PySem PySem.Spec PySem.Calls PyProof.Rows L2
def Mx(K:Om)(ta:TA):TE:=λU H Q=>ta U H λvs H1=>∃(l l2:Sj) (ps:List (ay×V)),vs=[.ref l,.ref l2]/\SqL K H1 l (ps.map λp=>kV p.1)/\SqL K H1 l2 (ps.map (·.2))/\∀d,H1 d=Sd->Q (.ref d) (upd H1 d (.dK (bp ps)))
theorem Ca{X:Cx}{a b:Si}(x:X.calm=Se)(hg:Gl X "dict")(hm:X.mg "dict" = Sd)(hr:Gl X "zip")(ht:X.mg "zip" = Sd)(ha:PA X [a,b] ta)(hs:Sy [a,b] X.env=[(Sf,eval a X.env),(Sf,eval b X.env)])(E:Sy [b] X.env=[(Sf,eval b X.env)]) :
  PE X (.Call (.Name "dict" p) [.Call (.Name "zip" p2) [a,b] [] pos2] [] pos) (Mx X.K ta):=by
 intro g s U H Q I h;show wpAny_Call_Name_kw (dJ I hg hm (show bootBuiltins "dict" = Sb (.type "dict") by nofun) ?_ (by decide) (by decide));show PyProof.Rows.callWith_type1 ?_ rfl rfl;show spliced_cons ?_;show Call_ (dJ I hr ht boot_zip (PyProof.Rows.callWith_type1 (bd (ha pos2 g s U H _ I h) λus s1 ⟨vs,H1,t,L,q1⟩=>?_) (by rw[hs,E]) (by rw[E];rfl)));obtain⟨l,l2,W,e,hq,hi,q⟩:=q1;subst e
 cases L with
 |cons rx L=>cases L with
  |cons ry L=>
   cases L;cases rx;cases ry;obtain⟨M,rv,pl,Z⟩:=t.list hq;obtain⟨R,S,v,hu⟩:=t.list hi;show call_zip_2 pl.isList v.isList λd P T C hf ho B hk=>?_;show spliced_nil ?_;let I2:Inv X g U H1 { s1 with heap:=d }:=t.kept hk;let hh:X.A.in1.in1.handled=Sd:=t.ok.hd x;let Y:s1.heap.objs.size<=d.objs.size:=by rw[B];show Pd _ _
   let D:∀k,k<5->d.objs.size≠s1.heap.objs.size+k:=λk hk e=>by rw[B] at e;show absurd (Nat.add_left_cancel e) (by lia)
   show callType_codes (Q₁:=λN s₁=>N=.ref d.objs.size/\s₁={ s1 with heap:=d.push { cls:=.type "dict",data:=.dict #[] } }) PySem.F.kt_called_dict (PySem.F.kt_typeCall_dict_1 _) PySem.F.entry_dict_init (kt_code_dict_new _ ⟨rfl,rfl⟩) ?_
   rintro N s3 ⟨rfl,rfl⟩
   let dn:(d.push { cls:=.type "dict",data:=.dict #[] }).DictOf (aF X.prog X.w) d.objs.size []:=Heap.DictOf.new d;show⟨dn.typeIs,PySem.F.args_dict_init_2 _ _,?_⟩;let f:∀{b:Sj} {o:Obj},d.get? b=Sb o->(d.push { cls:=.type "dict",data:=.dict #[] }).get? b=Sb o:=λe=>Oq _ e;unfold Builtin.«dict.__init__»;show Sm ?_;unfold Builtin.Dict.selfAndRest;show Sm (wpAny_notOrdered_dict dn.typeIs ?_);change Sq _ _ (pure (d.objs.size,[Value.ref (s1.heap.objs.size+4)])) _ _ _;show Sn ?_;change Sq _ _ (Builtin.Dict.updateFrom "dict.__init__" d.objs.size (.ref (s1.heap.objs.size+4)) [] Value.none) _ _ _;unfold Builtin.Dict.updateFrom;show Sm (wpAny_typeOf ⟨_,f P,rfl⟩ ?_);rw[if_pos (by decide)];show Sm (B7 (f P) hh λz t1 k1=>?_);show Sm (wpAny_rule (Sm (wpAny_pyIter_zip (k1 _ _ (f P)) ?_)));let l1:z.IsList l M.toArray:=by obtain⟨o,e,r⟩:=pl.isList;show⟨o,k1 _ _ (f (hk _ _ e)),r⟩
   let O:z.IsList l2 R.toArray:=by obtain⟨o,e,r⟩:=v.isList;show⟨o,k1 _ _ (f (hk _ _ e)),r⟩
   let j1:z.IsListIter s1.heap.objs.size l 0:=hf.at λo e=>k1 _ _ (f e);let j2:z.IsListIter (s1.heap.objs.size+1) l2 0:=ho.at λo e=>k1 _ _ (f e);let hb:∀b o,s1.heap.get? b=Sb o->z.get? b=Sb o:=λb o e=>k1 _ _ (f (hk _ _ e))
   let V:∀{b:Sj} {o:Obj} (k:Nat),s1.heap.get? b=Sb o->b≠s1.heap.objs.size+k:=λ{b o} k e w=>by
    have:=Os e;rw[w] at this;show absurd this (Nat.not_lt.mpr (Pd _ _))
   let u:∀{b:Sj} {o:Obj},s1.heap.get? b=Sb o->b≠d.objs.size:=λ{b o} e=>OG (Ov (Os e) Y);let j:=rv.length;let m:=S.length;rw[On] at j m
   show Sn ⟨plainId_quiet cq _,B9 hh (xW (by simp<;>lia) l1 O (k1 _ _ (f P)) (k1 _ _ (f T)) (k1 _ _ (f C)) j1 j2) (λc x=>?_) (by rw[OC];show j) (by rw[OC,<- j];rw[On] at Z;show Z) (λi p hp=>?_) M.toArray.size 0 { s1 with heap:=z,toks:=t1 } [] (Nat.zero_add _) ⟨_,Sf,k1 _ _ (f P),.inl ⟨rfl,rfl⟩,k1 _ _ (f T),⟨_,_,k1 _ _ (f C)⟩,j1,j2,l1,O⟩ ?_ .nil λh3 hl hj d3 hn n=>?_⟩
   ·simp only[OD,O0,or_false] at x;rcases x with rfl|rfl|rfl|rfl|rfl|rfl|rfl
    ·show(D 4 (by decide)).symm
    ·show(D 2 (by decide)).symm
    ·show(D 3 (by decide)).symm
    ·show(D 0 (by decide)).symm
    ·show(D 1 (by decide)).symm
    ·obtain⟨o,e,_⟩:=pl.isList;show u e
    ·obtain⟨o,e,_⟩:=v.isList;show u e
   ·obtain⟨y,e3,e4⟩:=rv.get (by rw[Op,hp];rfl);obtain⟨y2,e5,e6⟩:=S.get (by rw[Op,hp];rfl);show⟨y,y2,by simpa using e3,by simpa using e5,e4,e6⟩
   ·obtain⟨o,es,ep,g1,g2⟩:=dn;show⟨o,es,ep,k1 _ _ g1,g2⟩
   ·let ln:(bp W).length<=sizeLine:=by
     have:=cP W.length W;rw[OR] at this;rw[On] at Z
     lia
    let I3:Inv X g U (upd H1 d.objs.size (.dK (bp W))) { s1 with heap:=h3,toks:=hl }:=t.laid (λb o e=>n _ _ (λx=>by
     simp only[OD,O0,or_false] at x;rcases x with w|w|w|w|w
     ·show V 4 e w
     ·show V 3 e w
     ·show V 0 e w
     ·show V 1 e w
     ·show u e w) (hb b o e)) Y ⟨ln,beq_eq_false_iff_ne.mpr (Ne.symm (OG (Ov t.big Y))),hj,hn,d3⟩
    show⟨rfl,.ref d.objs.size,_,I3,rfl,q _ (t.hok.fresh Y)⟩
end G
namespace J
noncomputable def ze:D->Option (List D)
 |.nd .lst ds=>Sb ds
 |_=>Sd
theorem qI:∀{d:D} {ds:List D},ze d=Sb ds->d=.nd .lst ds
 |.nd .lst _,_,h=>by cases h;rfl
 |.nd .tup _,_,h=>by cases h
 |.nd (.dic _ _) _,_,h=>by cases h
 |.nd (.obj _ _) _,_,h=>by cases h
 |.non,_,h=>by cases h
 |.bl _,_,h=>by cases h
 |.int _,_,h=>by cases h
 |.str _,_,h=>by cases h
 |.scr _,_,h=>by cases h
def My(x y:KD):Option KD:=(ze x.2).bind λq=>(ze y.2).bind λds=>(cc q).bind λxs=>if decide xs.Nodup=Se/\xs.length=ds.length/\jd y.1 ds=Se then Sb (.fr (.own [] .fz),.nd (.dic 0 (xs.map Sum.inl)) ds) else Sd
def Gp(a:Option (List KD)):Option KD:=match a with
 |some [x,y]=>My x y
 |_=>Sd
theorem zf{α β:Type}{o:Option α}{f:α->Option β}{b:β}(h:o.bind f=Sb b):∃a,o=Sb a/\f a=Sb b:=by
 cases o with
 |none=>cases h
 |some a=>show⟨a,rfl,h⟩
section
variable {X:Cx} {Z:fA} {c:Cz}
theorem Gq(O:av X Z c){m:Ro->Option (List KD)}(N:gY c.sc "dict" = Se)(o:gY c.sc "zip" = Se)(n1:ak a=Se)(n2:ak b=Se)(M:kZ X m [a,b]):SndE X (λY=>Gp (m Y)) (.Call (.Name "dict" p) [.Call (.Name "zip" p2) [a,b] [] pos2] [] pos):=by
 intro Y W d h g U H Q t q
 cases i:m Y with
 |none=>dsimp only at h;rw[i] at h;cases h
 |some r=>
  dsimp only at h;rw[i] at h
  match r,h,i with
  |[],h,_=>cases h
  |[_],h,_=>cases h
  |_::_::_::_,h,_=>cases h
  |[x,y],h,i=>
   obtain⟨P,e1,h⟩:=zf (h);obtain⟨ds,e2,h⟩:=zf h;obtain⟨f,e3,h⟩:=zf h;obtain⟨⟨hn,hl,F⟩,e⟩:=ut h;cases e;obtain⟨x1,T⟩:=x;obtain⟨y1,y2⟩:=y;cases(qI e1);cases(qI e2);show ar (G.Ca O.calm (cJ O N) (O.tab.bl _ (by simp[aA])) (cJ O o) (O.tab.bl _ (by simp[aA])) cW ((ae n1).trans (by rw[ae n2];rfl)) ((ae n2).trans rfl)) (M Y _ i g U H _ t λvs V s1 K=>?_);obtain⟨v,v',rfl,w,E⟩:=K.two;obtain⟨C,R,J6,rfl,_,u,q1,I⟩:=w.rd.nd;obtain⟨L,o2,us2,rfl,A,D,w2⟩:=E.items F t.mu s1;cases(q1);cases(D);obtain rfl:=k9 e3 I;let k:f.length=us2.length:=by rw[w2.len];show hl
   let n:(f.zip us2).map (·.1)=f:=R3 (QV k);let s:(f.zip us2).map (·.2)=us2:=R4 (QV k.symm)
   let B:G.bp (f.zip us2)=f.zip us2:=by
    unfold G.bp;rw[eS (λp _ S hk=>by simp at hk) (by rw[n];show of_decide_eq_true hn)];rfl
   show⟨C,L,f.zip us2,rfl,?_,by rw[s];show .of A,λl j=>q _ _ (s1.trans (aj j)) ((Dg (hd:=.dic 0 (f.map Sum.inl)) rfl (.inl ⟨rfl,f.zip us2,by rw[B],?_,s.symm⟩) j w2).older s1)⟩
   ·have:=congrArg (QH kV) n;rw[OE] at this;rw[show((f.zip us2).map λp=>kV p.1)=f.map kV from this];show .of u
   ·have:=congrArg (QH λz:ay=>(Sum.inl z:DK)) n;rw[OE] at this;show this.symm
end
def Le{α:Type}(a b:Option α):Prop:=∀r,a=Sb r->b=Sb r
theorem Le.refl{α:Type}(a:Option α):Le a a:=λ_ h=>h
structure TabF(P:Program)(w:World)(K:Om)(mg:Str->Option Value)(base:Heap)(Z:fA)(k:Nat):Prop where
 fn:∀x B,Z.fn x=Sb B->(∃f fd ps,FnOk P w K mg base rz k f fd ps (wy K B)/\mg x=Sb (.ref f)/\Pg K (.ref f)=Se/\Binds K fd ps []/\(x==("__debug__":Str))=Sf)\/
  (∃j C f fd ps sp',j+1<=k/\Mk K C f/\FnOk P w K mg base rz j f fd ps sp'/\mg x=Sb (.ref C)/\Binds K fd ps []/\(x==("__debug__":Str))=Sf/\su C (wy K B) sp')
 cf:∀c fs C,Z.cf c=Sb fs->Ps K Sz c=Sb (Sb (.ref C))->Cls K C/\∀a∈fs,NoAttr K C a
 fm:∀x sp,Z.fm x=Sb sp->∃f fd ps,FnOk P w K mg base rz k f fd ps (sp K)/\mg x=Sb (.ref f)/\Pg K (.ref f)=Se/\Binds K fd ps []/\(x==("__debug__":Str))=Sf
 bl:∀x∈aA,mg x=Sd
 cst:∀x d,Z.cst x=Sb d->∃u v,mg x=Sb u/\RelV v u/\(∀H S,Rp K H S d v)/\(x==("__debug__":Str))=Sf
def lO(k:Nat)(q:List iQ):Ro:=q.map FK++Pb (k-q.length) Sd
noncomputable def Cb(d:D):iQ:=(.fz,d)
def g9(r:Option Res):Option KD:=match r with
 |some (.rt kd d _)=>if bv kd=Se then Sd else Sb (kd,d)
 |some (.nx _)=>Sb (.sh,.non)
 |_=>Sd
def tz(f:Ro->Option Res)(m k:Nat)(ds:List D):Option KD:=if ds.length=m then g9 (f (lO k (ds.map Cb))) else Sd
def ci(Z:GG)(N m k:Nat)(body:bC)(ds:List D):Option KD:=if ds.length=m then g9 (aY Z N body [] (lO k (ds.map Cb))) else Sd
noncomputable def outs(m:Nat)(pn:List Nat)(Y:Ro):List (Option iQ):=(O9 m).map λj=>if j∈pn then(match Y[j]? with|some (Sb ⟨Sf,k,d⟩)=>Sb (k,d)|_=>Sd) else Sd
def gQ(m:Nat)(pn:List Nat)(r:Option Res):Option (Kd×D×List (Option iQ)):=match r with
 |some (.rt kd d Y)=>if bv kd=Se then Sd else Sb (kd,d,outs m pn Y)
 |some (.nx Y)=>Sb (.sh,.non,outs m pn Y)
 |_=>Sd
def fY(Z:GG)(N m k:Nat)(pn:List Nat)(body:bC)(q:List iQ):Option (Kd×D×List (Option iQ)):=if q.length=m then gQ m pn (aY Z N body pn (lO k q)) else Sd
def lP(fns:Nms)(an:An)(n:Nat)(N:List Str)(st:Su):Option bC:=cB fns an n ⟨ai st,N,λ_=>Se⟩ n (aU st)
theorem ng{vs:List V}{i:Nat}(h:i<vs.length):(cU N vs)[i]?=(vs.map Sb)[i]?:=by
 unfold L2.cU;rw[Pj (by simpa using h)]
theorem zg{N:List Str}{a:List iQ}{vs:List V}(b:SE K g (a.map FK) (vs.map Sb) H)(hl:a.length<=N.length):SE K g (lO N.length a) (cU N vs) H:=by
 let h:a.length=vs.length:=by simpa using b.len
 show⟨λi c e=>?_,b.mu,?_⟩
 ·unfold lO at e;by_cases hi:i<a.length
  ·rw[Pj (by simpa using hi)] at e;obtain⟨v,F,q1,d,f⟩:=b.slot i c e;show⟨v,F,by rw[ng (by rw[<- h];show hi)];show q1,d,f⟩
  ·rw[Pf (by simpa using hi),PV] at e
   split at e<;>cases e
 ·unfold lO L2.cU;simp only[OF,On,Rj]
  lia
theorem J7{ds:List D}{vs:List V}(r:RpL K H (Sg g) ds vs)(m:MuOk H (Sg g)):SE K g ((ds.map Cb).map FK) (vs.map Sb) H:=by
 show⟨λi a e=>?_,m,by simp[r.len]⟩;rw[Op,Op] at e
 cases q:ds[i]? with
 |none=>rw[q] at e;cases e
 |some d=>
  rw[q] at e;cases e;obtain⟨v,e1,e2⟩:=r.getD q;show⟨v,jQ,by rw[Op,e1];rfl,λ_ z=>z.elim,.fz e2⟩
theorem ku{g:Gh}:g.re (λ_=>Sd) b≠Sb (Sb i):=λe=>by
 unfold Gh.re at e
 cases q:g b with
 |none=>rw[q] at e;cases e
 |some x=>cases x<;>(rw[q] at e;cases e)
theorem vf{g:Gh}(h:g b≠Sd):g.re (λ_=>Sd) b=Sb Sd:=by
 unfold Gh.re
 cases q:g b with
 |none=>show absurd q h
 |some x=>cases x<;>rfl
theorem nh{K:Om}{g g':Gh}{H H':Hp}{F:Pr}(a:Evo (g.re λ_=>Sd) H g' H' F):Same H H'/\(∀b,F b->H b=Sd)/\∀b,Sg g b->Sg g' b:=
 ⟨λb o e=>a.keep b o (λi q=>ku q) e,λb z=>(a.tmp b z).2.elim (λ⟨j,q⟩=>absurd q ku) id,λb z=>by rw[Sg,(a.out b).mp (vf z)];simp⟩
section
variable {P:Sr} {w:Ss} {K:Om} {mg:Str->Option Sh} {base:Sw} {fns:Nms} {Z:GG} {x qual:Str} {st:Su} {f:Sj} {fd:SG} {N ps:List Str} {k n M:Nat} {an:An} {body:bC}
theorem Dz{A:Sv}{s:Sk}(S:bc N ps (ai st))(T:TabF P w K mg base (bB fns Z) k)(i:Room k (A.deeper (PyProof.Rows.envOfC qual (ai st) s.heap.objs.size f cdv))):av (rX rz P w K mg base N qual (ai st) f cdv A outer s H E).nox (bB fns Z) ⟨ai st,N,λ_=>Se⟩:=
  ⟨rfl,rfl,λ_ _=>rfl,rfl,S.nd,⟨λy B n=>by
   rcases T.fn y B n with⟨g,l,e,m,b,a,c,d⟩|⟨j,C,g,l,e,o,p,m,b,a,c,d,q⟩
   ·show .inl ⟨k,g,l,e,m,i,b,a,c,d⟩
   ·show .inr ⟨C,j,g,l,e,o,m,b,i.mono p,a,c,d,q⟩,T.cf,λy B n=>by
   obtain⟨g,l,e,m,b,a,c,d⟩:=T.fm y B n;show⟨k,g,l,e,m,i,b,a,c,d⟩,T.bl,(by let h:=i.un;show O1 (OW (QF (by decide:100<=200) _) (Rs (Pd _ _) 200)) h),i.gd,T.cst⟩⟩
theorem vg{o:Ro->Option Res}(F:Fun K x qual st f fd)(S:bc N ps (ai st))(T:TabF P w K mg base (bB fns Z) k)(i:∀X:Cx,av X (bB fns Z) ⟨ai st,N,λ_=>Se⟩->PassesOwn (So X.prog X.w) X.A X.env X.xe->cI X [] o (aU st)) :
  FnOk P w K mg base rz (k+1) f fd ps (wy K (tz o ps.length N.length)):=by
 let D:ps.length<=N.length:=by
  have:=congrArg Pq S.pre;rw[OP] at this
  lia
 show F.ok S (λe H Q E h=>?_) (λcdv A outer s H e Q E U h=>?_)
 ·obtain⟨y,g,V,d,r,B,a,q⟩:=h;unfold tz at a;split at a
  ·ext hl;rw[r.len,hl]
  ·cases a
 ·obtain⟨y,g,V,d,r,B,a,q⟩:=h;unfold tz at a;split at a
  ·ext hl;let O:=Dz (f:=f) (qual:=qual) (cdv:=cdv) (outer:=outer) (s:=s) (H:=H) (E:=E) S T U;let M:MuOk H (Sg (g.re λ_=>Sd)):=λb z=>B b ((mq b).mp z);let W:RpL K H (Sg (g.re λ_=>Sd)) y e:=r.weak λb z=>(mq b).mp z;let C:=zg (J7 W M) (by simpa[hl] using D);let u:cI _ [] o (aU st):=i _ O PassesOwn.never;show⟨_,iY,?_⟩;unfold g9 at a;split at a
   ·ext k2 d2 Y2 c;split at a
    ·cases a
    ·ext R;cases a;show u _ _ c _ (cU N e) H _ C λv Y L j F l m pk I=>?_;obtain⟨n,p,t⟩:=nh (K:=K) l;show q v j n ⟨F,p,I.unlend (by simpa using R) t⟩
   ·ext Y' c;cases a;show u _ _ c _ (cU N e) H _ C λY L j l m pk=>?_;obtain⟨n,p,t⟩:=nh (K:=K) l;show q .non j n IL
   ·cases a
  ·cases a
theorem Cc(F:Fun K x qual st f fd)(S:bc N ps (ai st))(T:TabF P w K mg base (bB fns Z) k)(a:lP fns an n N st=Sb body) :
  FnOk P w K mg base rz (k+1) f fd ps (wy K (ci Z M ps.length N.length body)):=
 vg F S T λX O b=>g8 Z (λs c h=>m8 fns Z O b n h) a []
theorem wV{m:Nat}{pn:List Nat}{Y:Ro}{j:Nat}(h:((outs m pn Y).map HK)[j]?=Sb (Sb sl)):j<m/\j∈pn/\Y[j]?=Sb (Sb sl):=by
 unfold outs at h;rw[Op,Op] at h;by_cases a:j<m
 ·rw[Qc a] at h;simp only[Sa,Option.some.injEq] at h;split at h
  ·ext b;split at h
   ·ext k d e;cases h;show⟨a,b,e⟩
   ·cases h
  ·cases h
 ·rw[O7 (by simpa using a)] at h;cases h
theorem zh:(outs m pn Y).length=m:=by simp[outs]
theorem vh(F:Fun K x qual st f fd)(S:bc N ps (ai st))(T:TabF P w K mg base (bB fns Z) k)(V:lP fns an n N st=Sb body) :
  FnOk P w K mg base rz (k+1) f fd ps (BE K (fY Z M ps.length N.length pn body)):=by
 let L:ps.length<=N.length:=by
  have:=congrArg Pq S.pre;rw[OP] at this
  lia
 show F.ok S (λm H Q E h=>?_) (λcdv A outer s H m Q E hr h=>?_)
 ·obtain⟨B,g,k',d,I,u,a,q⟩:=h;unfold fY at a;split at a
  ·ext hl;have:=u.len;simp only[On] at this;rw[<- this,hl]
  ·cases a
 ·obtain⟨B,g,k',d,I,u,a,q⟩:=h;unfold fY at a;split at a
  ·ext hl;let C:B.length=m.length:=by simpa using u.len
   let O:=Dz (f:=f) (qual:=qual) (cdv:=cdv) (outer:=outer) (s:=s) (H:=H) (E:=E) S T hr;let r:=zg u (by rw[hl];show L);let D:cI _ pn (aY Z M body pn) (aU st):=g8 Z (λs is h=>m8 fns Z O PassesOwn.never n h) V pn
   let o:∀{c:Gh} {b:Hp} {F:Pr} {p:L2.St} {t:Ro},SE K (c.plus F) t p b->PinOk pn (cU N m) p->SE K (c.plus F) ((outs ps.length pn t).map HK) (m.map Sb) b:=λ{c b F p t} s1 pk=>by
    show⟨λj sl e=>?_,s1.mu,by simp[zh,<- C,hl]⟩;obtain⟨h1,Y,X⟩:=wV e;obtain⟨v,Fj,q1,W,U⟩:=s1.slot j sl X;show⟨v,Fj,by rw[<- q1,pk j Y,ng (by rw[<- C,hl];show h1)],W,U⟩
   show⟨_,iY,?_⟩;unfold gQ at a;split at a
   ·ext k2 d2 Y2 l;split at a
    ·cases a
    ·ext hb;cases a;show D _ _ l _ (cU N m) H _ r λv p c b F y i pk R=>q v c b F y (o i pk) R
   ·ext t l;cases a;show D _ _ l _ (cU N m) H _ r λp c b y i pk=>q .non c b jQ y (o (by rw[aW λ_ z=>z];show i) pk) ⟨λ_ z=>z,by unfold Rp;rfl⟩
   ·cases a
  ·cases a
end
noncomputable def eJ{α:Type}(Z:Nat->Option α)(i:Nat)(B:α):Nat->Option α:=λj=>if j=i then Sb B else Z j
abbrev GG.addI(Z:GG)(i:Nat)(B:Fn):GG:=⟨eJ Z.fn i B,Z.fm⟩
abbrev GG.addM(Z:GG)(i:Nat)(B:Fm):GG:=⟨Z.fn,eJ Z.fm i B⟩
theorem tB{B ψ:Fn}(h:∀ds,Le (ψ ds) (B ds))(s:wy K ψ vs H Q E):wy K B vs H Q E:=by
 obtain⟨ds,S,k,d,e,b,a,c⟩:=s;show⟨ds,S,k,d,e,b,h ds _ a,c⟩
theorem Gr{B ψ:Fm}(h:∀ds,Le (ψ ds) (B ds))(s:BE K ψ vs H Q E):BE K B vs H Q E:=by
 obtain⟨a,g,e,d,f,i,c,b⟩:=s;show⟨a,g,e,d,f,i,h a _ c,b⟩
section
variable {P:Sr} {w:Ss} {K:Om} {mg:Str->Option Sh} {base:Sw} {fns:Nms} {Z:GG} {x qual:Str} {st:Su} {f:Sj} {fd:SG} {N ps:List Str} {k n M i:Nat} {an:An} {body:bC}
theorem TabF.up(T:TabF P w K mg base (bB fns Z) k):TabF P w K mg base (bB fns Z) (k+1):=
  ⟨λy B d=>by
    rcases T.fn y B d with⟨g,b,a,c,f,e,h,i⟩|⟨j,C,g,b,a,l,m,c⟩
    · show .inl ⟨g,b,a,c.mono (Qa k),f,e,h,i⟩
    · show .inr ⟨j,C,g,b,a,l,RT m,c⟩,T.cf,
   λy B d=>by obtain⟨g,b,a,c,f,e,h,i⟩:=T.fm y B d;show⟨g,b,a,c.mono (Qa k),f,e,h,i⟩,T.bl,T.cst⟩
theorem TabF.addB{i:Nat}{ψ:Fn}(T:TabF P w K mg base (bB fns Z) k)(F:Fun K x qual st f fd)(S:bc N ps (ai st))(hm:mg x=Sb (.ref f))(h:Binds K fd ps [])(hd:(x==("__debug__":Str))=Sf)(hi:fns.fns[i]?=Sb x)(d:∀X:Cx,av X (bB fns Z) ⟨ai st,N,λ_=>Se⟩->PassesOwn (So X.prog X.w) X.A X.env X.xe->cI X [] fb (aU st))(l:∀ds,Le (ψ ds) (tz fb ps.length N.length ds)):TabF P w K mg base (bB fns (Z.addI i ψ)) (k+1):=by
 show⟨λy B b=>?_,T.cf,T.up.fm,T.bl,T.cst⟩;let b:(bm y fns.fns).bind (eJ Z.fn i ψ)=Sb B:=b
 cases c:bm y fns.fns with
 |none=>rw[c] at b;cases b
 |some j=>
  rw[c] at b;let a:eJ Z.fn i ψ j=Sb B:=b;unfold eJ at a;split at a
  ·ext e;subst e;cases a
   let g:y=x:=by
    have:=aZ c;rw[hi] at this;show(Option.some.inj this).symm
   subst g;show .inl ⟨f,fd,ps,(vg F S T d).imp λm H Q E s=>tB l s,hm,F.kp,h,hd⟩
  ·show T.up.fn y B (by change(bm y fns.fns).bind Z.fn=_;rw[c];show a)
theorem TabF.addI{ψ:Fn}(T:TabF P w K mg base (bB fns Z) k)(F:Fun K x qual st f fd)(S:bc N ps (ai st))(hm:mg x=Sb (.ref f))(c:Binds K fd ps [])(hd:(x==("__debug__":Str))=Sf)
  (hi:fns.fns[i]?=Sb x) (hc:lP fns an n N st=Sb body) (hψ:∀a,Le (ψ a) (ci Z M ps.length N.length body a)):TabF P w K mg base (bB fns (Z.addI i ψ)) (k+1):=
 T.addB F S hm c hd hi (λX O b=>g8 Z (λs d h=>m8 fns Z O b n h) hc []) hψ
theorem TabF.addM{ψ:Fm}(T:TabF P w K mg base (bB fns Z) k)(F:Fun K x qual st f fd)(S:bc N ps (ai st))(hm:mg x=Sb (.ref f))(g:Binds K fd ps [])(hd:(x==("__debug__":Str))=Sf)(hi:fns.fns[i]?=Sb x)(m:lP fns an n N st=Sb body)(h:∀ds,Le (ψ ds) (fY Z M ps.length N.length pn body ds)):TabF P w K mg base (bB fns (Z.addM i ψ)) (k+1):=by
 show⟨T.up.fn,T.cf,λy l b=>?_,T.bl,T.cst⟩;let b:(bm y fns.fns).bind (λj=>(eJ Z.fm i ψ j).map λB=>λK=>BE K B)=Sb l:=b
 cases c:bm y fns.fns with
 |none=>rw[c] at b;cases b
 |some j=>
  rw[c] at b;obtain⟨B,a,rfl⟩:=bq (b);unfold eJ at a;split at a
  ·ext e;subst e;cases a
   let d:y=x:=by
    have:=aZ c;rw[hi] at this;show(Option.some.inj this).symm
   subst d;show⟨f,fd,ps,(vh F S T m).imp λo H Q E s=>Gr h s,hm,F.kp,g,hd⟩
  ·show T.up.fm y _ (by change qx fns Z y=_;unfold qx;rw[c,Pe,a];rfl)
end
theorem Gs{c:List Int}(d:SqL K H a (c.map V.int))(h:B [.scr c]=Sb (.sh,.bl Se)):wy K B [.ref a] H (λv _=>v=.bl Se) λ_ _ _=>False:=by
 show⟨[.scr c],λ_=>Sd,.sh,.bl Se,.cons ?_ .nil,λb z=>absurd rfl z,h,λv e _ r=>r.rd.bl⟩;unfold Rp;show⟨a,rfl,?_⟩;rcases d with h|h
 ·show .inl ⟨λz=>z rfl,h⟩
 ·show .inr h
theorem N8{P:List Sh->Prop}(h:P [])(us:List Sh)(e:us.length=0):P us:=by
 cases us with
 |nil=>show h
 |cons=>cases e
theorem J6{P:List Sh->Prop}(h:∀a,P [a])(us:List Sh)(e:us.length=1):P us:=by
 cases us with
 |nil=>cases e
 |cons a us=>show N8 (P:=λus=>P (a::us)) (h a) us (Nat.succ.inj e)
theorem us2{P:List Sh->Prop}(h:∀a b,P [a,b])(us:List Sh)(e:us.length=2):P us:=by
 cases us with
 |nil=>cases e
 |cons a us=>show J6 (P:=λus=>P (a::us)) (h a) us (Nat.succ.inj e)
theorem Nz{P:List Sh->Prop}(h:∀a b c,P [a,b,c])(us:List Sh)(e:us.length=3):P us:=by
 cases us with
 |nil=>cases e
 |cons a us=>show us2 (P:=λus=>P (a::us)) (h a) us (Nat.succ.inj e)
theorem K1{P:List Sh->Prop}(h:∀a b c d,P [a,b,c,d])(us:List Sh)(e:us.length=4):P us:=by
 cases us with
 |nil=>cases e
 |cons a us=>show Nz (P:=λus=>P (a::us)) (h a) us (Nat.succ.inj e)
theorem N9{P:List Sh->Prop}(h:∀a b c d e,P [a,b,c,d,e])(us:List Sh)(e:us.length=5):P us:=by
 cases us with
 |nil=>cases e
 |cons a us=>show K1 (P:=λus=>P (a::us)) (h a) us (Nat.succ.inj e)
theorem i3{X:Cx}{pn:List Nat}{j l:Ro->Option Res}{a b:List Su}(c:cI X pn j a)(o:cI X pn l b):cI X pn (λY=>bT (j Y) l) (a++b):=by
 intro Y r h g U H n i q;dsimp only at h;show BS ?_
 cases e:j Y with
 |none=>rw[e] at h;cases h
 |some s=>
  rw[e] at h
  cases s with
  |nx f=>show c Y _ e g U H _ i λu m t p k pk=>o f r h m u t n k (q.from p pk)
  |rt v d f=>cases h;show c Y _ e g U H _ i q
  |ct f=>cases h;show c Y _ e g U H _ i q
  |bk f=>cases h;show c Y _ e g U H _ i q
theorem lQ{α:Type}(Z:Nat->Option α)(i:Nat)(a b:α):eJ (eJ Z i a) i b=eJ Z i b:=by
 funext j;unfold eJ
 split<;>rfl
theorem tD(Z:GG)(i:Nat)(a b:Fn):(Z.addI i a).addI i b=Z.addI i b:=by
 change(⟨eJ (eJ Z.fn i a) i b,Z.fm⟩:GG)=⟨eJ Z.fn i b,Z.fm⟩;rw[lQ]
theorem tF(Z:GG)(i:Nat)(a b:Fm):(Z.addM i a).addM i b=Z.addM i b:=by
 change(⟨Z.fn,eJ (eJ Z.fm i a) i b⟩:GG)=⟨Z.fn,eJ Z.fm i b⟩;rw[lQ]
def recI(Z:GG)(i N m k:Nat)(body:bC):Nat->Fn
 |0=>λ_=>Sd
 |n+1=>ci (Z.addI i (recI Z i N m k body n)) N m k body
def recM(Z:GG)(i N m k:Nat)(pn:List Nat)(body:bC):Nat->Fm
 |0=>λ_=>Sd
 |n+1=>fY (Z.addM i (recM Z i N m k pn body n)) N m k pn body
section
variable {P:Sr} {w:Ss} {K:Om} {mg:Str->Option Sh} {base:Sw} {fns:Nms} {Z:GG} {x qual:Str} {st:Su} {f:Sj} {fd:SG} {N ps:List Str} {k n M i:Nat} {an:An} {body:bC}
theorem TabF.recI(T:TabF P w K mg base (bB fns Z) k)(F:Fun K x qual st f fd)(S:bc N ps (ai st))(hm:mg x=Sb (.ref f))(a:Binds K fd ps [])(hd:(x==("__debug__":Str))=Sf)
  (hi:fns.fns[i]?=Sb x) (hc:lP fns an n N st=Sb body):∀d:Nat,TabF P w K mg base (bB fns (Z.addI i (J.recI Z i M ps.length N.length body d))) (k+1+d)
 |0=>T.addI (M:=M) F S hm a hd hi hc λ_ _ e=>nomatch e
 |d+1=>by
  have:=(TabF.recI T F S hm a hd hi hc d).addI (M:=M) F S hm a hd hi hc λ_=>Le.refl _;rw[tD] at this;show this
theorem TabF.recM(T:TabF P w K mg base (bB fns Z) k)(F:Fun K x qual st f fd)(S:bc N ps (ai st))(hm:mg x=Sb (.ref f))(b:Binds K fd ps [])(hd:(x==("__debug__":Str))=Sf)(hi:fns.fns[i]?=Sb x)(a:lP fns an n N st=Sb body):∀d:Nat,TabF P w K mg base (bB fns (Z.addM i (J.recM Z i M ps.length N.length pn body d))) (k+1+d)
 |0=>T.addM (M:=M) (pn:=pn) F S hm b hd hi a λ_ _ e=>nomatch e
 |d+1=>by
  have:=(TabF.recM T F S hm b hd hi a d).addM (ψ:=J.recM Z i M ps.length N.length pn body (d+1)) F S hm b hd hi a λ_=>Le.refl _;rw[tF] at this;show this
end
def Cd(k:Ow)(c:Str)(B:Fm):Fn:=λds=>match B ((k,.nd (.obj c []) [])::ds.map Cb) with
 |some (.sh,.non,Sb (k',d')::_)=>Sb (.fr k',d')
 |_=>Sd
theorem Ce(hC:Ps K Sz c=Sb (Sb (.ref C)))(X:Cls K C):su C (wy K (Cd (.own es r0) c B)) (BE K B):=by
 intro vs H Q s a D l L V;obtain⟨S,g,kd,d,r,m,A,q⟩:=s;unfold Cd at A;split at A
 ·ext T d' os M;cases A
  let w:Same H (upd (upd H D (.own a)) a (.ins C D [])):=λb o e=>by
   rw[ac (λz=>by rw[z,l] at e;cases e),ac (λz=>by rw[z,L] at e;cases e)];show e
  let W:g a=Sd:=by
   cases q:g a with
   |none=>rfl
   |some x=>obtain⟨o,e,_⟩:=m a (by rw[Sg,q];simp);rw[l] at e;cases e
  show let t:Gh:=λb=>if b=a then Sb (Sb 0) else(g.re λ_=>Sd) b;?_
  let j:∀b,b≠a->t b=(g.re λ_=>Sd) b:=λb h=>if_neg h;let O:t a=Sb (Sb 0):=if_pos rfl;let u:∀b,b≠a->(Sg t b↔Sg g b):=λb h=>by rw[Sg,j b h];show mq b
  show⟨_,t,.sh,.non,_,⟨λi sl e=>?_,λb z=>?_,by simp[r.len]⟩,M,λv R E F I se U=>?_⟩
  ·cases i with
   |zero=>
    cases e;show⟨.ref a,λb=>b=a,rfl,λb z=>by rw[z];show O,?_⟩;unfold Tr;show⟨a,.ins C D [],[],λ_=>False,rfl,ah,⟨C,D,hC,⟨X,λf hf=>by cases hf⟩,rfl,rfl⟩,λ_ z=>z,(λh=>by cases h),(λb=>⟨λz=>.inl ⟨rfl,z⟩,λz=>z.elim (λz=>z.2) λz=>z.elim⟩),?_⟩;unfold TrL;show⟨rfl,λ_ z=>z⟩
   |succ i=>
    let e:((S.map Cb).map FK)[i]?=Sb (Sb sl):=by simpa using e
    rw[Op,Op] at e
    cases N:S[i]? with
    |none=>rw[N] at e;cases e
    |some d0=>
     rw[N] at e;cases e;obtain⟨v,e1,e2⟩:=r.getD N;show⟨v,jQ,by rw[OI,Qo,Op,e1];rfl,λ_ z=>z.elim,.fz (e2.go λb o n e=>⟨w b o e,λz=>n ((u b λh=>?_).mp z)⟩)⟩;rw[h,l] at e;cases e
  ·by_cases k:b=a
   ·rw[k];show⟨_,ah,λxs h=>by cases h⟩
   ·obtain⟨o,e,n⟩:=m b ((u b k).mp z);show⟨o,w b o e,n⟩
  ·obtain⟨Y,y⟩:=(U);let y:v=.non:=by unfold Rp at y;show y
   obtain⟨v0,P,e1,e2,e3⟩:=se.slot 0 ⟨Sf,T,d⟩ rfl;cases(e1);let Z:R.plus F=R:=aW Y;rw[Z] at e2 e3
   let p:Same H E:=λb o e=>I.keep b o (λi z=>by
    let k:b≠a:=λh=>by rw[h,l] at e;cases e
    rw[j b k] at z;show ku z) (w b o e)
   show⟨y,q (.ref a) E p ⟨P,λb z=>?_,?_⟩⟩
   ·rcases I.new b 0 (e2 b z) with⟨i,z2⟩|z2
    ·by_cases k:b=a
     ·rw[k];show l
     ·rw[j b k] at z2;show absurd z2 ku
    ·cases qh:H b with
     |none=>rfl
     |some o=>rw[w b o qh] at z2;cases z2
   ·change Tr K E (Sx g P) d T (.ref a) P;show e3.go (λ_ _ _ e=>e) λb o _ n z=>n ?_;rcases z with z|z
    ·let k:b≠a:=λh=>by rw[h] at z;show z W
     have:t b=Sb Sd:=by rw[j b k];show vf z
     rw[Sg,(I.out b).mp this];simp
    ·rw[Sg,e2 b z];simp
 ·cases A
section
variable {P:Sr} {w:Ss} {K:Om} {mg:Str->Option Sh} {base:Sw} {fns:Nms} {Z:GG} {x y qual:Str} {st:Su} {f C:Sj} {fd:SG} {N ps:List Str} {k n M i:Nat} {an:An} {body:bC}
theorem TabF.addC{ψ:Fn}(T:TabF P w K mg base (bB fns Z) k)(F:Fun K y qual st f fd)(S:bc N ps (ai st))(p:Mk K C f)(q:Cls K C)(l:Ps K Sz x=Sb (Sb (.ref C)))(hm:mg x=Sb (.ref C))(g:Binds K fd ps [])(hd:(x==("__debug__":Str))=Sf)(hi:fns.fns[i]?=Sb x)(m:lP fns an n N st=Sb body)(h:∀ds,Le (ψ ds) (Cd (.own es r0) x (fY Z M ps.length N.length pn body) ds)):TabF P w K mg base (bB fns (Z.addI i ψ)) (k+2):=by
 show⟨λz B b=>?_,T.cf,T.up.up.fm,T.bl,T.cst⟩;let b:(bm z fns.fns).bind (eJ Z.fn i ψ)=Sb B:=b
 cases c:bm z fns.fns with
 |none=>rw[c] at b;cases b
 |some j=>
  rw[c] at b;let a:eJ Z.fn i ψ j=Sb B:=b;unfold eJ at a;split at a
  ·ext e;subst e;cases a
   let d:z=x:=by
    have:=aZ c;rw[hi] at this;show(Option.some.inj this).symm
   subst d;show .inr ⟨k+1,C,f,fd,ps,_,Ox _,p,vh F S T m,hm,g,hd,λo H Q s=>Ce l q o H Q (tB h s)⟩
  ·show T.up.up.fn z B (by change(bm z fns.fns).bind Z.fn=_;rw[c];show a)
end
def Wp{α:Type}(a:Option α)(Q:α->Prop):Prop:=∃r,a=Sb r/\Q r
theorem Wp.mono{α:Type}{a:Option α}{Q R:α->Prop}(h:Wp a Q)(k:∀r,Q r->R r):Wp a R:=let ⟨r,e,q⟩:=h;⟨r,e,k r q⟩
theorem oE{α:Type}{r:α}{Q:α->Prop}(q:Q r):Wp (Sb r) Q:=⟨r,rfl,q⟩
section
variable {Z:Nat->Option Fn} {Y:Ro} {Q:KD->Prop}
theorem jz{i:Nat}(h:Y[i]?=Sb (Sb s))(q:Q (pU i s)):Wp (aa Z (.var i) Y) Q:=⟨_,by rw[uD,h];rfl,q⟩
theorem a9(q:Q (.sh,d)):Wp (aa Z (.lit d) Y) Q:=⟨_,by rw[Bs],q⟩
theorem cj(h:Wp (aa Z a Y) λx=>Wp (aa Z b Y) λy=>Wp (fw op x y) Q):Wp (aa Z (.bin op a b) Y) Q:=by
 obtain⟨x,c,y,e,z,d,q⟩:=h;show⟨z,by rw[Bt,c,e];show d,q⟩
theorem zi(h:Wp (aa Z a Y) λx=>Wp (ss x.2) λb=>Q (.sh,.bl (!b))):Wp (aa Z (.not a) Y) Q:=by
 obtain⟨x,c,b,d,q⟩:=h;show⟨_,by rw[Bv,c];change bV ((ss x.2).map _)=_;rw[d];rfl,q⟩
theorem zj(h:Wp (aD Z t Y) λr=>(r=Se->Wp (aa Z a Y) Q)/\(r=Sf->Wp (aa Z b Y) Q)):Wp (aa Z (.ifx t a b) Y) Q:=by
 obtain⟨r,d,q1,e⟩:=h
 cases r with
 |true=>obtain⟨x,c,q⟩:=q1 rfl;show⟨x,by rw[uE,d];show c,q⟩
 |false=>obtain⟨x,c,q⟩:=e rfl;show⟨x,by rw[uE,d];show c,q⟩
theorem nj(h:Wp (aa Z a Y) λx=>Wp (fK Z lo Y) λl=>Wp (fK Z hi Y) λu=>Wp (HI (Sb x) (Sb l) (Sb u)) Q):Wp (aa Z (.sl a lo hi) Y) Q:=by
 obtain⟨x,b,l,c,u,d,z,e,q⟩:=h;show⟨z,by rw[Fu,b,c,d];show e,q⟩
theorem Cf(h:Wp (aP Z es Y) λx=>Wp (jL ks (Sb x)) Q):Wp (aa Z (.dspN ks es) Y) Q:=by
 obtain⟨x,b,z,a,q⟩:=h;show⟨z,by rw[yw,b];show a,q⟩
theorem zk(c:Z i=Sb B)(h:Wp (aP Z es Y) λkds=>Wp (uB B kds) Q):Wp (aa Z (.fn i es) Y) Q:=by
 obtain⟨x,a,z,b,q⟩:=h;show⟨z,by rw[yy,a,c];show b,q⟩
theorem oF(h:Wp (aP Z es Y) λkds=>Wp (fx x kds) Q):Wp (aa Z (.blt x es) Y) Q:=by
 obtain⟨y,b,z,a,q⟩:=h;show⟨z,by rw[Bx,b];show a,q⟩
theorem tG(h:Wp (aa Z a Y) λx=>Wp (qg T x.2) λb=>Q (.sh,.bl b)):Wp (aa Z (.isi T a) Y) Q:=by
 obtain⟨y,d,z,c,q⟩:=h;show⟨_,by rw[uF,d];change bV (qg T y.2)=_;rw[c];rfl,q⟩
theorem qJ(h:Wp (aa Z a Y) Q):Wp (aa Z (.bool op (.cons a .nil)) Y) Q:=by
 obtain⟨y,b,q⟩:=h;show⟨y,by rw[iK,lw];show b,q⟩
theorem qK(h:Wp (aa Z a Y) λx=>∃z,x.2=.bl z/\((op==.And)=z->Wp (aa Z (.bool op (.cons b r)) Y) Q)/\((op==.And)≠z->Q (.sh,.bl z))):Wp (aa Z (.bool op (.cons a (.cons b r))) Y) Q:=by
 obtain⟨⟨k,d⟩,f,z,e,q1,g⟩:=h;let e:d=.bl z:=e;subst e;by_cases c:(op==.And)=z
 ·obtain⟨y,e2,q⟩:=q1 c;rw[iK] at e2;show⟨y,by rw[iK,lw,f];show(if_pos c).trans e2,q⟩
 ·show⟨_,by rw[iK,lw,f];show if_neg c,g c⟩
theorem e7(h:Wp (cw Z it Y) λp=>p.2.length<=100000/\Wp (aT r (dP tg (cD Z ts) (aa Z elt) (bi Y cap)) p.2) λys=>Q (.fr (.own [] r),.lst ys)):Wp (aa Z (.comp r cap tg it ts elt) Y) Q:=by
 obtain⟨p,c,hl,ys,a,q⟩:=h;obtain⟨d,b⟩:=p
 show⟨_,by rw[ql,c];change(if b.length<=100000 then _ else _)=_;rw[if_pos hl,a],q⟩
variable {T:Bool->Prop}
theorem zl(h:Wp (aa Z a Y) λx=>Wp (aa Z b Y) λy=>Wp (aq op x.2 y.2) T):Wp (aD Z (.cmp op a b) Y) T:=by
 obtain⟨x,c,y,e,z,d,q⟩:=h;show⟨_,by rw[qm,c,e];show d,q⟩
theorem qL(h:Wp (aD Z a Y) T):Wp (aD Z (.bool op (.cons a .nil)) Y) T:=by
 obtain⟨y,b,q⟩:=h;show⟨y,by rw[gx,fL];show b,q⟩
theorem lR(h:Wp (aD Z a Y) λz=>((op==.And)=z->Wp (aD Z (.bool op (.cons b r)) Y) T)/\((op==.And)≠z->T z)):Wp (aD Z (.bool op (.cons a (.cons b r))) Y) T:=by
 obtain⟨z,d,q1,e⟩:=h;by_cases c:(op==.And)=z
 ·obtain⟨y,e2,q⟩:=q1 c;rw[gx] at e2;show⟨y,by rw[gx,fL,d];show(if_pos c).trans e2,q⟩
 ·show⟨_,by rw[gx,fL,d];show if_neg c,e c⟩
variable {L:List KD->Prop}
theorem aG(q:L []):Wp (aP Z .nil Y) L:=⟨_,by rw[aP],q⟩
theorem aX(h:Wp (aa Z a Y) λx=>Wp (aP Z r Y) λxs=>L (x::xs)):Wp (aP Z (.cons a r) Y) L:=by
 obtain⟨x,c,xs,b,q⟩:=h;show⟨_,by rw[aP,c,b];rfl,q⟩
theorem oG{P:Option Int->Prop}(q:P Sd):Wp (fK Z .non Y) P:=⟨_,by rw[fK],q⟩
theorem hG{P:Option Int->Prop}(h:Wp (aa Z a Y) λx=>∃i,x.2=.int i/\P (Sb i)):Wp (fK Z (.som a) Y) P:=by
 obtain⟨⟨k,d⟩,b,i,hi,q⟩:=h;let hi:d=.int i:=hi;subst hi;show⟨_,by rw[fK,b];rfl,q⟩
variable {P:List Nat×List D->Prop}
theorem tH(h:Wp (aa Z a Y) λx=>Wp (sJ (Sb x)) P):Wp (cw Z (.e a) Y) P:=by
 obtain⟨x,c,z,b,q⟩:=h;show⟨z,by rw[cw,c];show b,q⟩
theorem zm(h:Wp (aa Z a Y) λx=>Wp (yo (Sb x)) P):Wp (cw Z (.enm a) Y) P:=by
 obtain⟨x,c,z,b,q⟩:=h;show⟨z,by rw[cw,c];show b,q⟩
theorem DA(h:Wp (aa Z a Y) λx=>Wp (aa Z b Y) λy=>Wp (sK (Sb x) (Sb y)) P):Wp (cw Z (.zp a b) Y) P:=by
 obtain⟨x,e,y,c,h⟩:=h;change Wp (sK (aa Z a Y) (aa Z b Y)) P;rw[e,c];show h
theorem oH(h:Wp (aa Z a Y) λx=>Wp (aa Z b Y) λy=>Wp (iG (Sb x) (Sb y)) P):Wp (cw Z (.rng a b) Y) P:=by
 obtain⟨x,c,y,e,z,d,q⟩:=h;show⟨z,by rw[cw,c,e];show d,q⟩
end
section
variable {Q:KD->Prop} {k k':Kd} {i j:Int}
theorem oI(q:Q (.sh,.int (i+j))):Wp (fw .Add (k,.int i) (k',.int j)) Q:=oE q
theorem zn(q:Q (.sh,.int (i-j))):Wp (fw .Sub (k,.int i) (k',.int j)) Q:=oE q
theorem Gu(h:i.natAbs<lim/\j.natAbs<lim)(q:Q (.sh,.int (i*j))):Wp (fw .Mult (k,.int i) (k',.int j)) Q:=⟨_,iB (if_pos h),q⟩
theorem Cg(h:0<j/\j.natAbs<lim)(q:Q (.sh,.int (i / j))):Wp (fw .FloorDiv (k,.int i) (k',.int j)) Q:=⟨_,iB (if_pos h),q⟩
theorem Gv(h:0<j)(q:Q (.sh,.int (i%j))):Wp (fw .Mod (k,.int i) (k',.int j)) Q:=⟨_,iB (if_pos h),q⟩
theorem Gx(h:0<=j/\j<=1000000/\i.natAbs<lim)(q:Q (.sh,.int (i*2^j.toNat))):Wp (fw .LShift (k,.int i) (k',.int j)) Q:=⟨_,iB (if_pos h),q⟩
theorem Gy(h:0<=j)(q:Q (.sh,.int (i / 2^j.toNat))):Wp (fw .RShift (k,.int i) (k',.int j)) Q:=⟨_,iB (if_pos h),q⟩
theorem zo{xs ys:List D}(h:jd k xs=Se/\jd k' ys=Se/\xs.length+ys.length<=100000)(q:Q (.fr bJ,.lst (xs++ys))):Wp (fw .Add (k,.lst xs) (k',.lst ys)) Q:=⟨_,if_pos h,q⟩
variable {T:Bool->Prop}
theorem Gz(h:cC 90 x=Se/\cC 90 y=Se)(q:T (wu x y)):Wp (aq .Eq x y) T:=⟨_,if_pos h,q⟩
theorem GA(h:cC 90 x=Se/\cC 90 y=Se)(q:T (!wu x y)):Wp (aq .NotEq x y) T:=⟨_,if_pos h,q⟩
theorem vj:wu (.int i) (.int j)=decide (i=j):=by
 unfold wu py;simp[PyData.eqv]
 try rfl
theorem qM(q:T (decide (i=j))):Wp (aq .Eq (.int i) (.int j)) T:=Gz ⟨rfl,rfl⟩ (by rw[vj];show q)
theorem DB(q:T (!decide (i=j))):Wp (aq .NotEq (.int i) (.int j)) T:=GA ⟨rfl,rfl⟩ (by rw[vj];show q)
variable {xs:List D} {d:D} {n:Nat}
theorem GB(a:kf xs.length z=Sb n)(hd:xs[n]?=Sb d)(q:Q (o9 k n,d)):Wp (sB (Sb (k,.nd .lst xs)) (Sb (k',.int z))) Q:=⟨_,by change(match kf xs.length z with|some j=>(xs[j]?).map (λd=>(o9 k j,d))|none=>Sd)=_;rw[a];change(xs[n]?).map _=_;rw[hd];rfl,q⟩
theorem GD(a:kf xs.length z=Sb n)(hd:xs[n]?=Sb d)(q:Q (o9 k n,d)):Wp (sB (Sb (k,.nd .tup xs)) (Sb (k',.int z))) Q:=⟨_,by change(match kf xs.length z with|some j=>(xs[j]?).map (λd=>(o9 k j,d))|none=>Sd)=_;rw[a];change(xs[n]?).map _=_;rw[hd];rfl,q⟩
theorem vm{m:Nat}{z:Int}(a:0<=z)(h1:z<m):kf m z=Sb z.toNat:=by unfold kf;rw[if_pos a,if_pos h1]
end
theorem GE{Q:KD->Prop}(h:Bj d=Sb n)(q:Q (.sh,.int n)):Wp (fx "len" [(k,d)]) Q:=by
 show⟨(.sh,.int n),?_,q⟩;let e:fx "len" = yh:=by unfold fx;rw[if_pos rfl]
 rw[e];unfold yh;dsimp only;rw[h];rfl
theorem zq{Q:KD->Prop}{i j:Int}(q:Q (.sh,.int (if j<i then j else i))):Wp (fx "min" [(k,.int i),(k',.int j)]) Q:=⟨_,rfl,q⟩
theorem oJ{Q:KD->Prop}(h:jd k ds=Se)(q:Q (.fr bJ,.lst ds)):Wp (fx "list" [(k,.nd .lst ds)]) Q:=⟨_,if_pos h,q⟩
theorem GF{Q:KD->Prop}{bs:List Bool}(q:Q (.sh,.bl (bs.all id))):Wp (fx "all" [(k,.nd .lst (bs.map D.bl))]) Q:=by
 show⟨(.sh,.bl (bs.all id)),?_,q⟩;let e:fx "all" [(k,.nd .lst (bs.map D.bl))]=(dB (bs.map D.bl)).map λbs=>(Kd.sh,D.bl (bs.all id)):=rfl;rw[e,jK];rfl
theorem qN{B:Fn}{kds:List KD}{Q:KD->Prop}(h:Wp (B (kds.map (·.2))) λr=>bv r.1=Sf/\((kds.all λp=>i7 p.1 p.2)=Se\/ll r.1 r.2=Se)/\Q r):Wp (uB B kds) Q:=by
 obtain⟨⟨f,d⟩,e,c,b,q⟩:=h;show⟨(f,d),?_,q⟩;unfold uB;rw[e];dsimp only;by_cases a:(kds.all λp=>i7 p.1 p.2)=Se
 ·rw[if_pos a,if_neg (by simpa using c)]
 ·rw[if_neg a,if_pos (b.resolve_left a)]
section
variable {Z:GG} {Y:Ro} {Q:Kd×D×Ro->Prop}
theorem aN(h:Wp (aa Z.fn e Y) λx=>Q (x.1,x.2,Y)):Wp (aO Z (.p e) Y) Q:=by
 obtain⟨x,a,q⟩:=h;show⟨_,by rw[yP,a];rfl,q⟩
theorem dW{i:Nat}(h:Y[i]?=Sb (Sb ⟨Sf,.own es r,d⟩))(q:Q (.fr (.own es r),d,Y.set i Sd)):Wp (aO Z (.mv i) Y) Q:=⟨_,by rw[FY];unfold wB;rw[h];rfl,q⟩
theorem vn{i:Nat}(h:Y[i]?=Sb (Sb ⟨Sf,k,d⟩))(q:Q (.sh,d,Y.set i (Sb ⟨Sf,.fz,d⟩))):Wp (aO Z (.fz i) Y) Q:=⟨_,by rw[FZ];unfold wC;rw[h],q⟩
theorem fZ{B:Fm}(e:Z.fm f=Sb B)(h:Wp (dD Z as Y) λp=>(cg p.1).Nodup/\∃a,eW p.2 p.1=Sb a/\Wp (B a) λo=>bv o.1=Sf/\o.2.2.length=p.1.length/\Q (o.1,o.2.1,dt p.1 (o.2.2.map HK) p.2)):Wp (aO Z (.io f as) Y) Q:=by
 obtain⟨⟨i,k⟩,g,hn,a,hk,⟨l,d,j⟩,b,c,hl,q⟩:=h;show⟨_,?_,q⟩;rw[sU,e,g];unfold FL;dsimp only;rw[if_pos hn,hk];dsimp only;rw[b];dsimp only;show if_neg (by rw[c];simpa using hl)
theorem zr(c:Z.fn f=Sb B)(h:Wp (ba Z as Y) λp=>Wp (uB B p.1) λr=>Q (r.1,r.2,p.2)):Wp (aO Z (.fn f as) Y) Q:=by
 obtain⟨⟨a,b⟩,g,r,e,q⟩:=h
 show⟨_,by rw[sV,c];rw[g];change(match uB B a with|some (kd,d)=>Sb (kd,d,b)|none=>Sd)=_;rw[e],q⟩
theorem qO{f:List KD->Option KD}(h:Wp a λp=>Wp (f p.1) λr=>Q (r.1,r.2,p.2)):Wp (oS f a) Q:=by
 obtain⟨⟨b,c⟩,g,r,e,q⟩:=h
 show⟨_,by rw[g];change(match f b with|some (kd,d)=>Sb (kd,d,c)|none=>Sd)=_;rw[e],q⟩
theorem oK(h:Wp (ba Z as Y) λp=>Wp (fx x p.1) λr=>Q (r.1,r.2,p.2)):Wp (aO Z (.blt x as) Y) Q:=by rw[BL];show qO h
theorem bX(h:Wp (ba Z as Y) λp=>Wp (iC k (Sb p.1)) λr=>Q (r.1,r.2,p.2)):Wp (aO Z (.tup k as) Y) Q:=by rw[BM];show qO h
theorem oM(h:Wp (ba Z as Y) λp=>∃x y,p.1=[x,y]/\Wp (fw op x y) λr=>Q (r.1,r.2,p.2)):Wp (aO Z (.bin op as) Y) Q:=by
 rw[BN];show qO (h.mono λp ⟨x,y,e,w⟩=>by rw[e];show w)
theorem vo(h:Wp (ba Z as Y) λp=>∃x y,p.1=[x,y]/\Wp (sB (Sb x) (Sb y)) λr=>Q (r.1,r.2,p.2)):Wp (aO Z (.ix as) Y) Q:=by
 rw[F6];show qO (h.mono λp ⟨x,y,e,w⟩=>by rw[e];show w)
theorem i4{cap:List (Option Nat)}(h:Wp (eZ Z it Y) λp=>p.1=[]/\p.2.1.length<=100000/\Wp (az r (eX cap tg (mx Z ts) (aO Z elt)) p.2.1 (bi p.2.2 cap)) λz=>z.2.length=cap.length/\Q (.fr (.own [] r),.lst z.1,dt (iS cap) z.2 p.2.2)):Wp (aO Z (.comp r cap tg it ts elt) Y) Q:=by
 obtain⟨⟨i,j,e⟩,d,b,hl,⟨g,f⟩,c,a,q⟩:=h;show⟨_,?_,q⟩;rw[qw,d];unfold fU;dsimp only at b hl c a⊢;rw[if_pos ⟨b,hl⟩,c];dsimp only;rw[if_pos a]
theorem Ch{i:Nat}(g:Y[i]?=Sb (Sb ⟨Sf,.own es0 r0,.nd .lst ds0⟩))(h:Wp (ba Z as Y) λp=>∃es r ds k1 z a d,p.1=[(k1,.int z),(a,d)]/\p.2[i]?=Sb (Sb ⟨Sf,.own es r,.nd .lst ds⟩)/\(jI (.own es r)=Se/\i7 a d=Se/\0<=z/\z<=100000/\ds.length<100000)/\Q (.sh,.non,p.2.set i (Sb ⟨Sf,.own es r,.lst (ds.take z.toNat++d::ds.drop z.toNat)⟩))):Wp (aO Z (.mutMs "insert" i as) Y) Q:=by
 obtain⟨⟨f,b⟩,j,es,r,ds,k1,z,a,d,e1,c,e,q⟩:=h;dsimp only at e1 c q;subst e1;show⟨_,?_,q⟩;rw[wH,j,g];change fW "insert" i (fV b[i]?) (Sb [(k1,.int z),(a,d)]) b=_;rw[c]
 change(match ju "insert" es r ds [(k1,.int z),(a,d)],b[i]? with|some (d',ds'),Sb (Sb ⟨Sf,k,_⟩)=>Sb (Kd.sh,d',b.set i (Sb ⟨Sf,k,id (.lst ds')⟩))|_,_=>Sd)=_
 have:ju "insert" es r ds [(k1,.int z),(a,d)]=Sb (.non,ds.take z.toNat++d::ds.drop z.toNat):=if_pos e;rw[this,c];rfl
theorem tI{i:Nat}(g:Y[i]?=Sb (Sb ⟨Sf,.own es0 r0,.nd .lst ds0⟩))(h:Wp (aO Z a Y) λp=>∃es r ds,p.2.2[i]?=Sb (Sb ⟨Sf,.own es r,.nd .lst ds⟩)/\(es.length<=ds.length/\bE r (c9 p.1 p.2.1,p.2.1)=Se/\ds.length<100000)/\Q (.sh,.non,p.2.2.set i (Sb ⟨Sf,.own es r,.lst (ds++[p.2.1])⟩))):Wp (aO Z (.mutM "append" i a) Y) Q:=by
 obtain⟨⟨c,d,b⟩,j,es,r,ds,e,f,q⟩:=h;show⟨_,?_,q⟩;rw[yQ,j,g];change fW "append" i (fV b[i]?) (Sb [(c9 c d,d)]) b=_;dsimp only at e f;rw[e]
 change(match ju "append" es r ds [(c9 c d,d)],b[i]? with|some (d',ds'),Sb (Sb ⟨Sf,k,_⟩)=>Sb (Kd.sh,d',b.set i (Sb ⟨Sf,k,id (.lst ds')⟩))|_,_=>Sd)=_
 have:ju "append" es r ds [(c9 c d,d)]=Sb (.non,ds++[d]):=if_pos f;rw[this,e];rfl
variable {A:List RA×Ro->Prop}
theorem dc(q:A ([],Y)):Wp (dD Z .nil Y) A:=⟨_,by rw[dD],q⟩
theorem de{i:Nat}(a:Y[i]?=Sb (Sb s))(h:Wp (dD Z r Y) λp=>A (.ref i::p.1,p.2)):Wp (dD Z (.ref i r) Y) A:=by
 obtain⟨⟨c,d⟩,b,q⟩:=h;show⟨_,by rw[dD,a,b];rfl,q⟩
theorem br(h:Wp (aO Z a Y) λx=>bv (c9 x.1 x.2.1)=Sf/\Wp (dD Z r x.2.2) λp=>A (.val (c9 x.1 x.2.1) x.2.1::p.1,p.2)):Wp (dD Z (.val a r) Y) A:=by
 obtain⟨⟨e,d,i⟩,f,b,⟨g,j⟩,c,q⟩:=h;show⟨_,?_,q⟩;rw[dD,f]
 change(if bv (c9 e d)=Se then Sd else _)=_
 dsimp only at b c;rw[if_neg (by rw[b];decide),c]
variable {S:List KD×Ro->Prop}
theorem aL(h:Wp (aO Z a Y) λx=>Wp (aP Z.fn r x.2.2) λxs=>S ((x.1,x.2.1)::xs,x.2.2)):Wp (ba Z (.fin a r) Y) S:=by
 obtain⟨⟨e,d,b⟩,f,xs,c,q⟩:=h;show⟨_,?_,q⟩;rw[ba,f]
 change(match aP Z.fn r b with|some kds=>Sb ((e,d)::kds,b)|none=>Sd)=_
 dsimp only at c;rw[c]
theorem au(h:Wp (aO Z a Y) λx=>bv (c9 x.1 x.2.1)=Sf/\Wp (ba Z r x.2.2) λp=>S ((c9 x.1 x.2.1,x.2.1)::p.1,p.2)):Wp (ba Z (.cons a r) Y) S:=by
 obtain⟨⟨e,d,i⟩,g,b,⟨f,j⟩,c,q⟩:=h;show⟨_,?_,q⟩;rw[ba,g]
 change(if bv (c9 e d)=Se then Sd else _)=_
 dsimp only at b c;rw[if_neg (by rw[b];decide),c]
variable {T:Bool×Ro->Prop}
theorem nk(h:Wp (aD Z.fn e Y) λb=>T (b,Y)):Wp (d5 Z (.p e) Y) T:=by
 obtain⟨x,a,q⟩:=h;show⟨_,by rw[d5,a];rfl,q⟩
theorem vp(h:Wp (ba Z as Y) λp=>∃x y,p.1=[x,y]/\Wp (aq op x.2 y.2) λb=>T (b,p.2)):Wp (d5 Z (.cmp op as) Y) T:=by
 obtain⟨⟨c,a⟩,d,x,y,e,b,f,q⟩:=h;dsimp only at e;subst e
 show⟨_,by rw[d5,d];change(match aq op x.2 y.2 with|some b=>Sb (b,a)|none=>Sd)=_;rw[f],q⟩
variable {I:List Nat×List D×Ro->Prop}
theorem lS(h:Wp (cw Z.fn it Y) λp=>I (p.1,p.2,Y)):Wp (eZ Z (.p it) Y) I:=by
 obtain⟨x,a,q⟩:=h;show⟨_,by rw[eZ,a];rfl,q⟩
theorem GH{g:Option KD->Option (List Nat×List D)}(h:Wp a λx=>Wp (g (Sb (c9 x.1 x.2.1,x.2.1))) λp=>I (p.1,p.2,x.2.2)):Wp (HL g a) I:=by
 obtain⟨⟨e,d,c⟩,f,p,b,q⟩:=h;show⟨_,by rw[f];change FM (g (Sb (c9 e d,d))) c=_;dsimp only at b;rw[b];rfl,q⟩
theorem kA(h:Wp (aO Z a Y) λx=>Wp (iG (Sb (.sh,.int 0)) (Sb (c9 x.1 x.2.1,x.2.1))) λp=>I (p.1,p.2,x.2.2)):Wp (eZ Z (.rng a) Y) I:=by rw[eZ];show GH h
end
theorem jA{P:List Nat×List D->Prop}(h:eT i j=Se)(q:P ([],d8 i j)):Wp (iG (Sb (k,.int i)) (Sb (k',.int j))) P:=⟨_,if_pos h,q⟩
theorem dX{i j:Int}(h1:-100000<=i)(h2:i<=100000)(a:-100000<=j)(b:j<=100000)(c:j-i<=100000):eT i j=Se:=by
 simp only[eT,Oo,decide_eq_true_eq]
 lia
theorem qP{i j:Int}{n:Nat}(h:(d8 i j)[n]?=Sb d):d=.int (i+n)/\i+n<j:=by
 unfold d8 at h;rw[Op] at h;obtain⟨m,hm,rfl⟩:=bq h;let hl:=(OA.mp hm).1;rw[P4] at hl;rw[Qc hl] at hm;cases hm;show⟨rfl,by lia⟩
theorem eK{i j:Int}:(d8 i j).length=(j-i).toNat:=by simp[d8]
theorem jB{P:List Nat×List D->Prop}(h:jd k ds=Se)(q:P (mn k,ds)):Wp (sJ (Sb (k,.nd .lst ds))) P:=⟨_,if_pos h,q⟩
theorem GI{P:List Nat×List D->Prop}(h:jd k ds=Se)(q:P ([],ds)):Wp (sJ (Sb (k,.nd .tup ds))) P:=⟨_,if_pos h,q⟩
def Kt(Z:GG)(N:Nat)(rest:bC)(pn:List Nat)(Q:Res->Prop):Res->Prop
 |.nx Y=>Wp (aY Z N rest pn Y) Q
 |r=>Q r
section
variable {Z:GG} {N:Nat} {pn:List Nat} {Y:Ro} {Q:Res->Prop} {rest:bC}
theorem dz(h:Wp (aY Z N rest pn Y) Q):Kt Z N rest pn Q (.nx Y):=h
theorem fq(h:Q (.rt k d Y)):Kt Z N rest pn Q (.rt k d Y):=h
theorem aQ(q:Q (.nx Y)):Wp (aY Z N .nil pn Y) Q:=⟨_,by rw[aY],q⟩
theorem fc(h:Wp (gP Z N s pn Y) (Kt Z N rest pn Q)):Wp (aY Z N (.cons s rest) pn Y) Q:=by
 obtain⟨r,a,q⟩:=h
 cases r with
 |nx b=>obtain⟨z,c,q⟩:=q;show⟨z,by rw[aY,a];show c,q⟩
 |rt k d b=>show⟨_,by rw[aY,a];rfl,q⟩
 |ct b=>show⟨_,by rw[aY,a];rfl,q⟩
 |bk b=>show⟨_,by rw[aY,a];rfl,q⟩
theorem bU(h:Wp (aO Z a Y) λx=>(bv (c9 x.1 x.2.1)=Sf/\i∉pn)/\Wp (aY Z N rest pn (x.2.2.set i (Sb ⟨Sf,HN (c9 x.1 x.2.1),x.2.1⟩))) Q):Wp (aY Z N (.cons (.asg i a) rest) pn Y) Q:=by
 obtain⟨⟨f,d,e⟩,c,b,w⟩:=h;show fc ⟨.nx _,?_,dz w⟩;rw[BV,c];show if_neg (by dsimp only at b;rw[b.1];simpa using b.2)
theorem oN{b:List Nat}(h:Wp (aO Z a Y) λx=>∃ds es r,x.2.1=.nd .tup ds/\jv x.1 ds=Sb (es,r)/\(b.length=ds.length/\(b.all λi=>!pn.contains i)=Se)/\Wp (aY Z N rest pn (wK b ds es r x.2.2)) Q):Wp (aY Z N (.cons (.unp b a) rest) pn Y) Q:=by
 obtain⟨⟨f,d,e⟩,g,ds,es,r,c,hk,hl,w⟩:=h;dsimp only at c hk;subst c;show fc ⟨.nx _,?_,dz w⟩;rw[BW,g]
 change(match jv f ds with|some (es,r)=>if b.length=ds.length/\(b.all λi=>!pn.contains i)=Se then Sb (Res.nx (wK b ds es r e)) else Sd|none=>Sd)=_
 rw[hk];show if_pos hl
theorem jS{b:BP}(h:Wp (aO Z a Y) λx=>Wp (rB Z.fn b x.2.2) λp=>Wp (aa Z.fn k x.2.2) λy=>∃es r hd ds c i,p.1=.own es r/\p.2.1=.nd hd ds/\x.2.2[b.slot]?=Sb (Sb ⟨Sf,c,i⟩)/\Wp (my es r hd ds y.2 (c9 x.1 x.2.1,x.2.1)) λz=>Wp (aY Z N rest pn (x.2.2.set b.slot (Sb ⟨Sf,c,p.2.2 (.nd z.1 z.2)⟩))) Q):Wp (aY Z N (.cons (.put b k a) rest) pn Y) Q:=by
 obtain⟨⟨s,d,q⟩,j,⟨pk,u,t⟩,f,⟨n,o⟩,g,es,r,hd,ds,c,i,e1,e2,e3,⟨l,m⟩,e,w⟩:=h;dsimp only at e1 e2 e3 f g e;subst e1 e2;show fc ⟨.nx _,?_,dz w⟩;rw[BX,j];unfold wM;dsimp only;rw[f,g,e3];dsimp only;rw[e]
theorem cu(h:Wp (aO Z a Y) λx=>bv (c9 x.1 x.2.1)=Sf/\Q (.rt (c9 x.1 x.2.1) x.2.1 x.2.2)):Wp (aY Z N (.cons (.ret a) rest) pn Y) Q:=by
 obtain⟨⟨f,d,e⟩,c,b,q⟩:=h;show fc ⟨.rt _ _ _,?_,fq q⟩;rw[BY,c];show if_neg (by dsimp only at b;rw[b];decide)
theorem eL(h:Wp (aO Z a Y) λx=>Wp (aY Z N rest pn x.2.2) Q):Wp (aY Z N (.cons (.exp a) rest) pn Y) Q:=by
 obtain⟨⟨e,d,c⟩,b,w⟩:=h;show fc ⟨.nx _,?_,dz w⟩;rw[BZ,b];rfl
theorem DC(h:Wp (d5 Z t Y) λp=>(p.1=Se->Wp (aY Z N a pn p.2) (Kt Z N rest pn Q))/\(p.1=Sf->Wp (aY Z N b pn p.2) (Kt Z N rest pn Q))):Wp (aY Z N (.cons (.ifs t a b) rest) pn Y) Q:=by
 obtain⟨⟨r,f⟩,d,q1,e⟩:=h
 cases r with
 |true=>obtain⟨x,c,q⟩:=q1 rfl;show fc ⟨x,by rw[va,d];show c,q⟩
 |false=>obtain⟨x,c,q⟩:=e rfl;show fc ⟨x,by rw[va,d];show c,q⟩
theorem qQ{a:Ro->Option Res}(I:Nat->Ro->Prop):∀(ds:List D) (j:Nat) (Y:Ro),I j Y->(∀(i:Nat) d Y,ds[i]?=Sb d->I (j+i) Y->∃ps,rA tg d=Sb ps/\(ps.all λp=>!pn.contains p.1)=Se/\Wp (a (setAll ps (clrN fg Y))) λr=>∃Y',(r=.nx Y'\/r=.ct Y')/\I (j+i+1) Y')->
  ∃Y',gO pn fg tg a ds Y=Sb (.nx (clrN fg Y'))/\I (j+ds.length) Y'
 |[],j,Y,h0,_=>⟨Y,rfl,h0⟩
 |d::ds,j,Y,h0,hs=>by
  obtain⟨ps,e1,e2,r,l,k,h,m⟩:=hs 0 d Y rfl h0
  obtain⟨c,e3,b⟩:=qQ I ds (j+1) k m λi g Y' e f=>by
   have:=hs (i+1) g Y' (by simpa using e) (by rw[show j+(i+1)=j+1+i by lia];show f);rw[show j+(i+1)+1=j+1+i+1 by lia] at this;show this
  show⟨c,?_,by rw[OM,show j+(ds.length+1)=j+1+ds.length by lia];show b⟩;unfold gO;rw[e1];dsimp only;rw[if_pos e2,l];rcases h with rfl|rfl
  ·show e3
  ·show e3
theorem vq(h:Wp (eZ Z it Y) λp=>∃I:Nat->Ro->Prop,I 0 (clrN p.1 p.2.2)/\(∀(i:Nat) d Y,p.2.1[i]?=Sb d->I i Y->∃ps,rA tg d=Sb ps/\(ps.all λq=>!(pn++p.1).contains q.1)=Se/\Wp (aY Z N b (pn++p.1) (setAll ps (clrN fg Y))) λr=>∃Y',(r=.nx Y'\/r=.ct Y')/\I (i+1) Y')/\
  ∀Y',I p.2.1.length Y'->Wp (aY Z N rest pn (Ax p.1 p.2.2 (clrN fg Y'))) Q):Wp (aY Z N (.cons (.fo fg tg it b) rest) pn Y) Q:=by
 obtain⟨⟨a,f,c⟩,k,I,l,g,m⟩:=h
 obtain⟨Y',e1,n⟩:=qQ (pn:=pn++a) I f 0 (clrN a c) l λi d Y e j=>by
  have:=g i d Y e (by simpa using j);simpa using this
 show fc ⟨.nx _,?_,dz (m Y' (by simpa using n))⟩;rw[Gi,k];change yZ a c (gO (pn++a) fg tg (aY Z N b (pn++a)) f (clrN a c))=_;rw[e1];rfl
end
theorem vt{f:D->Ro->Option (Option KD×Ro)}{Q:List D×Ro->Prop}{ds:List D}{Y:Ro}(I:Nat->List D->Ro->Prop)(u:I 0 [] Y)(l:∀(i:Nat) d ys Y,ds[i]?=Sb d->I i ys Y->Wp (f d Y) λo=>∃kd,o.1=Sb kd/\bE r kd=Se/\I (i+1) (ys++[kd.2]) o.2)(v:∀ys Y,I ds.length ys Y->Q (ys,Y)):Wp (az r f ds Y) Q:=by
 let b:∀n,n<=ds.length->∃ys a,az r f (ds.take n) Y=Sb (ys,a)/\I n ys a:=by
  intro n
  induction n with
  |zero=>intro _;show⟨[],Y,by simp[az],u⟩
  |succ n q=>
   intro hn;obtain⟨ys,s,e1,w⟩:=q (by lia);let c:ds[n]?=Sb ds[n]:=Ot (by lia);obtain⟨⟨o,m⟩,k,kd,j,t,g⟩:=l n _ ys s c w;dsimp only at j g;subst j;let p:ds.take (n+1)=ds.take n++[ds[n]]:=by rw[Pp,c];rfl
   show⟨ys++[kd.2],m,?_,g⟩;rw[p];show cZ e1 (by simp[az,k,t])
 obtain⟨ys,a,e,h⟩:=b ds.length (Ox _);rw[OR] at e;show⟨_,e,v ys a h⟩
theorem Mz{f:D->Option (Option KD)}{Q:List D->Prop}{ds:List D}(P:Nat->D->Prop)(c:∀(i:Nat) d,ds[i]?=Sb d->Wp (f d) λo=>∃kd,o=Sb kd/\bE r kd=Se/\P i kd.2)(n:∀ys,ys.length=ds.length->(∀(i:Nat) y,ys[i]?=Sb y->P i y)->Q ys):Wp (aT r f ds) Q:=by
 let a:∀(ds:List D) (j:Nat),(∀(i:Nat) d,ds[i]?=Sb d->Wp (f d) λo=>∃kd,o=Sb kd/\bE r kd=Se/\P (j+i) kd.2)->∃ys,aT r f ds=Sb ys/\ys.length=ds.length/\∀(i:Nat) y,ys[i]?=Sb y->P (j+i) y:=by
  intro ds
  induction ds with
  |nil=>intro j _;show⟨[],rfl,rfl,λi y e=>by simp at e⟩
  |cons d ds k=>
   intro j h;obtain⟨o,b,kd,rfl,m,l⟩:=h 0 d rfl
   obtain⟨ys,e1,e2,e3⟩:=k (j+1) λi g e=>by
    have:=h (i+1) g (by simpa using e);rw[show j+(i+1)=j+1+i by lia] at this;show this
   show⟨kd.2::ys,by simp[aT,b,e1,m],by simp[e2],λi y e=>?_⟩
   cases i with
   |zero=>simp at e;subst e;show l
   |succ i=>
    rw[show j+(i+1)=j+1+i by lia];show e3 i y (by simpa using e)
 obtain⟨ys,e1,e2,e3⟩:=a ds 0 λi d e=>by simpa using c i d e
 show⟨ys,e1,n ys e2 λi y e=>by simpa using e3 i y e⟩
theorem DD{b:Ro->Option Bool}{a:Ro->Option KD}{Q:Option KD->Prop}(h1:rA tg d=Sb ps)(h2:bA ps Y0=Se)(e:b (setAll ps Y0)=Sb Se)(h:Wp (a (setAll ps Y0)) λx=>Q (Sb x)):Wp (dP tg b a Y0 d) Q:=by
 obtain⟨x,c,q⟩:=h;show⟨_,?_,q⟩;unfold dP;rw[h1];dsimp only;rw[if_pos h2,e];dsimp only;rw[c];rfl
theorem oO{e:Ro->Option (Bool×Ro)}{c:Ro->MR}{Q:Option KD×Ro->Prop}(h1:rA tg d=Sb ps)(h2:bA ps Y0=Se/\yJ cap ps=Se)(h:Wp (e (setAll ps Y0)) λb=>(b.1=Se->Wp (c b.2) λx=>Q (Sb (c9 x.1 x.2.1,x.2.1),clr ps x.2.2))/\(b.1=Sf->Q (Sd,clr ps b.2))):Wp (eX cap tg e c d Y0) Q:=by
 obtain⟨⟨b,k⟩,f,q1,g⟩:=h
 cases b with
 |true=>
  obtain⟨⟨j,l,i⟩,a,q⟩:=q1 rfl;show⟨_,?_,q⟩;unfold eX;rw[h1];dsimp only;rw[if_pos h2,f];dsimp only at a⊢;rw[a]
 |false=>
  show⟨_,?_,g rfl⟩;unfold eX;rw[h1];dsimp only;rw[if_pos h2,f]
theorem oP{b:Ro->Option (Bool×Ro)}{a:Ro->MR}{Q:Option KD×Ro->Prop}(h1:rA tg d=Sb ps)(h2:bA ps Y0=Se/\yJ cap ps=Se)(c:b (setAll ps Y0)=Sb (Se,setAll ps Y0))(h:Wp (a (setAll ps Y0)) λx=>Q (Sb (c9 x.1 x.2.1,x.2.1),clr ps x.2.2)):Wp (eX cap tg b a d Y0) Q:=
 oO h1 h2 ⟨_,c,λ_=>h,λe=>by cases e⟩
theorem zt{ds:List D}(hl:ds.length=m)(h:Wp (aY Z N body [] (lO k (ds.map Cb))) λr=>Wp (g9 (Sb r)) Q):Wp (ci Z N m k body ds) Q:=by
 obtain⟨r,a,z,b,q⟩:=h;show⟨z,by unfold ci;rw[if_pos hl,a];show b,q⟩
theorem qR{a:List iQ}(hl:a.length=m)(h:Wp (aY Z N body pn (lO k a)) λr=>Wp (gQ m pn (Sb r)) Q):Wp (fY Z N m k pn body a) Q:=by
 obtain⟨r,b,z,c,q⟩:=h;show⟨z,by unfold fY;rw[if_pos hl,b];show c,q⟩
theorem gR{Q:KD->Prop}(a:bv kd=Sf)(q:Q (kd,d)):Wp (g9 (Sb (.rt kd d Y))) Q:=⟨_,if_neg (by rw[a];decide),q⟩
theorem f6{Q:Kd×D×List (Option iQ)->Prop}(a:bv kd=Sf)(q:Q (kd,d,outs m pn Y)):Wp (gQ m pn (Sb (.rt kd d Y))) Q:=⟨_,if_neg (by rw[a];decide),q⟩
theorem f7{c:Ow}{p2:D}{o:Option (Option Sl)}{es:List Ow}{r:Ow}{hd:Hd}{ds:List D}{a:Ow}{b:D}{P:List Ow->Ow->Hd->List D->Ow->D->Prop}(e1:c=.own es r)(e2:p2=.nd hd ds)(e3:o=Sb (Sb ⟨Sf,a,b⟩))(h:P es r hd ds a b):∃es r hd ds a b,c=.own es r/\p2=.nd hd ds/\o=Sb (Sb ⟨Sf,a,b⟩)/\P es r hd ds a b:=⟨es,r,hd,ds,a,b,e1,e2,e3,h⟩
theorem qS{Q:Ow×D×(D->D)->Prop}(h:rB Z b Y=Sb r)(q:Q r):Wp (rB Z b Y) Q:=⟨r,h,q⟩
theorem f8{Q:Hd×List D->Prop}(h:my es k hd ds d x=Sb r)(q:Q r):Wp (my es k hd ds d x) Q:=⟨r,h,q⟩
theorem bY{Q:KD->Prop}(h:iC k a=Sb r)(q:Q r):Wp (iC k a) Q:=⟨r,h,q⟩
mutual
theorem vz:∀{d:D} {n:Nat},cC n d=Se->(py d).canLay0=Se
 |.non,_,_=>by simp[py,PyData.canLay0]
 |.bl _,_,_=>by simp[py,PyData.canLay0]
 |.int _,_,_=>by simp[py,PyData.canLay0]
 |.str x,_,h=>by simpa[py,PyData.canLay0,cC] using h
 |.scr ns,_,_=>by simpa[py,PyData.canLay0] using(kh ns).1
 |.nd .lst ds,n,h=>by
  simp only[cC,Oo] at h;simpa[py,PyData.canLay0] using lT h.2
 |.nd .tup ds,n,h=>by
  simp only[cC,Oo] at h;simpa[py,PyData.canLay0] using lT h.2
 |.nd (.dic _ _) _,n,h=>by simp[cC] at h
 |.nd (.obj _ _) _,n,h=>by simp[cC] at h
theorem lT:∀{ds:List D} {n:Nat},gC n ds=Se->PyData.canLayAll0 (mU ds)=Se
 |[],_,_=>by simp[mU,PyData.canLayAll0]
 |d::ds,n,h=>by
  simp only[gC,Oo] at h;simp[mU,PyData.canLayAll0,vz h.1,lT h.2]
end
theorem qT(h:cC n d=Se):wu d d=Se:=by unfold wu;show PySem.SeqAt.eqv_refl _ (vz h)
theorem kB:∀{ds:List D},(∀d∈ds,cC n d=Se)->gC n ds=Se
 |[],_=>rfl
 |d::ds,h=>by simp only[gC,Oo];show⟨h d OL,kB λd a=>h d (OH _ a)⟩
end J
section
open PySem L2 J
local macro_rules | `(tactic| walk_at "fsc")=>`(tactic| show ⟨rfl,rfl,rfl,by nofun,rfl,by nofun,by nofun⟩)
local macro_rules | `(tactic| walk_at "bnd")=>`(tactic| show λ_ _ _ _ _ _=>by first | show J.J6 (λ_=>rfl) | show J.us2 (λ_ _=>rfl) | show J.Nz (λ_ _ _=>rfl) | show J.K1 (λ_ _ _ _=>rfl) | show J.N9 (λ_ _ _ _ _=>rfl))
namespace K28
open PySem L2 J
noncomputable abbrev nL(i:Int):IE:=.lit (.int i)
noncomputable abbrev sL(s:Str):IE:=.lit (.str s)
noncomputable def gz(i:Nat):Su:=PySem.Challenge.pw_gatepapers_k28_memories.main.body.getD i (.Pass ⟨0,0,0,0⟩)
noncomputable def fns:Nms:=⟨((["rows_of","first_state","turn","stateful","state_ahead","part_turn","scene_of","next_room","valued","ones","compared","reckoned","_law_pot","_law_next","_law_names","_law_few","_law_leaf","_law_grown","_law_ended","_law_bits","_law_number","_law_summed","_law_two","_law_worth","_law_begun","_law_known","_law_next_room","_law_turned","_law_any_state","_law_whole"]:List Str)++(["_law_same","_law_copy","_law_asked","_law_alone","law","Scene"]:List Str)),[],λl c=>match l,c with|235,22=>Sb (.own [.fz] .fz)|320,33=>Sb (.own [.fz] .fz)|47,11=>Sb (.own [] (.own [] .fz))|_,_=>Sd,λl c=>match l,c with|183,12=>Sb Se|183,23=>Sb Se|193,11=>Sb Se|223,31=>Sb Se|233,11=>Sb Se|247,12=>Sb Se|247,29=>Sb Se|263,113=>Sb Se|27,11=>Sb Se|274,119=>Sb Se|284,11=>Sb Se|300,51=>Sb Sf|300,64=>Sb Sf|316,70=>Sb Se|327,54=>Sb Se|327,71=>Sb Se|329,34=>Sb Sf|38,67=>Sb Se|47,12=>Sb Se|56,11=>Sb Se|_,_=>Sd,λi=>match i with|13=>Sb [Se,Sf]|14=>Sb [Se]|15=>Sb [Se,Sf]|16=>Sb [Se,Sf,Sf]|17=>Sb [Se,Sf,Sf,Sf]|18=>Sb [Se,Sf,Sf,Sf,Sf]|28=>Sb [Se,Sf,Sf]|33=>Sb [Se,Sf,Sf,Sf]|_=>Sd,λ_ _=>[],[("Scene",["names","rooms","outs"])]⟩
noncomputable def an:An:=⟨λl=>match l with|20=>[3]|43=>[12]|50=>[5]|54=>[4]|58=>[4]|123=>[4]|171=>[7]|175=>[8,9,10]|177=>[11,12,7]|179=>[7,13,14]|190=>[4,5]|226=>[3]|237=>[6]|239=>[5,7]|243=>[8,9]|264=>[10,11]|277=>[4]|299=>[8,9,10]|306=>[10]|314=>[7,8]|334=>[11,12]|_=>[],λl=>match l with|107=>[3]|338=>[8]|320=>[11]|326=>[4]|_=>[],λ_=>Sf,λl=>match l with|9=>Se|24=>Se|26=>Se|30=>Se|35=>Se|37=>Se|38=>Se|39=>Se|40=>Se|44=>Se|45=>Se|46=>Se|55=>Se|178=>Se|179=>Se|230=>Se|232=>Se|243=>Se|246=>Se|260=>Se|262=>Se|263=>Se|264=>Se|271=>Se|273=>Se|281=>Se|283=>Se|308=>Se|315=>Se|_=>Sf⟩
abbrev s0:Su:=gz 1
section
local macro_rules|`([])=>`(.nil)|`([$a])=>`(.cons $a .nil)|`([$a,$b,*])=>`(.cons $a [$b,*])|`(↑$a)=>`(.var $a)|`(($a:num))=>`(nL $a)|`(($a:str))=>`(sL $a)
def b0:bC:=[.ret (.p (.comp .fz [Sd,Sd,Sb 1] (.nm 1) (.e ↑0) (.som (.cmp .Eq (.ix ↑1 (0)) ↑2)) ↑1))]
abbrev s1:Su:=gz 3
noncomputable def b1:bC:=[.ret (.p (.fn 4 [.blt "dict" [↑0],↑1]))]
abbrev s2:Su:=gz 4
noncomputable def b2:bC:=[.unp [4,5] (.p (.fn 5 [.blt "dict" [↑0],↑1,↑2,↑3])),.stk]
noncomputable abbrev NA:List Str:=["program","name","state","ins","outs","after"]
theorem Oa:bc NA ["program","name","state","ins"] (ai s2):=by walk_at "fsc"
abbrev s3:Su:=gz 6
def b3:bC:=[.ret (.p (.comp .fz [Sd,Sd] (.nm 1) (.e ↑0) (.som (.cmp .In (.ix ↑1 (0)) (.tup .fz [("memory"),("rooms"),("use")]))) ↑1))]
abbrev s4:Su:=gz 7
def b4:bC:=[.asg 2 (.p (.lst (.own [] .fz) [])),.fo [3] (.nm 3) (.p (.e (.fn 3 [.ix ↑0 ↑1]))) [.ifs (.p (.cmp .Eq (.ix ↑3 (0)) ("memory"))) [.exp (.mut "append" (.nm 2) [.ix ↑3 (3)])] [.ifs (.p (.cmp .Eq (.ix ↑3 (0)) ("rooms"))) [.stk] [.stk]]],.ret (.mv 2)]
abbrev s5:Su:=gz 8
def b5:bC:=[.asg 4 (.p (.ix ↑0 ↑1)),.stk,.asg 7 (.p (.fn 6 [↑4,↑6,↑3])),.asg 8 (.p (.dnew 0 .fz)),.fo [] (.nm 5) (.p (.e ↑4)) [.ifs (.p (.cmp .Eq (.ix ↑5 (0)) ("wire"))) [.stk] [.ifs (.p (.cmp .Eq (.ix ↑5 (0)) ("use"))) [.stk,.stk,.stk,.stk] []]],.fo [] (.nm 5) (.p (.e (.fn 0 [↑4,("memory")]))) [.put (.nm 8) (.ix ↑5 (1)) (.p (.ix (.fn 8 [.ix ↑5 (4),↑7]) (0)))],.fo [12] (.nm 5) (.p (.e (.fn 0 [↑4,("rooms")]))) [.stk,.stk],.stk,.ret (.tup (.own [] (.own [] .fz)) (.fin (.mv 13) [.comp .fz [Sd,Sd,Sb 8] (.nm 1) (.e (.fn 3 [↑4])) .non (.ix ↑2 (.ix ↑1 (1)))]))]
noncomputable abbrev NB:List Str:=["parts","name","state","ins","rows","row","before","scene","after","handed","used","later","goings","outs"]
theorem Ob:bc NB ["parts","name","state","ins"] (ai s5):=by walk_at "fsc"
abbrev s6:Su:=gz 9
def b6:bC:=[.asg 3 (.p (.fn 35 [])),.fo [5] (.tp [.nm 4,.nm 5]) (.p (.zp (.fn 0 [↑0,("in")]) ↑2)) [.put (.fld (.nm 3) "names") (.ix ↑4 (1)) (.p (.tup .fz [↑5,.ix ↑4 (2)]))],.fo [] (.nm 4) (.p (.e (.fn 0 [↑0,("memory")]))) [.put (.fld (.nm 3) "names") (.ix ↑4 (1)) (.p (.tup .fz [.ix ↑1 (.ix ↑4 (1)),.ix ↑4 (2)]))],.fo [4] (.nm 4) (.p (.e (.fn 0 [↑0,("rooms")]))) [.stk],.ret (.mv 3)]
abbrev s8:Su:=gz 11
def b8:bC:=[.asg 2 (.p (.ix ↑0 (0))),.ifs (.p (.cmp .Eq ↑2 ("name"))) [.ret (.p (.ix (.fld "names" ↑1) (.ix ↑0 (1))))] [],.ifs (.p (.cmp .Eq ↑2 ("number"))) [.ret (.p (.tup .fz [.ix ↑0 (2),.ix ↑0 (1)]))] [],.ifs (.p (.cmp .Eq ↑2 ("of"))) [.ret (.p (.ix (.ix (.fld "outs" ↑1) (.ix ↑0 (1))) (.ix ↑0 (2))))] [],.ifs (.p (.cmp .Eq ↑2 ("at"))) [.ret (.p (.tup .fz [.ix (.ix (.fld "rooms" ↑1) (.ix ↑0 (1))) (.ix ↑0 (2)),(1)]))] [],.unp [3,4] (.p (.fn 8 [.ix ↑0 (1),↑1])),.ifs (.p (.cmp .Eq ↑2 ("not"))) [.ret (.p (.tup .fz [.bin .BitXor ↑3 (.fn 9 [↑4]),↑4]))] [],.ifs (.p (.cmp .Eq ↑2 ("cut"))) [.ret (.p (.tup .fz [.bin .BitAnd (.bin .RShift ↑3 (.ix ↑0 (2))) (.fn 9 [.ix ↑0 (3)]),.ix ↑0 (3)]))] [],.ifs (.p (.cmp .Eq ↑2 ("if"))) [.ret (.p (.fn 8 [.ifx (.cmp .Eq ↑3 (1)) (.ix ↑0 (2)) (.ix ↑0 (3)),↑1]))] [],.unp [5,6] (.p (.fn 8 [.ix ↑0 (2),↑1])),.ifs (.p (.cmp .Eq ↑2 ("join"))) [.ret (.p (.tup .fz [.bin .BitOr ↑3 (.bin .LShift ↑5 ↑4),.bin .Add ↑4 ↑6]))] [],.ifs (.p (.cmp .In ↑2 (.tup .fz [("same"),("less")]))) [.ret (.p (.tup .fz [.fn 10 [↑2,↑3,↑5],(1)]))] [],.ret (.p (.tup .fz [.bin .BitAnd (.fn 11 [↑2,↑3,↑5]) (.fn 9 [↑4]),↑4]))]
abbrev s9:Su:=gz 12
def b9:bC:=[.ret (.p (.bin .Sub (.bin .LShift (1) ↑0) (1)))]
abbrev mf:Su:=gz 13
def MA:bC:=[.asg 3 (.p (.ifx (.cmp .Eq ↑0 ("same")) (.cmp .Eq ↑1 ↑2) (.cmp .Lt ↑1 ↑2))),.ret (.p (.ifx ↑3 (1) (0)))]
abbrev Ay:Su:=gz 14
def MB:bC:=[.ifs (.p (.cmp .Eq ↑0 ("and"))) [.ret (.p (.bin .BitAnd ↑1 ↑2))] [],.ifs (.p (.cmp .Eq ↑0 ("or"))) [.ret (.p (.bin .BitOr ↑1 ↑2))] [],.ifs (.p (.cmp .Eq ↑0 ("xor"))) [.ret (.p (.bin .BitXor ↑1 ↑2))] [],.ifs (.p (.cmp .Eq ↑0 ("plus"))) [.ret (.p (.bin .Add ↑1 ↑2))] [],.ret (.p (.bin .Sub ↑1 ↑2))]
abbrev Az:Su:=gz 16
def MC:bC:=[.asg 1 (.p (5)),.fo [] (.nm 2) (.p (.e (.sl ↑0 .non (.som (63))))) [.asg 1 (.p (.bin .Mod (.bin .Add (.bin .Add (.bin .Mult ↑1 (7919)) (.bin .Mod ↑2 (.bin .Pow (10) (20)))) (3)) (2147483629)))],.asg 3 (.p (.bin .Add (.comp .fz [Sd,Sd] (.nm 1) (.e (.sl ↑0 .non (.som (1)))) .non (.bin .FloorDiv ↑1 (2))) (.sl ↑0 (.som (1)) (.som (63))))),.asg 4 (.p (.bool .And [.cmp .Gt (.blt "len" [↑0]) (0),.cmp .Eq (.bin .Mod (.ix ↑0 (0)) (2)) (1)])),.pre [3] (.ret (.p (.dspN [.str "digits",.str "cells",.str "number",.str "seed",.str "room",.str "rows"] [↑4,↑3,(0),↑1,(40),(24)])))]
abbrev NC:Su:=gz 17
def J8:bC:=[.wh [] (.p (.bool .And [.ix ↑0 ("digits"),.cmp .Eq (.ix ↑0 ("number")) (0),.cmp .Gt (.blt "len" [.ix ↑0 ("cells")]) (0)])) [.put (.nm 0) ("number") (.p (.bin .Mod (.ix (.ix ↑0 ("cells")) (0)) (.bin .Pow (10) (60)))),.put (.nm 0) ("cells") (.p (.sl (.ix ↑0 ("cells")) (.som (1)) .non))],.ifs (.p (.bool .And [.ix ↑0 ("digits"),.cmp .Gt (.ix ↑0 ("number")) (0)])) [.asg 2 (.p (.bin .Mod (.ix ↑0 ("number")) ↑1)),.put (.nm 0) ("number") (.p (.bin .FloorDiv (.ix ↑0 ("number")) ↑1)),.ret (.p ↑2)] [],.put (.nm 0) ("seed") (.p (.bin .Mod (.bin .Add (.bin .Mult (.ix ↑0 ("seed")) (48271)) (1009)) (2147483647))),.asg 3 (.p (.bin .Mod (.bin .Mult (.bin .Add (.bin .Mod (.ix ↑0 ("seed")) (65521)) (17)) (.bin .Add (.bin .FloorDiv (.ix ↑0 ("seed")) (31)) (7))) (2147483587))),.ret (.p (.bin .Mod (.bin .FloorDiv ↑3 (11)) ↑1))]
abbrev ND:Su:=gz 18
def J9:bC:=[.asg 1 (.bin .Add (.cons (.p (2)) (.fin (.io 13 (.ref 0 (.val (.p (7)) []))) []))),.asg 2 (.io 13 (.ref 0 (.val (.p ↑1) []))),.asg 3 (.p (.lst (.own [] .fz) [])),.fo [4] (.nm 4) (.p (.e ("qjv"))) [.exp (.mut "extend" (.nm 3) [.comp .fz [Sd,Sd,Sb 2,Sb 4,Sb 1] (.nm 1) (.e ("bcdfghjklmnprstvwxyz")) .non (.bin .Add (.bin .Add (.bin .Mult ↑3 ↑2) ↑1) (.bin .Mult ↑3 (.bin .Sub (.bin .Sub ↑4 (1)) ↑2)))])],.ifs (.cmp .Eq (.fin (.io 13 (.ref 0 (.val (.p (2)) []))) [(1)])) [.asg 3 (.p (.comp .fz [Sd,Sd] (.nm 1) (.rng (0) (60)) .non (.bin .Add (.ix ("bdghkmnp") (.bin .FloorDiv ↑1 (8))) (.bin .Mult ("q") (.bin .Mod ↑1 (8))))))] [],.asg 5 (.io 13 (.ref 0 (.val (.p (60)) []))),.asg 6 (.ix (.cons (.p (.lst (.own [] .fz) [(1),(7),(11),(13),(17),(19),(23),(29)])) (.fin (.io 13 (.ref 0 (.val (.p (8)) []))) []))),.ret (.p (.comp .fz [Sd,Sd,Sb 5,Sb 3,Sb 6] (.nm 1) (.rng (0) (60)) .non (.ix ↑3 (.bin .Mod (.bin .Add ↑2 (.bin .Mult ↑4 ↑1)) (60)))))]
abbrev NE:Su:=gz 19
def HS:bC:=[.asg 2 (.ix (.cons (.p (.lst (.own [] .fz) [↑1,(9)])) (.fin (.blt "int" (.fin (.cmp .Eq (.fin (.io 13 (.ref 0 (.val (.p (8)) []))) [(0)])) [])) []))),.asg 3 (.blt "min" (.cons (.p (.ix ↑0 ("rows"))) (.fin (.io 13 (.ref 0 (.val (.p (.bin .Add ↑2 (1))) []))) []))),.ifs (.p (.cmp .Lt (.ix ↑0 ("room")) (0))) [.asg 3 (.p (0))] [],.put (.nm 0) ("rows") (.p (.bin .Sub (.ix ↑0 ("rows")) ↑3)),.ret (.p ↑3)]
abbrev NF:Su:=gz 20
def MD:bC:=[.asg 3 (.p (.comp .fz [Sd,Sd,Sd,Sb 2] (.tp [.nm 1,.nm 2]) (.e ↑1) (.som (.cmp .Eq ↑2 ↑3)) ↑1)),.asg 4 (.io 13 (.ref 0 (.val (.p (.bin .Add (.blt "len" [↑3]) (1))) []))),.ifs (.p (.cmp .Lt ↑4 (.blt "len" [↑3]))) [.ret (.p (.ix ↑3 ↑4))] [],.ret (.tup .fz (.cons (.p ("number")) (.cons (.p ↑2) (.fin (.io 13 (.ref 0 (.val (.p (.bin .LShift (1) ↑2)) []))) []))))]
abbrev NG:Su:=gz 21
def GJ:bC:=[.put (.nm 0) ("room") (.p (.bin .Sub (.ix ↑0 ("room")) (1))),.asg 4 (.io 13 (.ref 0 (.val (.p (14)) []))),.ifs (.p (.bool .Or [.cmp .Eq ↑3 (0),.cmp .Lt (.ix ↑0 ("room")) (9),.cmp .Lt ↑4 (3)])) [.ret (.io 16 (.ref 0 (.val (.p ↑1) (.val (.p ↑2) []))))] [],.ifs (.p (.cmp .Eq ↑4 (3))) [.ret (.tup .fz (.cons (.p ("not")) (.fin (.io 17 (.ref 0 (.val (.p ↑1) (.val (.p ↑2) (.val (.p (.bin .Sub ↑3 (1))) []))))) [])))] [],.ifs (.p (.cmp .Lt ↑4 (9))) [.asg 5 (.io 17 (.ref 0 (.val (.p ↑1) (.val (.p ↑2) (.val (.p (.bin .Sub ↑3 (1))) []))))),.ret (.tup .fz (.cons (.p (.ix (.lst (.own [] .fz) [("and"),("or"),("xor"),("plus"),("minus")]) (.bin .Sub ↑4 (4)))) (.cons (.p ↑5) (.fin (.io 17 (.ref 0 (.val (.p ↑1) (.val (.p ↑2) (.val (.p (.bin .Sub ↑3 (1))) []))))) []))))] [],.ifs (.p (.cmp .Eq ↑4 (9))) [.asg 6 (.io 17 (.ref 0 (.val (.p ↑1) (.val (.p (1)) (.val (.p (.bin .Sub ↑3 (1))) []))))),.asg 5 (.io 17 (.ref 0 (.val (.p ↑1) (.val (.p ↑2) (.val (.p (.bin .Sub ↑3 (1))) []))))),.ret (.tup .fz (.cons (.p ("if")) (.cons (.p ↑6) (.cons (.p ↑5) (.fin (.io 17 (.ref 0 (.val (.p ↑1) (.val (.p ↑2) (.val (.p (.bin .Sub ↑3 (1))) []))))) [])))))] [],.ifs (.p (.bool .And [.cmp .Eq ↑4 (10),.cmp .Gt ↑2 (1)])) [.asg 7 (.bin .Add (.cons (.p (1)) (.fin (.io 13 (.ref 0 (.val (.p (.bin .Sub ↑2 (1))) []))) []))),.asg 5 (.io 17 (.ref 0 (.val (.p ↑1) (.val (.p ↑7) (.val (.p (.bin .Sub ↑3 (1))) []))))),.ret (.tup .fz (.cons (.p ("join")) (.cons (.p ↑5) (.fin (.io 17 (.ref 0 (.val (.p ↑1) (.val (.p (.bin .Sub ↑2 ↑7)) (.val (.p (.bin .Sub ↑3 (1))) []))))) []))))] [],.ifs (.p (.bool .And [.cmp .Gt ↑4 (11),.cmp .Eq ↑2 (1)])) [.asg 8 (.bin .Add (.cons (.p (1)) (.fin (.io 13 (.ref 0 (.val (.p (8)) []))) []))),.asg 5 (.io 17 (.ref 0 (.val (.p ↑1) (.val (.p ↑8) (.val (.p (.bin .Sub ↑3 (1))) []))))),.ret (.tup .fz (.cons (.p (.ix (.lst (.own [] .fz) [("same"),("less")]) (.bin .Sub ↑4 (12)))) (.cons (.p ↑5) (.fin (.io 17 (.ref 0 (.val (.p ↑1) (.val (.p ↑8) (.val (.p (.bin .Sub ↑3 (1))) []))))) []))))] [],.asg 8 (.bin .Add (.cons (.p ↑2) (.fin (.io 13 (.ref 0 (.val (.p (.bin .Sub (9) ↑2)) []))) []))),.asg 7 (.io 13 (.ref 0 (.val (.p (.bin .Add (.bin .Sub ↑8 ↑2) (1))) []))),.ret (.tup .fz (.cons (.p ("cut")) (.fin (.io 17 (.ref 0 (.val (.p ↑1) (.val (.p ↑8) (.val (.p (.bin .Sub ↑3 (1))) []))))) [↑7,↑2])))]
abbrev NH:Su:=gz 22
def MF:bC:=[.asg 5 (.p (.lst (.own [] .fz) [])),.asg 6 (.p (.dnew 0 .fz)),.fo [7] (.nm 7) (.rng (.io 15 (.ref 0 (.val (.p (3)) [])))) [.asg 8 (.p (.ix ↑1 (.bin .Add (.bin .Mult (2) ↑7) (1)))),.put (.nm 6) ↑8 (.bin .Add (.cons (.p (1)) (.fin (.io 13 (.ref 0 (.val (.p (8)) []))) []))),.exp (.mutM "append" 5 (.tup .fz (.cons (.p ("out")) (.cons (.p ↑8) (.fin (.io 17 (.ref 0 (.val (.p ↑2) (.val (.p (.ix ↑6 ↑8)) (.val (.p (3)) []))))) [])))))],.fo [8,9,10] (.tp [.nm 8,.nm 9,.nm 10]) (.p (.e ↑3)) [.exp (.mutM "append" 5 (.tup .fz (.cons (.p ("memory")) (.cons (.p ↑8) (.cons (.p ↑9) (.cons (.p ↑10) (.fin (.io 17 (.ref 0 (.val (.p ↑2) (.val (.p ↑9) (.val (.p (3)) []))))) [])))))))],.fo [11,12,7] (.tp [.nm 11,.nm 12]) (.p (.e ↑4)) [.stk,.stk],.ret (.tup .fz (.cons (.mv 5) (.fin (.mv 6) [])))]
abbrev NI:Su:=gz 23
def MG:bC:=[.ret (.p (.comp .fz [Sd,Sd,Sb 0] (.nm 1) (.rng (0) ↑1) .non (.bin .Mod (.bin .FloorDiv ↑2 (.bin .LShift (1) ↑1)) (2))))]
abbrev NJ:Su:=gz 24
noncomputable def MH:bC:=[.ret (.p (.blt "sum" [.comp .fz [Sd,Sd,Sd] (.tp [.nm 1,.nm 2]) (.enm ↑0) .non (.bin .LShift ↑2 ↑1)]))]
abbrev NK:Su:=gz 25
def MJ:bC:=[.asg 3 (.p (.lst (.own [] .fz) [])),.fo [4,5] (.tp [.nm 4,.nm 5]) (.p (.zp ↑0 ↑1)) [.exp (.mut "append" (.nm 3) [.bin .Mod (.bin .Add (.bin .Add ↑4 ↑5) ↑2) (2)]),.asg 2 (.p (.bin .FloorDiv (.bin .Add (.bin .Add ↑4 ↑5) ↑2) (2)))],.ret (.mv 3)]
abbrev NL:Su:=gz 26
def Ka:bC:=[.ifs (.p (.cmp .Eq ↑0 ("and"))) [.ret (.p (.comp .fz [Sd,Sd,Sd] (.tp [.nm 1,.nm 2]) (.zp ↑1 ↑2) .non (.bin .Mult ↑1 ↑2)))] [],.ifs (.p (.cmp .Eq ↑0 ("or"))) [.ret (.p (.comp .fz [Sd,Sd,Sd,Sd] (.tp [.nm 1,.nm 2]) (.zp ↑1 ↑2) .non (.blt "max" [↑1,↑2])))] [],.ifs (.p (.cmp .Eq ↑0 ("xor"))) [.ret (.p (.comp .fz [Sd,Sd,Sd,Sd] (.tp [.nm 1,.nm 2]) (.zp ↑1 ↑2) .non (.blt "int" [.cmp .NotEq ↑1 ↑2])))] [],.ifs (.p (.cmp .Eq ↑0 ("plus"))) [.ret (.p (.fn 21 [↑1,↑2,(0)]))] [],.ifs (.p (.cmp .Eq ↑0 ("minus"))) [.ret (.p (.fn 21 [↑1,.comp .fz [Sd,Sd] (.nm 1) (.e ↑2) .non (.bin .Sub (1) ↑1),(1)]))] [],.ifs (.p (.cmp .Eq ↑0 ("same"))) [.ret (.p (.lst (.own [] .fz) [.blt "int" [.cmp .Eq ↑1 ↑2]]))] [],.ifs (.p (.cmp .Eq ↑0 ("less"))) [.ret (.p (.lst (.own [] .fz) [.blt "int" [.cmp .Lt (.lrev ↑1) (.lrev ↑2)]]))] [],.ret (.p (.bin .Add ↑1 ↑2))]
abbrev sQ:Su:=gz 27
def zu:bC:=[.asg 2 (.p (.ix ↑0 (0))),.ifs (.p (.cmp .In ↑2 (.tup .fz [("name"),("of"),("at")]))) [.ret (.p (.ix ↑1 ↑0))] [],.ifs (.p (.cmp .Eq ↑2 ("number"))) [.ret (.p (.fn 19 [.ix ↑0 (2),.ix ↑0 (1)]))] [],.asg 3 (.p (.fn 23 [.ix ↑0 (1),↑1])),.ifs (.p (.cmp .Eq ↑2 ("not"))) [.ret (.p (.comp .fz [Sd,Sd] (.nm 1) (.e ↑3) .non (.bin .Sub (1) ↑1)))] [],.ifs (.p (.cmp .Eq ↑2 ("cut"))) [.ret (.p (.sl ↑3 (.som (.ix ↑0 (2))) (.som (.bin .Add (.ix ↑0 (2)) (.ix ↑0 (3))))))] [],.ifs (.p (.cmp .Eq ↑2 ("if"))) [.ret (.p (.fn 23 [.ix ↑0 (.bin .Sub (3) (.ix ↑3 (0))),↑1]))] [],.ret (.fn 22 (.cons (.p ↑2) (.fin (.mv 3) [.fn 23 [.ix ↑0 (2),↑1]])))]
abbrev HJ:Su:=gz 28
def MK:bC:=[.asg 2 (.p (.lst (.own [] .fz) [])),.fo [3] (.nm 3) (.p (.e (.ix (.ix ↑0 ↑1) (0)))) [.ifs (.p (.cmp .Eq (.ix ↑3 (0)) ("memory"))) [.exp (.mut "append" (.nm 2) [.ix ↑3 (3)])] [],.ifs (.p (.cmp .Eq (.ix ↑3 (0)) ("rooms"))) [.stk] [],.ifs (.p (.cmp .Eq (.ix ↑3 (0)) ("use"))) [.stk] []],.ret (.mv 2)]
abbrev HR:Su:=gz 29
def ML:bC:=[.asg 3 (.p (.dnew 1 .fz)),.asg 4 (.p (.dnew 0 .fz)),.fo [6] (.tp [.nm 5,.nm 6]) (.p (.zp (.comp .fz [Sd,Sd] (.nm 1) (.e ↑0) (.som (.cmp .Eq (.ix ↑1 (0)) ("in"))) ↑1) ↑1)) [.put (.nm 3) (.tup .fz [("name"),.ix ↑5 (1)]) (.p (.fn 19 [↑6,.ix ↑5 (2)]))],.fo [5,7] (.tp [.nm 5,.nm 7]) (.p (.zp (.comp .fz [Sd,Sd] (.nm 1) (.e ↑0) (.som (.cmp .In (.ix ↑1 (0)) (.tup .fz [("memory"),("rooms"),("use")]))) ↑1) ↑2)) [.ifs (.p (.cmp .Eq (.ix ↑5 (0)) ("memory"))) [.put (.nm 3) (.tup .fz [("name"),.ix ↑5 (1)]) (.p (.fn 19 [↑7,.ix ↑5 (2)]))] [],.ifs (.p (.cmp .Eq (.ix ↑5 (0)) ("rooms"))) [.stk] [],.ifs (.p (.cmp .Eq (.ix ↑5 (0)) ("use"))) [.stk] []],.ret (.tup .fz (.cons (.mv 3) (.fin (.mv 4) [])))]
abbrev NM:Su:=gz 31
def MM:bC:=[.asg 4 (.p (.ix (.ix ↑0 ↑1) (0))),.unp [5,6] (.p (.fn 25 [↑4,↑3,↑2])),.fo [] (.nm 7) (.p (.e ↑4)) [.ifs (.p (.cmp .Eq (.ix ↑7 (0)) ("wire"))) [.stk] [],.ifs (.p (.cmp .Eq (.ix ↑7 (0)) ("use"))) [.stk,.stk,.stk] []],.asg 12 (.p (.lst (.own [] .fz) [])),.fo [] (.nm 7) (.p (.e ↑4)) [.ifs (.p (.cmp .Eq (.ix ↑7 (0)) ("memory"))) [.exp (.mut "append" (.nm 12) [.fn 20 [.fn 23 [.ix ↑7 (4),↑5]]])] [],.ifs (.p (.cmp .Eq (.ix ↑7 (0)) ("rooms"))) [.stk] [],.ifs (.p (.cmp .Eq (.ix ↑7 (0)) ("use"))) [.stk] []],.ret (.tup .fz (.cons (.p (.comp .fz [Sd,Sd,Sd,Sd,Sb 5] (.nm 1) (.e ↑4) (.som (.cmp .Eq (.ix ↑1 (0)) ("out"))) (.fn 20 [.fn 23 [.ix ↑1 (2),↑4]]))) (.fin (.mv 12) [])))]
abbrev NN:Su:=gz 32
def MN:bC:=[.asg 3 (.p (.lst (.own [] .fz) [])),.fo [4] (.nm 4) (.p (.e (.ix (.ix ↑1 ↑2) (0)))) [.ifs (.p (.cmp .Eq (.ix ↑4 (0)) ("memory"))) [.exp (.mutM "append" 3 (.io 13 (.ref 0 (.val (.p (.bin .LShift (1) (.ix ↑4 (2)))) []))))] [],.ifs (.p (.cmp .Eq (.ix ↑4 (0)) ("rooms"))) [.stk] [],.ifs (.p (.cmp .Eq (.ix ↑4 (0)) ("use"))) [.stk] []],.ret (.mv 3)]
abbrev NO:Su:=gz 33
noncomputable def MP:bC:=[.ret (.p (.bool .And [.isi "int" ↑0,.not (.isi "bool" ↑0)]))]
abbrev NP:Su:=gz 34
noncomputable def HU:bC:=[.ifs (.p (.isi "list" ↑1)) [.ifs (.p (.bool .Or [.not (.isi "list" ↑0),.cmp .NotEq (.blt "len" [↑0]) (.blt "len" [↑1])])) [.ret (.p (.lit (.bl Sf)))] [],.ret (.p (.blt "all" [.comp .fz [Sd,Sd,Sd,Sd] (.tp [.nm 1,.nm 2]) (.zp ↑0 ↑1) .non (.fn 30 [↑1,↑2])]))] [],.ret (.p (.bool .And [.fn 29 [↑0],.cmp .Eq ↑0 ↑1]))]
abbrev NQ:Su:=gz 35
noncomputable def K2:bC:=[.ret (.p (.comp .fz [Sd,Sd,Sd,Sd,Sd] (.nm 1) (.e ↑0) .non (.ifx (.isi "list" ↑1) (.fn 31 [↑1]) ↑1)))]
abbrev NR:Su:=gz 36
def MQ:bC:=[.asg 5 (.p (.fn 27 [↑1,↑2,↑3,↑4])),.asg 6 (.p (.fn 31 [↑3])),.asg 7 (.p (.blt "list" [↑4])),.fo [8,9,10] (.nm 8) (.p (.rng (0) (2))) [.asg 9 (.fn 2 (.cons (.p ↑0) (.cons (.p ↑2) (.cons (.fz 6) (.fin (.fz 7) []))))),.ifs (.p (.bool .Or [.not (.isi "tuple" ↑9),.cmp .NotEq (.blt "len" [↑9]) (2),.cmp .NotEq ↑6 ↑3,.cmp .NotEq ↑7 ↑4])) [.ret (.p (.lit (.bl Sf)))] [],.ifs (.p (.bool .Or [.not (.fn 30 [.ix ↑9 (0),.ix ↑5 (0)]),.not (.fn 30 [.ix ↑9 (1),.ix ↑5 (1)])])) [.ret (.p (.lit (.bl Sf)))] [],.exp (.mut "append" (.ix (.nm 9) (0)) [(1)]),.fo [10] (.nm 10) (.p (.e (.ix ↑9 (1)))) [.ifs (.p (.isi "list" ↑10)) [.stk] []],.exp (.mut "clear" (.ix (.nm 9) (1)) [])],.ret (.p (.lit (.bl Se)))]
abbrev NS:Su:=gz 37
def MS:bC:=[.asg 4 (.comp .fz [Sd,Sd,Sd,Sb 1,Sb 0] (.nm 1) (.rng (.io 15 (.ref 0 (.val (.p (3)) [])))) .non (.tup .fz (.cons (.p ("in")) (.cons (.p (.ix ↑3 ↑1)) (.fin (.bin .Add (.cons (.p (1)) (.fin (.io 13 (.ref 4 (.val (.p (8)) []))) []))) []))))),.asg 6 (.p (.bin .Add (.comp .fz [Sd,Sd] (.nm 1) (.e ↑4) .non (.tup .fz [.tup .fz [("name"),.ix ↑1 (1)],.ix ↑1 (2)])) (.comp .fz [Sd,Sd] (.nm 1) (.e ↑2) .non (.tup .fz [.tup .fz [("name"),.ix ↑1 (0)],.ix ↑1 (1)])))),.fo [7,8] (.tp [.nm 7,.nm 8]) (.p (.e ↑3)) [.stk],.unp [9,10] (.io 18 (.ref 0 (.val (.p ↑1) (.val (.mv 6) (.val (.p ↑2) (.val (.p ↑3) [])))))),.asg 11 (.p (.lst (.own [] .fz) [])),.fo [] (.nm 5) (.p (.e (.bin .Add ↑4 ↑9))) [.exp (.mutMs "insert" 11 (.fin (.io 13 (.ref 0 (.val (.p (.bin .Add (.blt "len" [↑11]) (1))) []))) [↑5]))],.pre [11] (.ret (.p (.tup .fz [.ix ↑1 (20),.dspT 0 (.ix ↑1 (20)) (.tup .fz [↑11,.comp .fz [Sd,Sd,Sb 10] (.nm 1) (.e ↑11) (.som (.cmp .Eq (.ix ↑1 (0)) ("out"))) (.tup .fz [.ix ↑1 (1),.ix ↑2 (.ix ↑1 (1))])])])))]
abbrev zv:Su:=gz 38
def MU:bC:=[.asg 1 (.p (.fn 12 [↑0])),.asg 2 (.io 14 (.ref 1 [])),.asg 3 (.bin .Add (.cons (.p (1)) (.fin (.io 13 (.ref 1 (.val (.ix (.cons (.p (.lst (.own [] .fz) [(4),(9)])) (.fin (.blt "int" (.fin (.cmp .Eq (.fin (.io 13 (.ref 1 (.val (.p (8)) []))) [(0)])) [])) []))) []))) []))),.asg 4 (.comp .fz [Sd,Sd,Sd,Sb 1] (.nm 1) (.p (.rng (0) ↑3)) .non (.bin .Add (.cons (.p (1)) (.fin (.io 13 (.ref 3 (.val (.p (8)) []))) [])))),.pre [4] (.asg 5 (.comp .fz [Sd,Sd,Sd,Sd,Sb 2,Sb 1] (.tp [.nm 1,.nm 2]) (.p (.enm ↑4)) .non (.tup .fz (.cons (.p (.ix ↑4 (.bin .Add (9) ↑1))) (.cons (.p ↑2) (.fin (.io 13 (.ref 5 (.val (.p (.bin .LShift (1) ↑2)) []))) [])))))),.unp [6,7] (.io 33 (.ref 1 (.val (.mv 2) (.val (.mv 5) (.val (.p (.lst (.own [] .fz) [])) []))))),.asg 8 (.p (.lst (.own [] .fz) [.tup .fz [↑6,.blt "list" [.ix (.ix ↑7 ↑6) (0)]]])),.asg 9 (.fn 1 (.fin (.fz 8) [↑6])),.ifs (.p (.not (.fn 30 [↑9,.fn 24 [↑7,↑6]]))) [.ret (.p (.lit (.bl Sf)))] [],.exp (.mut "append" (.nm 9) [(3)]),.asg 10 (.bin .Add (.cons (.p (.lst (.own [] .fz) [.fn 24 [↑7,↑6]])) (.fin (.comp .fz [Sd,Sd,Sd,Sb 6,Sb 7,Sb 1] (.nm 1) (.rng (.bin .Add (.cons (.p (1)) (.fin (.io 13 (.ref 1 (.val (.p (4)) []))) [])))) .non (.io 28 (.ref 5 (.val (.p ↑4) (.val (.p ↑3) []))))) []))),.fo [11,12] (.nm 11) (.p (.e ↑10)) [.asg 12 (.comp .fz [Sd,Sd,Sd,Sb 1] (.nm 1) (.p (.e (.ix (.ix ↑8 (0)) (1)))) (.som (.p (.cmp .Eq (.ix ↑1 (0)) ("in")))) (.io 13 (.ref 3 (.val (.p (.bin .LShift (1) (.ix ↑1 (2)))) [])))),.ifs (.p (.not (.fn 32 [↑8,↑7,↑6,↑11,↑12]))) [.ret (.p (.lit (.bl Sf)))] []],.pre [8] (.ret (.p (.bool .And [.fn 30 [.fn 1 [↑8,↑6],.ix ↑10 (0)],.cmp .Eq ↑8 (.lst (.own [] .fz) [.tup .fz [↑6,.ix (.ix ↑7 ↑6) (0)]])])))]
noncomputable abbrev Kb:List Str:=["_law_script","_law_pot_here","_law_names_here","_law_many","_law_widths","_law_kept","_law_name","_law_parts","_law_program","_law_begun_here","_law_states","_law_state","_law_ins"]
theorem MV:lP fns an 60 Kb zv=Sb MU:=by rfl
theorem MW:bc Kb ["_law_script"] (ai zv):=by walk_at "fsc"
abbrev Kc:Su:=match gz 5 with|.ClassDef _ _ _ b ..=>b.getD 0 (.Pass ⟨0,0,0,0⟩)|s=>s
noncomputable def NT:bC:=[.putF "Scene" (.nm 0) "names" (.p (.dnew 0 .fz)),.putF "Scene" (.nm 0) "rooms" (.p (.dnew 0 .fz)),.putF "Scene" (.nm 0) "outs" (.p (.dnew 0 .fz))]
end
theorem MX:lP fns an 60 ["self"] Kc=Sb NT:=by rfl
theorem MY:bc ["self"] ["self"] (ai Kc):=by walk_at "fsc"
noncomputable def Z0:GG:=⟨λ_=>Sd,λ_=>Sd⟩
def ψ0:Fn:=ci Z0 1000 2 2 b0
def Z_0:GG:=Z0.addI 0 ψ0
def ψ3:Fn:=ci Z_0 1000 1 1 b3
def Z_3:GG:=Z_0.addI 3 ψ3
def ψ4:Fn:=ci Z_3 1000 2 4 b4
def Z_4:GG:=Z_3.addI 4 ψ4
def ψ1:Fn:=ci Z_4 1000 2 2 b1
def Z_1:GG:=Z_4.addI 1 ψ1
def MZ:Fn:=Cd (.own [] (.own [] .fz)) "Scene" (fY Z_1 1000 1 1 [0] NT)
def Z_35:GG:=Z_1.addI 35 MZ
def ψ6:Fn:=ci Z_35 1000 3 6 b6
def Z_6:GG:=Z_35.addI 6 ψ6
def ψ9:Fn:=ci Z_6 1000 1 1 b9
def Z_9:GG:=Z_6.addI 9 ψ9
def K3:Fn:=ci Z_9 1000 3 4 MA
def Z_10:GG:=Z_9.addI 10 K3
def K4:Fn:=ci Z_10 1000 3 3 MB
def Z_11:GG:=Z_10.addI 11 K4
def ψ8:Fn:=recI Z_11 8 1000 2 7 b8 40
def Z_8:GG:=Z_11.addI 8 ψ8
noncomputable def tJ:bC->Nat->bC
 |.cons s _,0=>.cons s .nil
 |.cons _ r,n+1=>tJ r n
 |.nil,_=>.nil
def K5:IEs:=(.cons (.comp .fz [Sd,Sd] (.nm 1) (.e (.fn 3 (.cons (.var 4) .nil))) .non (.ix (.var 1) (nL 1))) (.cons (.var 2) .nil))
def K6:Ro->Option Res:=λY=>lJ [] 6 ((Gp (aP Z_8.fn K5 Y)).map λp=>(p.1,p.2,Y))
def M0:II:=.e (.fn 0 (.cons (.var 4) (.cons (sL "out") .nil)))
def K7:IE:=.ix (.var 1) (nL 1)
def HV:IE:=.fn 8 (.cons (.ix (.var 1) (nL 2)) (.cons (.var 3) .nil))
def K8:Ro->Option Res:=λY=>lJ [] 13 ((jy 0 (cw Z_8.fn M0 Y) (i0 (.nm 1) (λ_=>Sb Se) (aa Z_8.fn K7) (aa Z_8.fn HV) (bi Y [Sd,Sd,Sd,Sb 7]))).map λp=>(p.1,p.2,Y))
def pt(n:Nat):Ro->Option Res:=aY Z_8 1000 (tJ b5 n) []
def Ke:Ro->Option Res:=λY=>bT (pt 0 Y) λY=>bT (K6 Y) λY=>bT (pt 2 Y) λY=>bT (pt 3 Y) λY=>bT (pt 4 Y) λY=>bT (pt 5 Y) λY=>bT (pt 6 Y) λY=>bT (K8 Y) λY=>pt 8 Y
def ψ5:Fn:=tz Ke 4 14
def Z_5:GG:=Z_8.addI 5 ψ5
def M1:Ro->MR:=λY=>fU .fz (zb 4 Y) (eX [Sd,Sd,Sd] (.tp [.nm 1,.nm 2]) (λY=>Sb (Se,Y)) (aO Z_5 (.p (.var 1)))) [Sd,Sd,Sd]
def M2:Ro->Option (List KD×Ro):=λY=>fN (M1 Y) λY=>fP (aO Z_5 (.mv 5) Y) λ_=>Sb []
def M3:Ro->Option Res:=λY=>wL ((M2 Y).bind λp=>(iC (.own [] (.own [] .fz)) (Sb p.1)).map λq=>(q.1,q.2,p.2))
def Kf:Ro->Option Res:=λY=>bT (aY Z_5 1000 (tJ b2 0) [] Y) M3
def ψ2:Fn:=tz Kf 4 6
def Oc:GG:=Z_5.addI 2 ψ2
abbrev Z_7:GG:=Oc
def K9:Fn:=ci Z_7 1000 1 5 MC
def Z_12:GG:=Z_7.addI 12 K9
def Ci:Fm:=fY Z_12 1000 2 4 [0] J8
def Z_13:GG:=Z_12.addM 13 Ci
def La:Fm:=fY Z_13 1000 1 7 [0] J9
def Z_14:GG:=Z_13.addM 14 La
def Lb:Fm:=fY Z_14 1000 2 4 [0] HS
def Z_15:GG:=Z_14.addM 15 Lb
def Lc:Fm:=fY Z_15 1000 3 5 [0] MD
def Z_16:GG:=Z_15.addM 16 Lc
def NU:Fm:=recM Z_16 17 1000 4 9 [0] GJ 40
def Z_17:GG:=Z_16.addM 17 NU
def Ld:Fm:=fY Z_17 1000 5 15 [0] MF
def Z_18:GG:=Z_17.addM 18 Ld
def Lf:Fn:=ci Z_18 1000 2 2 MG
def Z_19:GG:=Z_18.addI 19 Lf
def Kg:Fn:=ci Z_19 1000 1 1 MH
def Z_20:GG:=Z_19.addI 20 Kg
def Lg:Fn:=ci Z_20 1000 3 6 MJ
def Z_21:GG:=Z_20.addI 21 Lg
def AA:Fn:=ci Z_21 1000 3 3 Ka
def Z_22:GG:=Z_21.addI 22 AA
def M4:Fn:=recI Z_22 23 1000 2 4 zu 40
def Z_23:GG:=Z_22.addI 23 M4
def Lh:Fn:=ci Z_23 1000 2 4 MK
def Z_24:GG:=Z_23.addI 24 Lh
def Lj:Fn:=ci Z_24 1000 3 10 ML
def M5:GG:=Z_24.addI 25 Lj
abbrev Z_26:GG:=M5
def Lk:Fn:=ci Z_26 1000 4 13 MM
def Z_27:GG:=Z_26.addI 27 Lk
def Ll:Fm:=fY Z_27 1000 3 5 [0] MN
def Z_28:GG:=Z_27.addM 28 Ll
def Lm:Fn:=ci Z_28 1000 1 1 MP
def Z_29:GG:=Z_28.addI 29 Lm
def NV:Fn:=recI Z_29 30 1000 2 2 HU 10
def Z_30:GG:=Z_29.addI 30 NV
def NW:Fn:=recI Z_30 31 1000 1 1 K2 10
def Z_31:GG:=Z_30.addI 31 NW
def Kh:Fn:=ci Z_31 1000 5 11 MQ
def Z_32:GG:=Z_31.addI 32 Kh
def Ln:Fm:=fY Z_32 1000 4 12 [0] MS
def Z_33:GG:=Z_32.addM 33 Ln
def Ki:Fn:=ci Z_33 1000 1 13 MU
abbrev z5:Cz:=⟨ai s5,NB,λ_=>Se⟩
abbrev l5(i:Nat):List Su:=((aU s5).drop i).take 1
abbrev r7:Su:=(l5 7).getD 0 (.Pass ⟨0,0,0,0⟩)
noncomputable abbrev n0:Si:=.Name "" ⟨0,0,0,0⟩
abbrev kE:Si:=match r7 with|.Assign _ (.DictComp k _ _ _ _) _=>k|_=>n0
abbrev vE:Si:=match r7 with|.Assign _ (.DictComp _ v _ _ _) _=>v|_=>n0
abbrev tE:Si:=match r7 with|.Assign _ (.DictComp _ _ (g::_) _ _) _=>g.target|_=>n0
abbrev iE:Si:=match r7 with|.Assign _ (.DictComp _ _ (g::_) _ _) _=>g.iter|_=>n0
abbrev sE:SA:=match r7 with|.Assign _ (.DictComp _ _ _ s _) _=>s|_=>ai s5
abbrev Od:Pos:=match r7 with|.Assign _ (.DictComp _ _ _ _ p) _=>p|_=>⟨0,0,0,0⟩
abbrev pE:Pos:=match r7 with|.Assign [.Name _ p] _ _=>p|_=>⟨0,0,0,0⟩
abbrev qE:Pos:=match r7 with|.Assign _ _ p=>p|_=>⟨0,0,0,0⟩
theorem M6{s:Su}(h:dS X pn f s):cI X pn f [s]:=λY r e g U H a b q=>sY (AH JQ) (h Y r e g U H a b q)
theorem zw(X:Cx)(O:av X (bB fns Z_8) z5)(j:PassesOwn (So X.prog X.w) X.A X.env X.xe):cI X [] Ke (aU s5):=by
 let i:∀{g:List Su} {b:bC},cB fns an 60 z5 60 g=Sb b->cI X [] (aY Z_8 1000 b []) g:=λh=>g8 Z_8 (λs q h=>m8 fns Z_8 O j 60 h) h [];let e:=λ(f:Cx) (c:Cz) (P:av f (bB fns Z_8) c)=>(cX fns Z_8.fn 60).1 f c P;let o:cI X [] K6 (l5 1):=M6 (Ds O (by rfl) (by rfl) (by rfl) (Gq O (by rfl) (by rfl) (by rfl) (by rfl) (eU Z_8.fn (e X z5 O) (show _=Sb K5 by rfl)).1).m)
 let k:cI X [] K8 (l5 7):=by
  let h:=Go (pn:=[]) O (x:="outs") (z:=0) (n:=4) (kx:=kE) (elt:=vE) (tg:=tE) (iter:=iE) (scope:=sE) (cp:=Od) (p:=pE) (pos:=qE) (by rfl) (by rfl) (by rfl) (by rfl) (uJ fns Z_8.fn O (e X z5 O) (show _=Sb M0 by rfl)) (by rfl) (λC s H d=>Di) (λC s H d=>e _ _ (cR O (by rfl) C s H d) _ K7 (by rfl)) (λC s H d=>e _ _ (cR O (by rfl) C s H d) _ HV (by rfl));rw[show ax z5 sE=[Sd,Sd,Sd,Sb 7] by rfl] at h;show M6 h
 let a:∀n,cB fns an 60 z5 60 (l5 n)=Sb (tJ b5 n)->cI X [] (pt n) (l5 n):=λn h=>i h;let l:cI X [] Ke (l5 0++(l5 1++(l5 2++(l5 3++(l5 4++(l5 5++(l5 6++(l5 7++l5 8)))))))):=i3 (a 0 (by rfl)) <| i3 o <| i3 (a 2 (by rfl)) <| i3 (a 3 (by rfl)) <| i3 (a 4 (by rfl)) <| i3 (a 5 (by rfl)) <| i3 (a 6 (by rfl)) <| i3 k (a 8 (by rfl));show l
abbrev z2:Cz:=⟨ai s2,NA,λ_=>Se⟩
abbrev l2(i:Nat):List Su:=((aU s2).drop i).take 1
abbrev q1:Su:=(l2 1).getD 0 (.Pass ⟨0,0,0,0⟩)
abbrev GK:Si:=match q1 with|.Return (Sb (.Tuple (e::_) _ _)) _=>e|_=>n0
abbrev M7:Si:=match GK with|.ListComp e _ _ _=>e|_=>n0
abbrev M8:Si:=match GK with|.ListComp _ (g::_) _ _=>g.target|_=>n0
abbrev Oe:Si:=match GK with|.ListComp _ (g::_) _ _=>g.iter|_=>n0
abbrev Kj:SA:=match GK with|.ListComp _ _ s _=>s|_=>ai s2
abbrev Of:Pos:=match GK with|.ListComp _ _ _ p=>p|_=>⟨0,0,0,0⟩
abbrev NX:Si:=match q1 with|.Return (Sb (.Tuple [_,e] _ _)) _=>e|_=>n0
abbrev k1:=match q1 with|.Return (Sb (.Tuple _ k _)) _=>k|_=>0
theorem zx(X:Cx)(O:av X (bB fns Z_5) z2)(d:PassesOwn (So X.prog X.w) X.A X.env X.xe):cI X [] Kf (aU s2):=by
 let f:cI X [] (aY Z_5 1000 (tJ b2 0) []) (l2 0):=g8 Z_5 (λs k h=>m8 fns Z_5 O d 60 h) (show cB fns an 60 z2 60 (l2 0)=Sb (tJ b2 0) by rfl) [];let g:=λ(a:Cx) (c:Cz) (P:av a (bB fns Z_5) c)=>(iX fns Z_5 60).1 a c P
 let j:bw X M1 GK:=by
  let h:=uU O (r:=.fz) (n:=4) (elt:=M7) (tg:=M8) (iter:=Oe) (scope:=Kj) (pos:=Of) (by rfl) (by rfl) (J5 O (by rfl) (by rfl) (by rfl)) (by rfl) (λC s H b=>yK) (λC s H b=>g _ _ (cR O (by rfl) C s H b) _ _ (by rfl));rw[show ax z2 Kj=[Sd,Sd,Sd] by rfl] at h;show h
 let e:lB X M2 [GK,NX]:=uN (by rfl) j (yI (by rfl) (show bw X (aO Z_5 (.mv 5)) NX from Dm O (by rfl) _) (eU Z_5.fn ((cX fns Z_5.fn 60).1 X z2 O) (show _=Sb IEs.nil by rfl)).1);let i:cI X [] M3 (l2 1):=M6 (Dt (n_tup.m e));show(i3 f i:cI X [] Kf (l2 0++l2 1))
end K28
namespace K28
noncomputable def cx:Nat->Nat->List Bool
 |_,0=>[]
 |a,w+1=>decide (a%2=1)::cx (a / 2) w
theorem aC:∀(a w:Nat),(cx a w).length=w
 |_,0=>rfl
 |a,w+1=>by rw[cx,OM,aC]
theorem bS:∀(a w k:Nat),k<w->(cx a w)[k]?=Sb (a.testBit k)
 |a,w+1,0,_=>by rw[cx,Q5,Nat.testBit_zero]
 |a,w+1,k+1,h=>by rw[cx,Qo,bS (a / 2) w k (by lia),Nat.testBit_succ]
theorem jC{l:List Bool}{a w:Nat}(hl:l.length=w)(h:∀k,k<w->l[k]?=Sb (a.testBit k)):l=cx a w:=by
 show Qu λk=>?_;by_cases hk:k<w
 ·rw[h k hk,bS a w k hk]
 ·rw[O7 (by lia),O7 (by rw[aC];lia)]
theorem oQ{f:Bool->Bool->Bool}{g:Nat->Nat->Nat}(c:∀a b k,(g a b).testBit k=f (a.testBit k) (b.testBit k))(a b w:Nat):O6 f (cx a w) (cx b w)=cx (g a b) w:=by
 show jC (by rw[RE,aC,aC,RK]) λk hk=>?_;rw[Rq,bS a w k hk,bS b w k hk,c]
theorem Cj(a b w:Nat):O6 and (cx a w) (cx b w)=cx (a &&& b) w:=oQ (λa b k=>Nat.testBit_and a b k) a b w
theorem GL(a b w:Nat):O6 or (cx a w) (cx b w)=cx (a ||| b) w:=oQ (λa b k=>Nat.testBit_or a b k) a b w
theorem Ck(a b w:Nat):O6 xor (cx a w) (cx b w)=cx (a ^^^ b) w:=oQ (λa b k=>Rc a b k) a b w
theorem vA(a w:Nat):(cx a w).map not=cx (a ^^^ (2^w-1)) w:=by
 show jC (by rw[On,aC]) λk hk=>?_;rw[Op,bS a w k hk,Rc,P7,decide_eq_true hk];simp
theorem Cm{a W lo w:Nat}(h:lo+w<=W):((cx a W).drop lo).take w=cx ((a >>> lo) &&& (2^w-1)) w:=by
 show jC (by rw[OP,QX,aC];lia) λk hk=>?_;rw[QW hk,RL,bS a W (lo+k) (by lia),Nat.testBit_and,Nat.testBit_shiftRight,P7,decide_eq_true hk,Bool.and_true]
theorem zy{a b w v:Nat}(h:a<2^w):cx a w++cx b v=cx (a ||| b <<< w) (w+v):=by
 show jC (by rw[OF,aC,aC]) λk hk=>?_;rw[Nat.testBit_or,Nat.testBit_shiftLeft];by_cases c:k<w
 ·rw[Pj (by rw[aC];show c),bS a w k c,decide_eq_false (by lia:¬k ≥ w),Bool.false_and,Ry]
 ·rw[Pf (by rw[aC];lia),aC,bS b v (k-w) (by lia),decide_eq_true (by lia:k ≥ w),P1 (Ov h (PD (by decide) (by lia))),Bool.false_or,Bool.true_and]
theorem vB(a w:Nat):cx (a%2^w) w=cx a w:=by
 show jC (aC _ _) λk hk=>?_;rw[bS _ w k hk,Nat.testBit_mod_two_pow,decide_eq_true hk,Bool.true_and]
theorem Cn{a b w:Nat}(h:cx a w=cx b w)(c:a<2^w)(d:b<2^w):a=b:=by
 show Rt λk=>?_;by_cases hk:k<w
 ·have:=bS a w k hk;rw[h,bS b w k hk] at this;show(Option.some.inj this).symm
 ·rw[P1 (Ov c (PD (by decide) (by lia))),P1 (Ov d (PD (by decide) (by lia)))]
noncomputable def bn(b:Bool):Nat:=if b then 1 else 0
def tK:List Bool->List Bool->Bool->List Bool
 |a::r,b::t,c=>decide ((bn a+bn b+bn c)%2=1)::tK r t (decide ((bn a+bn b+bn c) / 2=1))
 |_,_,_=>[]
theorem lU(a:Nat):bn (decide (a%2=1))=a%2:=by
 unfold bn;split
 ·ext h;show(of_decide_eq_true h).symm
 ·ext h;have:¬a%2=1:=λz=>h (decide_eq_true z);lia
theorem oR:∀(w a b:Nat) (c:Bool),tK (cx a w) (cx b w) c=cx (a+b+bn c) w
 |0,_,_,_=>rfl
 |w+1,a,b,c=>by
  let d:bn c=0\/bn c=1:=by cases c;show .inl rfl;show .inr rfl
  rw[cx,cx,tK,lU,lU,oR w,cx];let e1:(a%2+b%2+bn c)%2=(a+b+bn c)%2:=by lia
  let e2:bn (decide ((a%2+b%2+bn c) / 2=1))=(a%2+b%2+bn c) / 2:=by
   have:(a%2+b%2+bn c) / 2=0\/(a%2+b%2+bn c) / 2=1:=by lia
   rcases this with h|h<;>rw[h]<;>rfl
  rw[e1,e2];congr 2
  lia
theorem Co{a b w:Nat}(c:b<2^w):tK (cx a w) ((cx b w).map not) Se=cx (a+2^w-b) w:=by
 let e:b ^^^ (2^w-1)=2^w-1-b:=by
  show Rt λk=>?_;rw[Rc,P7,show 2^w-1-b=2^w-(b+1) by lia,Nat.testBit_two_pow_sub_succ c];by_cases hk:k<w
  ·simp[hk]
  ·rw[P1 (Ov c (PD (by decide) (by lia)))];simp[hk]
 rw[vA,oR,e];congr 1;change a+(2^w-1-b)+1=a+2^w-b
 lia
def num:List Bool->Nat
 |[]=>0
 |b::r=>bn b+2*num r
theorem vC:∀(w a:Nat),a<2^w->num (cx a w)=a
 |0,a,h=>by
  have:a=0:=by simpa using h
  subst this;rfl
 |w+1,a,h=>by
  rw[cx,num,lU,vC w (a / 2) (by rw[RM] at h;lia)]
  lia
theorem qU(a w:Nat):cx a (w+1)=cx a w++[a.testBit w]:=by
 show(jC (by rw[OF,aC];rfl) λk hk=>?_).symm;by_cases b:k<w
 ·rw[Pj (by rw[aC];show b),bS a w k b]
 ·have:k=w:=by lia
  subst this;rw[Pf (by rw[aC];show Ox _),aC,Nat.sub_self];rfl
def iL(l:List Bool):List Int:=l.map λb=>(bn b:Int)
theorem qV(a w:Nat):a%2^(w+1)=a%2^w+2^w*bn (a.testBit w):=by
 let e:bn (a.testBit w)=a / 2^w%2:=by
  rw[Qz,lU]
 rw[e,RM,Nat.mod_mul]
theorem zA:∀(w a b:Nat),G.o8 (iL (cx a w).reverse) (iL (cx b w).reverse)=decide (a%2^w<b%2^w)
 |0,a,b=>by simp[cx,iL,G.o8,Nat.mod_one]
 |w+1,a,b=>by
  rw[qU,qU,RF,RF];change G.o8 ((bn (a.testBit w):Int)::iL (cx a w).reverse) ((bn (b.testBit w):Int)::iL (cx b w).reverse)=_;rw[G.o8,zA w,qV a w,qV b w];let c:=Ru a (O4 w);let d:=Ru b (O4 w);generalize a%2^w=x at c⊢;generalize b%2^w=y at d⊢
  cases a.testBit w<;>cases b.testBit w<;>simp[bn]<;>lia
end K28
namespace K28
open PySem
inductive Cp where
 |and|or|xor|plus|minus
inductive Fo where
 |name (x:Str)|num (w v:Nat)|not (a:Fo)|two (o:Cp) (a b:Fo)|ite (c a b:Fo)|join (a b:Fo)|cmp (less:Bool) (a b:Fo)|cut (a:Fo) (lo w:Nat)
section
variable (L E:Str->Nat)
noncomputable def wid:Fo->Nat
 |.name x=>L x
 |.num w _=>w
 |.not a=>wid a
 |.two _ a _=>wid a
 |.ite _ a _=>wid a
 |.join a b=>wid a+wid b
 |.cmp _ _ _=>1
 |.cut _ _ w=>w
def Wf:Fo->Prop
 |.name _=>True
 |.num w v=>v<2^w
 |.not a=>Wf a
 |.two _ a b=>Wf a/\Wf b/\wid L a=wid L b
 |.ite c a b=>Wf c/\Wf a/\Wf b/\wid L c=1/\wid L a=wid L b
 |.join a b=>Wf a/\Wf b
 |.cmp _ a b=>Wf a/\Wf b/\wid L a=wid L b
 |.cut a lo w=>Wf a/\lo+w<=wid L a
def val:Fo->Nat
 |.name x=>E x
 |.num _ v=>v
 |.not a=>val a ^^^ (2^wid L a-1)
 |.two o a b=>(match o with
  |.and=>val a &&& val b
  |.or=>val a ||| val b
  |.xor=>val a ^^^ val b
  |.plus=>(val a+val b)%2^wid L a
  |.minus=>(val a+2^wid L a-val b)%2^wid L a)
 |.ite c a b=>if val c=1 then val a else val b
 |.join a b=>val a ||| val b <<< wid L a
 |.cmp less a b=>if less then bn (decide (val a<val b)) else bn (decide (val a=val b))
 |.cut a lo w=>(val a >>> lo) &&& (2^w-1)
def c5:Fo->List Bool
 |.name x=>cx (E x) (L x)
 |.num w v=>cx v w
 |.not a=>(c5 a).map not
 |.two o a b=>(match o with
  |.and=>O6 and (c5 a) (c5 b)
  |.or=>O6 or (c5 a) (c5 b)
  |.xor=>O6 xor (c5 a) (c5 b)
  |.plus=>tK (c5 a) (c5 b) Sf
  |.minus=>tK (c5 a) ((c5 b).map not) Se)
 |.ite c a b=>if(c5 c)[0]?=Sb Se then c5 a else c5 b
 |.join a b=>c5 a++c5 b
 |.cmp less a b=>[if less then G.o8 (iL (c5 a).reverse) (iL (c5 b).reverse) else decide (c5 a=c5 b)]
 |.cut a lo w=>((c5 a).drop lo).take w
theorem zB(b:Bool):cx (bn b) 1=[b]:=by cases b<;>rfl
theorem DE(b:Bool):bn b<2^1:=by cases b<;>decide
theorem aK(i:∀x,E x<2^L x):∀f:Fo,Wf L f->c5 L E f=cx (val L E f) (wid L f)/\val L E f<2^wid L f
 |.name x,_=>⟨rfl,i x⟩
 |.num w v,h=>⟨rfl,h⟩
 |.not a,h=>by
  obtain⟨e,l⟩:=aK i a h;show⟨by rw[c5,e,vA];rfl,QJ l (Nat.sub_lt (O4 _) (by decide))⟩
 |.two o a b,⟨ha,hb,hw⟩=>by
  obtain⟨e,l⟩:=aK i a ha;obtain⟨d,g⟩:=aK i b hb;rw[<- hw] at d g
  cases o with
  |and=>show⟨by simp only[c5];rw[e,d,Cj];rfl,QK _ g⟩
  |or=>show⟨by simp only[c5];rw[e,d,GL];rfl,QS l g⟩
  |xor=>show⟨by simp only[c5];rw[e,d,Ck];rfl,QJ l g⟩
  |plus=>show⟨by simp only[c5];rw[e,d,oR];show(vB _ _).symm,Ru _ (O4 _)⟩
  |minus=>show⟨by simp only[c5];rw[e,d,Co g];show(vB _ _).symm,Ru _ (O4 _)⟩
 |.ite c a b,⟨hc,ha,hb,h1,hw⟩=>by
  obtain⟨e,l⟩:=aK i a ha;obtain⟨d,g⟩:=aK i b hb;obtain⟨e2,l2⟩:=aK i c hc;rw[<- hw] at d g;rw[h1] at e2 l2;have:val L E c=0\/val L E c=1:=by lia
  rcases this with h|h
  ·show⟨by simp only[c5,val];rw[e2,h,if_neg (by decide),if_neg (by decide),d];rfl,by simp only[val,h];rw[if_neg (by decide)];show g⟩
  ·show⟨by simp only[c5,val];rw[e2,h,if_pos (by decide),if_pos rfl,e];rfl,by simp only[val,h];rw[if_pos trivial];show l⟩
 |.join a b,⟨ha,hb⟩=>by
  obtain⟨e,l⟩:=aK i a ha;obtain⟨d,g⟩:=aK i b hb;show⟨by simp only[c5];rw[e,d,zy l];rfl,?_⟩;show QS (Ov l (PD (by decide) (Pd _ _))) ?_;rw[QZ,wid,Nat.add_comm,Nat.pow_add];show QL g (O4 _)
 |.cmp less a b,⟨ha,hb,hw⟩=>by
  obtain⟨e,l⟩:=aK i a ha;obtain⟨d,g⟩:=aK i b hb;rw[<- hw] at d g
  cases less with
  |true=>show⟨by simp only[c5];rw[e,d,if_pos trivial,zA,PJ l,PJ g];show(zB _).symm,DE _⟩
  |false=>
   show⟨?_,DE _⟩;simp only[c5];rw[e,d,if_neg (by decide),decide_eq_decide.mpr (show cx (val L E a) (wid L a)=cx (val L E b) (wid L a)↔val L E a=val L E b from⟨λz=>Cn z l g,λz=>by rw[z]⟩)];show(zB _).symm
 |.cut a lo w,⟨ha,hw⟩=>by
  obtain⟨e,l⟩:=aK i a ha;show⟨by simp only[c5];rw[e,Cm hw];rfl,QK _ (Nat.sub_lt (O4 _) (by decide))⟩
end
theorem f9(a w:Nat):Builtin.bitAnd (a:Int) ((2^w-1:Nat):Int)=((a%2^w:Nat):Int):=by
 rw[PyProof.Rows.bitAnd_pp (by lia) (by lia),Ph,Ph,QE]
theorem zC{a b w:Nat}(c:a<2^w)(d:b<2^w):Builtin.bitAnd ((a:Int)-b) ((2^w-1:Nat):Int)=(((a+2^w-b)%2^w:Nat):Int):=by
 by_cases h:b<=a
 ·rw[show(a:Int)-b=((a-b:Nat):Int) by lia,f9,show a+2^w-b=a-b+2^w by lia,Nat.add_mod_right]
 ·rw[PyProof.Rows.bitAnd_np (by lia) (by lia),Ph,show(Builtin.bitNot ((a:Int)-b)).toNat=b-a-1 by unfold Builtin.bitNot;lia,Nat.and_comm,QE,PJ (by lia),PJ (by lia)]
  lia
noncomputable abbrev iD(n:Nat):D:=.int (n:Int)
noncomputable def DF:Cp->Str
 |.and=>"and" |.or=>"or" |.xor=>"xor" |.plus=>"plus" |.minus=>"minus"
def dY:Fo->D
 |.name x=>.tup [.str "name",.str x]
 |.num w v=>.tup [.str "number",iD w,iD v]
 |.not a=>.tup [.str "not",dY a]
 |.two o a b=>.tup [.str (DF o),dY a,dY b]
 |.ite c a b=>.tup [.str "if",dY c,dY a,dY b]
 |.join a b=>.tup [.str "join",dY a,dY b]
 |.cmp l a b=>.tup [.str (if l then "less" else "same"),dY a,dY b]
 |.cut a lo w=>.tup [.str "cut",dY a,iD lo,iD w]
noncomputable def dep:Fo->Nat
 |.name _=>0
 |.num _ _=>0
 |.not a=>dep a+1
 |.two _ a b=>max (dep a) (dep b)+1
 |.ite c a b=>max (dep c) (max (dep a) (dep b))+1
 |.join a b=>max (dep a) (dep b)+1
 |.cmp _ a b=>max (dep a) (dep b)+1
 |.cut a _ _=>dep a+1
def DG(ins:List (Str×Nat×Nat)):D:=.nd (.obj "Scene" ["names","rooms","outs"]) [.nd (.dic 0 (ins.map λp=>.inl (.inr p.1))) (ins.map λp=>.tup [iD p.2.2,iD p.2.1]),.nd (.dic 0 []) [],.nd (.dic 0 []) []]
abbrev pD(v w:Nat):D:=.tup [iD v,iD w]
abbrev vl(n:Nat):Fn:=recI Z_11 8 1000 2 7 b8 n
example:ψ8=vl 40:=rfl
abbrev bD(b:Bool):D:=iD (bn b)
noncomputable abbrev k0:Ow:=.own [] .fz
theorem oU(a b:Nat):Builtin.bitAnd (a:Int) b=((a &&& b:Nat):Int):=by
 rw[PyProof.Rows.bitAnd_pp (by lia) (by lia)];rfl
theorem aE(h:Wp B λx=>x=r):B=Sb r:=by obtain⟨x,e,rfl⟩:=h;show e
section
variable {Z:GG} {N:Nat} {pn:List Nat} {Y:Ro} {Q:Res->Prop} {rest:bC}
theorem eM(h:Wp (aY Z N rest pn Y) Q):Wp (aY Z N .nil pn Y) (Kt Z N rest pn Q):=aQ (dz h)
end
section
variable {Z:Nat->Option Fn} {Y:Ro} {Q:KD->Prop} {k k':Kd}
theorem GM(q:Q (.sh,iD (a &&& b))):Wp (fw .BitAnd (k,iD a) (k',iD b)) Q:=⟨(.sh,.int (Builtin.bitAnd a b)),rfl,by rw[oU];show q⟩
theorem GN{α:Type}{f:α->D}{l:List α}{ys:List D}(hl:ys.length=l.length)(h:∀(i:Nat) y,ys[i]?=Sb y->∃a,l[i]?=Sb a/\y=f a):ys=l.map f:=by
 show Qu λi=>?_;rw[Op]
 cases e:ys[i]? with
 |none=>
  have:l[i]?=Sd:=O7 (by have:=PM.mp e;lia);rw[this];rfl
 |some y=>
  obtain⟨a,e1,rfl⟩:=h i y e;rw[e1];rfl
theorem vD{α:Type}{l:List α}{f g:α->D}{r:Ow}{c:D->Option (Option KD)}(h:∀a∈l,Wp (c (f a)) λo=>∃kd,o=Sb (kd,g a)/\bE r (kd,g a)=Se):Wp (aT r c (l.map f)) λys=>ys=l.map g:=by
 show Mz (λj y=>∃a,l[j]?=Sb a/\y=g a) (λj d b=>?_) λys i k=>GN (by rw[i,On]) k;rw[Op] at b
 cases e:l[j]? with
 |none=>rw[e] at b;cases b
 |some a=>
  rw[e] at b;cases b;show(h a (OK e)).mono λo ⟨kd,e1,e2⟩=>⟨_,e1,e2,a,rfl,rfl⟩
theorem vF(n:Nat):d8 0 n=(O9 n).map iD:=by
 unfold d8;rw[RJ,Ph];show PU λk _=>by rw[RN]
theorem zD{a:Ro->Option KD}{Q:Option KD->Prop}(hn:bA [(1,d)] Y0=Se)(h:Wp (a (setAll [(1,d)] Y0)) λx=>Q (Sb x)):Wp (dP (.nm 1) (cD Z .non) a Y0 d) Q:=DD (ps:=[(1,d)]) rfl hn rfl h
theorem M9{a b:D}{c:Ro->Option KD}{Y0:Ro}{Q:Option KD->Prop}(hn:bA [(1,a),(2,b)] Y0=Se)(h:Wp (c (setAll [(1,a),(2,b)] Y0)) λx=>Q (Sb x)):Wp (dP (.tp [.nm 1,.nm 2]) (cD Z .non) c Y0 (.tup [a,b])) Q:=DD (ps:=[(1,a),(2,b)]) rfl hn rfl h
end
noncomputable abbrev fS(d:D):Option Sl:=Sb ⟨Sf,.fz,d⟩
theorem mh{α:Type}{B:Option α}{r:α}(h:Wp B λx=>x=r):B=Sb r:=by obtain⟨x,e,rfl⟩:=h;show e
theorem wv{α:Type}{a:Option α}{r:α}{Q:α->Prop}(h:a=Sb r)(q:Q r):Wp a Q:=⟨r,h,q⟩
section
variable {Z:Nat->Option Fn} {Y:Ro} {a b c:IE} {r:IEs} {k k' k'':Kd} {i j l:Int} {x y z:Bool} {d d':D} {xs:List D} {hd:Hd}
theorem cG(c:aa Z a Y=Sb (.sh,.int i))(d:aa Z b Y=Sb (.sh,.int j)):aa Z (.bin .Add a b) Y=Sb (.sh,.int (i+j)):=aE (cj (wv c (wv d (oI rfl))))
theorem bZ(c:aa Z a Y=Sb (.sh,.int i))(d:aa Z b Y=Sb (.sh,.int j)):aa Z (.bin .Sub a b) Y=Sb (.sh,.int (i-j)):=aE (cj (wv c (wv d (zn rfl))))
theorem eN(h:0<j)(c:aa Z a Y=Sb (.sh,.int i))(d:aa Z b Y=Sb (.sh,.int j)):aa Z (.bin .Mod a b) Y=Sb (.sh,.int (i%j)):=aE (cj (wv c (wv d (Gv h rfl))))
theorem vG{xs ys:List D}(h:jd k xs=Se/\jd k' ys=Se/\xs.length+ys.length<=100000)(c:aa Z a Y=Sb (k,.lst xs))(d:aa Z b Y=Sb (k',.lst ys)):aa Z (.bin .Add a b) Y=Sb (.fr bJ,.lst (xs++ys)):=aE (cj (wv c (wv d (zo h rfl))))
theorem DH{z:Int}{n:Nat}(c:hd=.lst\/hd=.tup)(b:kf xs.length z=Sb n)(a:xs[n]?=Sb d):sB (Sb (k,.nd hd xs)) (Sb (k',.int z))=Sb (o9 k n,d):=by
 rcases c with rfl|rfl
 ·show aE (GB b a rfl)
 ·show aE (GD b a rfl)
theorem DI{m n:Nat}{z:Int}(a:z=n)(h:n<m):kf m z=Sb n:=by subst a;rw[vm (by lia) (by lia)];rfl
theorem dE{n:Nat}{z:Int}(f:aa Z a Y=Sb (k,.nd hd xs))(g:aa Z b Y=Sb (.sh,.int z))(h:hd=.lst\/hd=.tup)(e:z=n)(c:xs[n]?=Sb d):aa Z (.ix a b) Y=Sb (o9 k n,d):=by
 rw[oo,f,g];show DH h (DI e (OA.mp c).1) c
theorem cv(n:Nat)(c:aa Z a Y=Sb (.sh,.tup xs):=by rfl)(b:xs[n]?=Sb d:=by rfl):aa Z (.ix a (.lit (.int (n:Int)))) Y=Sb (.sh,d):=dE (k:=.sh) c rfl (.inr rfl) rfl b
theorem jT(b:aa Z a Y=Sb (k,d))(h:Bj d=Sb n):aa Z (.blt "len" (.cons a .nil)) Y=Sb (.sh,.int n):=aE (oF (aX (wv b (aG (GE h rfl)))))
theorem e1{p:KD}(b:aa Z a Y=Sb p):aP Z (.cons a .nil) Y=Sb [p]:=mh (aX (wv b (aG rfl)))
theorem e2(c:aa Z a Y=Sb p)(d:aa Z b Y=Sb q):aP Z (.cons a (.cons b .nil)) Y=Sb [p,q]:=mh (aX (wv c (aX (wv d (aG rfl)))))
theorem e3(e:aa Z a Y=Sb p)(f:aa Z b Y=Sb q)(d:aa Z c Y=Sb u):aP Z (.cons a (.cons b (.cons c .nil))) Y=Sb [p,q,u]:=mh (aX (wv e (aX (wv f (aX (wv d (aG rfl)))))))
theorem e4(g:aa Z a Y=Sb p)(h:aa Z b Y=Sb q)(f:aa Z c Y=Sb u)(d:aa Z e Y=Sb t):aP Z (.cons a (.cons b (.cons c (.cons e .nil)))) Y=Sb [p,q,u,t]:=mh (aX (wv g (aX (wv h (aX (wv f (aX (wv d (aG rfl)))))))))
theorem bM{B:Fn}{kds:List KD}{p:KD}(d:Z n=Sb B)(b:aP Z es Y=Sb kds)(hk:(kds.all λp=>i7 p.1 p.2)=Se)(hd:kds.map (·.2)=ds)(c:B ds=Sb p)(a:bv p.1=Sf):aa Z (.fn n es) Y=Sb p:=
 aE (zk d (wv b (qN ⟨p,by rw[hd];show c,a,.inl hk,rfl⟩)))
theorem lV{B:Fn}{kds:List KD}{p:KD}(d:Z n=Sb B)(b:aP Z es Y=Sb kds)(hk:ll p.1 p.2=Se)(hd:kds.map (·.2)=ds)(c:B ds=Sb p)(a:bv p.1=Sf):aa Z (.fn n es) Y=Sb p:=
 aE (zk d (wv b (qN ⟨p,by rw[hd];show c,a,.inr hk,rfl⟩)))
/- tests -/
theorem fH(c:aa Z a Y=Sb (k,d))(e:aa Z b Y=Sb (k',d'))(h:aq op d d'=Sb x):aD Z (.cmp op a b) Y=Sb x:=mh (zl (wv c (wv e (wv h rfl))))
theorem gU(c:aa Z a Y=Sb (.sh,d))(e:aa Z b Y=Sb (.sh,d'))(h:aq op d d'=Sb x):aD Z (.cmp op a b) Y=Sb x:=fH c e h
theorem cy(c:aa Z a Y=Sb (.sh,d):=by rfl)(e:aa Z b Y=Sb (.sh,d'):=by rfl)(h:aq op d d'=Sb x:=by nofun):aD Z (.cmp op a b) Y=Sb x:=fH c e h
theorem wX(c:aa Z a Y=Sb (.sh,.int i))(d:aa Z b Y=Sb (.sh,.int j)):aD Z (.cmp .Lt a b) Y=Sb (decide (i<j)):=fH c d rfl
theorem wY(c:aa Z a Y=Sb (.sh,.int i))(d:aa Z b Y=Sb (.sh,.int j)):aD Z (.cmp .Gt a b) Y=Sb (decide (j<i)):=fH c d rfl
theorem lW(c:aa Z a Y=Sb (.sh,.int i))(d:aa Z b Y=Sb (.sh,.int j)):aD Z (.cmp .Eq a b) Y=Sb (decide (i=j)):=fH c d (mh (qM rfl))
theorem GO(c:aa Z a Y=Sb (.sh,.int i))(d:aa Z b Y=Sb (.sh,.int j)):aD Z (.cmp .NotEq a b) Y=Sb (!decide (i=j)):=fH c d (mh (DB rfl))
theorem jJ(h:aD Z a Y=Sb x):aD Z (.not a) Y=Sb (!x):=by rw[yz,h];rfl
theorem jU(h:aD Z a Y=Sb x):aD Z (.bool op (.cons a .nil)) Y=Sb x:=mh (qL (wv h rfl))
theorem tL(h:aD Z a Y=Sb x)(h2:x=Sf->aD Z (.bool .Or (.cons b r)) Y=Sb y):aD Z (.bool .Or (.cons a (.cons b r))) Y=Sb (x||y):=by
 show mh (lR (wv h ?_));cases x
 ·show⟨λ_=>wv (h2 rfl) rfl,λh=>absurd rfl h⟩
 ·show⟨λh=>absurd h (by decide),λ_=>rfl⟩
theorem qW(h:aD Z a Y=Sb x)(h2:x=Se->aD Z (.bool .And (.cons b r)) Y=Sb y):aD Z (.bool .And (.cons a (.cons b r))) Y=Sb (x&&y):=by
 show mh (lR (wv h ?_));cases x
 ·show⟨λh=>absurd h (by decide),λ_=>rfl⟩
 ·show⟨λ_=>wv (h2 rfl) rfl,λh=>absurd rfl h⟩
theorem Cq(h:aa Z (.fn n es) Y=Sb (k,.bl x)):aD Z (.fn n es) Y=Sb x:=by rw[Bz,<- yy,h];rfl
theorem no(b:aa Z a Y=Sb (k,d))(h:qg T d=Sb x):aD Z (.isi T a) Y=Sb x:=by
 rw[yB,<- uF,show aa Z (.isi T a) Y=Sb (.sh,.bl x) from aE (tG (wv b (wv h rfl)))];rfl
theorem Kk{n:Nat}{s:Sl}(h:Y[n]?=Sb (Sb s))(a:ss s.d=Sb x):aD Z (.var n) Y=Sb x:=by
 rw[yA,h];change eC (Sb (pU n s))=_;unfold eC;obtain⟨b,c,e⟩:=s
 cases b<;>(unfold pU;first|show a|(split<;>show a))
theorem Kl(h:aa Z (.ix a b) Y=Sb (k,d))(c:ss d=Sb x):aD Z (.ix a b) Y=Sb x:=by rw[By,<- oo,h];show c
/- truths as values -/
theorem gW(h:aD Z (.cmp op a b) Y=Sb x):aa Z (.cmp op a b) Y=Sb (.sh,.bl x):=by rw[Bu,<- qm,h];rfl
theorem DJ(b:aa Z a Y=Sb (k,d))(h:qg T d=Sb x):aa Z (.isi T a) Y=Sb (.sh,.bl x):=aE (tG (wv b (wv h rfl)))
theorem Km(h:aa Z a Y=Sb (k,d))(b:ss d=Sb x):aa Z (.not a) Y=Sb (.sh,.bl (!x)):=aE (zi (wv h (wv b rfl)))
theorem vH(h:aa Z a Y=Sb p):aa Z (.bool op (.cons a .nil)) Y=Sb p:=aE (qJ (wv h rfl))
theorem qX(h:aa Z a Y=Sb (k,.bl x))(h2:x=Se->aa Z (.bool .And (.cons b r)) Y=Sb (.sh,.bl y)):aa Z (.bool .And (.cons a (.cons b r))) Y=Sb (.sh,.bl (x&&y)):=by
 show aE (qK (wv h ⟨x,rfl,?_⟩));cases x
 ·show⟨λh=>absurd h (by decide),λ_=>rfl⟩
 ·show⟨λ_=>wv (h2 rfl) rfl,λh=>absurd rfl h⟩
theorem qY(h:aD Z t Y=Sb x)(h1:x=Se->aa Z a Y=Sb p)(h2:x=Sf->aa Z b Y=Sb p):aa Z (.ifx t a b) Y=Sb p:=aE (zj (wv h ⟨λe=>wv (h1 e) rfl,λe=>wv (h2 e) rfl⟩))
/- comprehensions -/
theorem Lo{α:Type}{l:List α}{f g:α->D}{hd:Hd}{r:Ow}{cap:List (Option Nat)}{tg:IT}{a elt:IE}(j:hd=.lst\/hd=.tup)(d:aa Z a Y=Sb (k,.nd hd (l.map f)))(b:jd k (l.map f)=Se)(hl:l.length<=100000)
  (h:∀a∈l,Wp (dP tg (cD Z .non) (aa Z elt) (bi Y cap) (f a)) λo=>∃c,o=Sb (c,g a)/\bE r (c,g a)=Se):aa Z (.comp r cap tg (.e a) .non elt) Y=Sb (.fr (.own [] r),.lst (l.map g)):=by
 show aE (e7 (tH (wv d ?_)));rcases j with rfl|rfl
 ·show jB b ⟨by simpa using hl,(vD h).mono λi e=>by rw[e]⟩
 ·show GI b ⟨by simpa using hl,(vD h).mono λi e=>by rw[e]⟩
theorem Na{n:Nat}{g:Nat->D}{r:Ow}{cap:List (Option Nat)}{tg:IT}{a elt:IE}(c:aa Z a Y=Sb (k,iD n))(hn:n<=100000)
  (h:∀i,i<n->Wp (dP tg (cD Z .non) (aa Z elt) (bi Y cap) (iD i)) λo=>∃b,o=Sb (b,g i)/\bE r (b,g i)=Se):aa Z (.comp r cap tg (.rng (nL 0) a) .non elt) Y=Sb (.fr (.own [] r),.lst ((O9 n).map g)):=by
 show aE (e7 (oH (a9 (wv c (jA (dX (by lia) (by lia) (by lia) (by lia) (by lia)) ⟨?_,?_⟩)))))
 ·change(d8 0 (n:Int)).length<=_;rw[vF,On,P4];show hn
 ·change Wp (aT r _ (d8 0 (n:Int))) _;rw[vF];show(vD λi hi=>h i (P5.mp hi)).mono λd e=>by rw[e]
/- all,any,sum,min over a comprehension -/
theorem Ko{bs:List Bool}(h:aa Z a Y=Sb (k,.lst (bs.map D.bl))):aa Z (.blt "all" (.cons a .nil)) Y=Sb (.sh,.bl (bs.all id)):=aE (oF (aX (wv h (aG (GF rfl)))))
end
section
variable {Z:GG} {N:Nat} {pn:List Nat} {Y:Ro} {Q:Res->Prop} {rest:bC}
theorem ff(h:aD Z.fn t Y=Sb z)(h1:z=Se->Wp (aY Z N a pn Y) (Kt Z N rest pn Q))(h2:z=Sf->Wp (aY Z N b pn Y) (Kt Z N rest pn Q)):Wp (aY Z N (.cons (.ifs (.p t) a b) rest) pn Y) Q:=
 DC (nk (wv h ⟨h1,h2⟩))
theorem aR{x:KD}(h:aa Z.fn e Y=Sb x)(a:bv (c9 x.1 x.2)=Sf)(hn:i∉pn)(w:Wp (aY Z N rest pn (Y.set i (Sb ⟨Sf,HN (c9 x.1 x.2),x.2⟩))) Q):Wp (aY Z N (.cons (.asg i (.p e)) rest) pn Y) Q:=
 bU (aN (wv h ⟨⟨a,hn⟩,w⟩))
theorem bP{x:KD}(h:aa Z.fn e Y=Sb x)(a:bv (c9 x.1 x.2)=Sf)(q:Q (.rt (c9 x.1 x.2) x.2 Y)):Wp (aY Z N (.cons (.ret (.p e)) rest) pn Y) Q:=cu (aN (wv h ⟨a,q⟩))
end
theorem c6{ds:List D}(hl:ds.length=m)(h:Wp (aY Z N body [] (lO k (ds.map Cb))) λr=>Wp (g9 (Sb r)) λx=>x=p):ci Z N m k body ds=Sb p:=aE (zt hl h)
theorem bH(a:bv kd=Sf)(q:(kd,d)=p):Wp (g9 (Sb (.rt kd d Y))) λx=>x=p:=gR a q
section
variable {Z:GG} {N:Nat} {pn:List Nat} {Y:Ro} {Q:Res->Prop} {rest:bC}
theorem ab(h:aD Z.fn t Y=Sb Sf)(w:Wp (aY Z N rest pn Y) Q):Wp (aY Z N (.cons (.ifs (.p t) a .nil) rest) pn Y) Q:=ff h (λe=>by cases e) λ_=>eM w
theorem bR{x:KD}(h:aD Z.fn t Y=Sb Se)(h1:aa Z.fn e Y=Sb x)(a:bv (c9 x.1 x.2)=Sf)(q:Q (.rt (c9 x.1 x.2) x.2 Y)):Wp (aY Z N (.cons (.ifs (.p t) (.cons (.ret (.p e)) .nil) b) rest) pn Y) Q:=ff h (λ_=>bP h1 a (fq q)) λe=>by cases e
theorem tM(h:aa Z.fn e Y=Sb (.sh,.tup [a,b]))(c:(!pn.contains i&&!pn.contains j)=Se)(w:Wp (aY Z N rest pn ((Y.set i (fS a)).set j (fS b))) Q):Wp (aY Z N (.cons (.unp [i,j] (.p e)) rest) pn Y) Q:=
 oN (aN (wv h ⟨_,_,_,rfl,rfl,⟨rfl,by simpa using c⟩,w⟩))
end
section
variable {Z:Nat->Option Fn} {Y:Ro} {a b c:IE} {k k' k'':Kd} {i j l:Int} {m n:Nat} {d d':D}
theorem ck(c:aa Z a Y=Sb (.sh,d))(e:aa Z b Y=Sb (.sh,d')):aa Z (.tup .fz (.cons a (.cons b .nil))) Y=Sb (.sh,.tup [d,d']):=by
 rw[iM,e2 c e];rfl
theorem DL(c:aa Z a Y=Sb (.sh,iD m))(d:aa Z b Y=Sb (.sh,iD n)):aa Z (.bin .BitAnd a b) Y=Sb (.sh,iD (m &&& n)):=aE (cj (wv c (wv d (GM rfl))))
theorem GP(a b:Nat):Builtin.bitOr (a:Int) b=((a ||| b:Nat):Int):=by
 have:=PyProof.Rows.nat_or_add_and a b;rw[PyProof.Rows.bitOr_and,oU];lia
theorem Cr:∀a b:Nat,a+b=(a ^^^ b)+2*(a &&& b):=by
 intro a
 induction a using Nat.strongRecOn with
 |ind a c=>
  intro b;by_cases d:a=0
  ·subst d;simp
  have:=c (a / 2) (by lia) (b / 2);rw[<- Nat.xor_div_two,<- Nat.and_div_two] at this;let f:(a &&& b)%2=1↔a%2=1/\b%2=1:=Nat.and_mod_two_eq_one;let e:(a ^^^ b)%2=1↔¬(a%2=1↔b%2=1):=Nat.xor_mod_two_eq_one
  lia
theorem Cs(a b:Nat):Builtin.bitXor (a:Int) b=((a ^^^ b:Nat):Int):=by
 rw[PyProof.Rows.bitXor_and,oU];have:=Cr a b
 lia
theorem Kp(c:aa Z a Y=Sb (.sh,iD m))(d:aa Z b Y=Sb (.sh,iD n)):aa Z (.bin .BitOr a b) Y=Sb (.sh,iD (m ||| n)):=aE (cj (wv c (wv d ⟨_,rfl,by rw[GP]⟩)))
theorem DM(c:aa Z a Y=Sb (.sh,iD m))(d:aa Z b Y=Sb (.sh,iD n)):aa Z (.bin .BitXor a b) Y=Sb (.sh,iD (m ^^^ n)):=aE (cj (wv c (wv d ⟨_,rfl,by rw[Cs]⟩)))
theorem GQ(c:aa Z a Y=Sb (.sh,.int i))(d:aa Z b Y=Sb (.sh,.int j)):aa Z (.bin .BitAnd a b) Y=Sb (.sh,.int (Builtin.bitAnd i j)):=aE (cj (wv c (wv d ⟨_,rfl,rfl⟩)))
theorem lX{m:Nat}(h:m<2^64):(m:Int).natAbs<lim:=by
 rw[Int.natAbs_natCast];show Ov h (by nofun)
theorem jV(hm:m<2^64)(hn:n<=1000)(c:aa Z a Y=Sb (.sh,iD m))(d:aa Z b Y=Sb (.sh,iD n)):aa Z (.bin .LShift a b) Y=Sb (.sh,iD (m <<< n)):=by
 show aE (cj (wv c (wv d (Gx ⟨by lia,by lia,lX hm⟩ ?_))));rw[Ph,QZ];congr 2
theorem Kq(c:aa Z a Y=Sb (.sh,iD m))(d:aa Z b Y=Sb (.sh,iD n)):aa Z (.bin .RShift a b) Y=Sb (.sh,iD (m >>> n)):=by
 show aE (cj (wv c (wv d (Gy (by lia) ?_))));rw[Ph,Nat.shiftRight_eq_div_pow];congr 2
theorem Kr{xs:List D}{j:Nat}(c:aa Z a Y=Sb (.sh,.nd (.obj cn ns) xs))(e:bm f ns=Sb j)(b:xs[j]?=Sb d):aa Z (.fld f a) Y=Sb (.sh,d):=by
 rw[Bw,c]
 change(match bm f ns with|some j=>(xs[j]?).map λd=>(o9 .sh j,d)|none=>Sd)=_
 rw[e];change(xs[j]?).map _=_;rw[b];rfl
theorem i5{ds:List D}{j:Nat}(c:aa Z a Y=Sb (k,.nd (.dic t ks) ds))(e:aa Z b Y=Sb (k',d'))(h:j3 d'=Sb q)(f:jg t q=Se)(g:aH ks q=Sb j)(hd:ds[j]?=Sb d):aa Z (.ix a b) Y=Sb (o9 k j,d):=by
 rw[oo,c,e];change sA k (t,ks,ds) d'=_;unfold sA;rw[h]
 change(if jg t q=Se then(match aH ks q with|some j=>(ds[j]?).map λd=>(o9 k j,d)|none=>Sd) else Sd)=_
 rw[if_pos f,g];change(ds[j]?).map _=_;rw[hd];rfl
end
theorem Ct{w:Nat}(h:w<=64):ψ9 [iD w]=Sb (.sh,iD (2^w-1)):=by
 unfold ψ9;show c6 rfl ?_;unfold b9;show bP (x:=(.sh,iD (2^w-1))) ?_ rfl (bH rfl rfl);rw[bZ (jV (by decide) (by lia) rfl rfl) rfl];have:=O4 w;rw[OY];congr 3
 lia
def Al(P:Fo->Prop):Fo->Prop
 |.name x=>P (.name x)
 |.num w v=>P (.num w v)
 |.not a=>P (.not a)/\Al P a
 |.two o a b=>P (.two o a b)/\Al P a/\Al P b
 |.ite c a b=>P (.ite c a b)/\Al P c/\Al P a/\Al P b
 |.join a b=>P (.join a b)/\Al P a/\Al P b
 |.cmp l a b=>P (.cmp l a b)/\Al P a/\Al P b
 |.cut a lo w=>P (.cut a lo w)/\Al P a
theorem Al.at{P:Fo->Prop}:∀{f:Fo},Al P f->P f
 |.name _,h=>h
 |.num _ _,h=>h
 |.not _,h=>h.1
 |.two _ _ _,h=>h.1
 |.ite _ _ _,h=>h.1
 |.join _ _,h=>h.1
 |.cmp _ _ _,h=>h.1
 |.cut _ _ _,h=>h.1
def Pc(L:Str->Nat)(X:Str->Prop)(f:Fo):Prop:=wid L f<=8/\∀x,f=.name x->X x
theorem GR{w:Nat}{a b:Nat}{s:Bool}:K3 [.str (if s then "less" else "same"),iD a,iD b]=Sb (.sh,iD (if s then bn (decide (a<b)) else bn (decide (a=b)))):=by
 unfold K3;show c6 rfl ?_;unfold MA
 show let z:Bool:=if s then decide (a<b) else decide (a=b);?_
 let c:aa Z_9.fn (.ifx (.cmp .Eq (.var 0) (sL "same")) (.cmp .Eq (.var 1) (.var 2)) (.cmp .Lt (.var 1) (.var 2))) [fS (.str (if s then "less" else "same")),fS (iD a),fS (iD b),Sd]=Sb (.sh,.bl z):=by
  cases s with
  |true=>
   show qY (x:=Sf) cy (λe=>by cases e) λ_=>?_;rw[gW (wX rfl rfl)];change Sb (Kd.sh,D.bl _)=Sb (Kd.sh,D.bl (decide (a<b)));rw[decide_eq_decide.mpr Int.ofNat_lt]
  |false=>
   show qY (x:=Se) cy (λ_=>?_) λe=>by cases e
   rw[gW (lW rfl rfl)];change Sb (Kd.sh,D.bl _)=Sb (Kd.sh,D.bl (decide (a=b)));rw[decide_eq_decide.mpr Int.ofNat_inj]
 show aR c rfl (by decide) ?_;show bP (x:=(.sh,iD (bn z))) ?_ rfl (bH rfl ?_)
 ·show qY (Kk rfl rfl) (λe=>?_) λe=>?_<;>rw[e]<;>rfl
 ·change(Kd.sh,iD (bn (if s then decide (a<b) else decide (a=b))))=_
  cases s<;>rfl
noncomputable def NY(o:Cp)(a b:Nat):Int:=match o with
 |.and=>((a &&& b:Nat):Int)|.or=>((a ||| b:Nat):Int)|.xor=>((a ^^^ b:Nat):Int)|.plus=>(a:Int)+b|.minus=>(a:Int)-b
theorem GS:K4 [.str (DF o),iD a,iD b]=Sb (.sh,.int (NY o a b)):=by
 unfold K4;show c6 rfl ?_;unfold MB
 cases o with
 |and=>
  show bR (x:=(.sh,iD (a &&& b))) cy ?_ rfl (bH rfl rfl);show DL rfl rfl
 |or=>
  show ab cy ?_;show bR (x:=(.sh,iD (a ||| b))) cy ?_ rfl (bH rfl rfl);show Kp rfl rfl
 |xor=>
  show ab cy ?_;show ab cy ?_;show bR (x:=(.sh,iD (a ^^^ b))) cy ?_ rfl (bH rfl rfl);show DM rfl rfl
 |plus=>
  show ab cy ?_;show ab cy ?_;show ab cy ?_;show bR (x:=(.sh,.int ((a:Int)+b))) cy ?_ rfl (bH rfl rfl);show cG rfl rfl
 |minus=>
  show ab cy ?_;show ab cy ?_;show ab cy ?_;show ab cy ?_;show bP (x:=(.sh,.int ((a:Int)-b))) ?_ rfl (bH rfl rfl);show bZ rfl rfl
noncomputable def dr:bC->Nat->bC
 |r,0=>r
 |.cons _ r,n+1=>dr r n
 |.nil,_+1=>.nil
def j6(w s:Str):Bool:=aq .Eq (.str w) (.str s)==Sb Sf
theorem bN(h:j6 w s=Se):aq .Eq (.str w) (.str s)=Sb Sf:=by simpa[j6] using h
theorem Ks{n:Nat}(h1:j6 w "name" = Se)(h2:j6 w "number" = Se)(a:j6 w "of" = Se)(b:j6 w "at" = Se)(h:Wp (aY (Z_11.addI 8 (vl n)) 1000 (dr b8 5) [] [fS (.tup (.str w::xs)),fS sc,fS (.str w),Sd,Sd,Sd,Sd]) λr=>Wp (g9 (Sb r)) λx=>x=p):vl (n+1) [.tup (.str w::xs),sc]=Sb p:=by
 change ci (Z_11.addI 8 (vl n)) 1000 2 7 b8 [.tup (.str w::xs),sc]=_;show c6 rfl ?_;unfold b8 at h⊢;show aR (cv 0) rfl (by decide) ?_;show ab (gU rfl rfl (bN h1)) ?_;show ab (gU rfl rfl (bN h2)) ?_;show ab (gU rfl rfl (bN a)) ?_;show ab (gU rfl rfl (bN b)) ?_;show h
theorem oV{n:Nat}(h1:j6 w "name" = Se)(h2:j6 w "number" = Se)(b:j6 w "of" = Se)(d:j6 w "at" = Se)(c:vl n [a,sc]=Sb (.sh,pD v l))(h:Wp (aY (Z_11.addI 8 (vl n)) 1000 (dr b8 6) [] [fS (.tup (.str w::a::xs)),fS sc,fS (.str w),fS (iD v),fS (iD l),Sd,Sd]) λr=>Wp (g9 (Sb r)) λx=>x=p):vl (n+1) [.tup (.str w::a::xs),sc]=Sb p:=by
 show Ks h1 h2 b d ?_;unfold b8 at h⊢;show tM ?_ rfl h;show bM rfl (e2 (cv 1) rfl) rfl rfl c rfl
theorem tN{n:Nat}(h1:j6 w "name" = Se)(h2:j6 w "number" = Se)(c:j6 w "of" = Se)(f:j6 w "at" = Se)(d:vl n [a,sc]=Sb (.sh,pD v l))(e:vl n [b,sc]=Sb (.sh,pD v' l'))(g:j6 w "not" = Se)(i:j6 w "cut" = Se)(j:j6 w "if" = Se)(h:Wp (aY (Z_11.addI 8 (vl n)) 1000 (dr b8 10) [] [fS (.tup (.str w::a::b::xs)),fS sc,fS (.str w),fS (iD v),fS (iD l),fS (iD v'),fS (iD l')]) λr=>Wp (g9 (Sb r)) λx=>x=p):vl (n+1) [.tup (.str w::a::b::xs),sc]=Sb p:=by
 show oV h1 h2 c f d ?_;unfold b8 at h⊢;show ab (gU rfl rfl (bN g)) ?_;show ab (gU rfl rfl (bN i)) ?_;show ab (gU rfl rfl (bN j)) ?_;show tM ?_ rfl h;show bM rfl (e2 (cv 2) rfl) rfl rfl e rfl
def Sc(L E:Str->Nat)(sc:D)(x:Str):Prop:=∃q ds r o j,sc=.nd (.obj "Scene" ["names","rooms","outs"]) [.nd (.dic 0 q) ds,r,o]/\aH q (.inl (.inr x))=Sb j/\ds[j]?=Sb (pD (E x) (L x))
section
variable {L E:Str->Nat} {sc:D} {n:Nat}
theorem Cu(h:Sc L E sc x):vl (n+1) [dY (.name x),sc]=Sb (.sh,pD (E x) (L x)):=by
 obtain⟨c,d,r,o,j,rfl,b,a⟩:=h;change ci (Z_11.addI 8 (vl n)) 1000 2 7 b8 [.tup [.str "name",.str x],_]=_;show c6 rfl ?_;unfold b8;show aR (cv 0) rfl (by decide) ?_;show bR (x:=(.sh,pD (E x) (L x))) (cy) ?_ rfl (bH rfl rfl);show i5 (Kr (j:=0) rfl (by nofun) rfl) (cv 1) rfl rfl b a
theorem GU:vl (n+1) [dY (.num w v),sc]=Sb (.sh,pD v w):=by
 change ci (Z_11.addI 8 (vl n)) 1000 2 7 b8 [.tup [.str "number",iD w,iD v],_]=_;show c6 rfl ?_;unfold b8;show aR (cv 0) rfl (by decide) ?_;show ab (cy) ?_;show bR (x:=(.sh,pD v w)) (cy) ?_ rfl (bH rfl rfl);show ck (cv 2) (cv 1)
theorem tO{Z:Nat->Option Fn}{w:Nat}(c:Z 9=Sb ψ9)(h:w<=64)(b:aa Z a Y=Sb (.sh,iD w)):aa Z (.fn 9 (.cons a .nil)) Y=Sb (.sh,iD (2^w-1)):=bM c (e1 b) rfl rfl (Ct h) rfl
theorem Cv(o:Cp){a b w:Nat}(d:a<2^w)(c:b<2^w):Builtin.bitAnd (NY o a b) ((2^w-1:Nat):Int)=((match o with|.and=>a &&& b|.or=>a ||| b|.xor=>a ^^^ b|.plus=>(a+b)%2^w|.minus=>(a+2^w-b)%2^w:Nat):Int):=by
 cases o with
 |and=>show(f9 _ w).trans (by rw[PJ (QK _ c)])
 |or=>show(f9 _ w).trans (by rw[PJ (QS d c)])
 |xor=>show(f9 _ w).trans (by rw[PJ (QJ d c)])
 |plus=>show(show Builtin.bitAnd ((a:Int)+b) _=_ by rw[<- PZ];show f9 _ w)
 |minus=>show zC d c
theorem GV(o:Cp):(["name","number","of","at","not","cut","if","join"]:List Str).all (j6 (DF o))=Se:=by cases o<;>nofun
theorem GW(o:Cp):aq .In (.str (DF o)) (.tup [.str "same",.str "less"])=Sb Sf:=by cases o<;>nofun
end
theorem Nb{v w:Nat}(h:w<=8)(a:v<2^w):v<2^64:=Ov a (PD (by decide) (by lia))
theorem fu{L E:Str->Nat}(d:∀x,E x<2^L x):∀(f:Fo) (n:Nat),Wf L f->Al (Pc L (Sc L E sc)) f->dep f<n->vl n [dY f,sc]=Sb (.sh,pD (val L E f) (wid L f))
 |f,0,_,_,h=>absurd h (Qf _)
 |.name x,n+1,_,hp,_=>Cu (hp.2 x rfl)
 |.num w v,n+1,_,_,_=>GU
 |.not a,n+1,hw,⟨hp,ha⟩,hd=>by
  let i:=fu d a n hw ha (by simp only[dep] at hd;lia);show oV (by nofun) (by nofun) (by nofun) (by nofun) i ?_;unfold b8;show bR (x:=(.sh,pD (val L E a ^^^ (2^wid L a-1)) (wid L a))) (cy) ?_ rfl (bH rfl rfl);show ck (DM rfl (tO rfl (by have:=ha.at.1;lia) rfl)) rfl
 |.cut a lo w,n+1,⟨hw,hl⟩,⟨hp,ha⟩,hd=>by
  let i:=fu d a n hw ha (by simp only[dep] at hd;lia);show oV (by nofun) (by nofun) (by nofun) (by nofun) i ?_;unfold b8;show ab (cy) ?_;show bR (x:=(.sh,pD ((val L E a >>> lo) &&& (2^w-1)) w)) (cy) ?_ rfl (bH rfl rfl);show ck (DL (Kq rfl (cv 2)) (tO rfl ?_ (cv 3))) (cv 3);have:=ha.at.1
  lia
 |.ite c a b,n+1,⟨hc,ha,hb,h1,hw⟩,⟨hp,pc,pa,pb⟩,hd=>by
  simp only[dep] at hd;let i:=fu d c n hc pc (by lia);let g:=fu d a n ha pa (by lia);let j:=fu d b n hb pb (by lia);show oV (by nofun) (by nofun) (by nofun) (by nofun) i ?_;unfold b8;show ab (cy) ?_;show ab (cy) ?_;show bR (x:=(.sh,pD (val L E (.ite c a b)) (wid L a))) (cy) ?_ rfl (bH rfl rfl)
  let A:aa (Z_11.addI 8 (vl n)).fn (.ifx (.cmp .Eq (.var 3) (nL 1)) (.ix (.var 0) (nL 2)) (.ix (.var 0) (nL 3))) [fS (dY (.ite c a b)),fS sc,fS (.str "if"),fS (iD (val L E c)),fS (iD (wid L c)),Sd,Sd]=Sb (.sh,if val L E c=1 then dY a else dY b):=by
   show qY (lW rfl rfl) (λe=>?_) λe=>?_
   ·let e:val L E c=1:=by have:=of_decide_eq_true e;lia
    rw[if_pos e];show cv 2
   ·let e:¬val L E c=1:=by have:=of_decide_eq_false e;lia
    rw[if_neg e];show cv 3
  show bM (ds:=[if val L E c=1 then dY a else dY b,sc]) rfl (e2 A rfl) rfl rfl ?_ rfl
  by_cases e:val L E c=1
  ·rw[if_pos e,g];simp only[val,if_pos e]
  ·rw[if_neg e,j];simp only[val,if_neg e,hw]
 |.join a b,n+1,⟨ha,hb⟩,⟨hp,pa,pb⟩,hd=>by
  simp only[dep] at hd;let g:=fu d a n ha pa (by lia);let j:=fu d b n hb pb (by lia);show tN (by nofun) (by nofun) (by nofun) (by nofun) g j (by nofun) (by nofun) (by nofun) ?_;unfold b8;show bR (x:=(.sh,pD (val L E a ||| val L E b <<< wid L a) (wid L a+wid L b))) (cy) ?_ rfl (bH rfl rfl);show ck (Kp rfl (jV (Nb pb.at.1 (aK L E d b hb).2) (by have:=pa.at.1;lia) rfl rfl)) ?_;rw[cG rfl rfl,<- PZ]
 |.cmp s a b,n+1,⟨ha,hb,hw⟩,⟨hp,pa,pb⟩,hd=>by
  simp only[dep] at hd;let g:=fu d a n ha pa (by lia);let j:=fu d b n hb pb (by lia)
  let k:((["name","number","of","at","not","cut","if","join"]:List Str).all (j6 (if s then "less" else "same")))=Se:=by cases s<;>nofun
  simp only[Pm,RO,Oo] at k;obtain⟨q1,y,q,t,r,m,u,p,_⟩:=k;show tN q1 y q t g j r m u ?_;unfold b8;show ab (gU rfl rfl (bN p)) ?_
  show bR (x:=(.sh,pD (val L E (.cmp s a b)) 1)) (gU rfl rfl (by cases s<;>nofun)) ?_ rfl (bH rfl rfl)
  show ck (bM rfl (e3 rfl rfl rfl) rfl rfl (GR (w:=0)) rfl) rfl
 |.two o a b,n+1,⟨ha,hb,hw⟩,⟨hp,pa,pb⟩,hd=>by
  simp only[dep] at hd;let g:=fu d a n ha pa (by lia);let j:=fu d b n hb pb (by lia);let k:=GV o;simp only[Pm,RO,Oo] at k;obtain⟨q1,y,q,t,r,m,u,p,_⟩:=k;show tN q1 y q t g j r m u ?_;unfold b8;show ab (gU rfl rfl (bN p)) ?_;show ab (gU rfl rfl (GW o)) ?_;show bP (x:=(.sh,pD (val L E (.two o a b)) (wid L a))) ?_ rfl (bH rfl rfl);show ck ?_ rfl;let l:=(aK L E d a ha).2;let z:=(aK L E d b hb).2;rw[<- hw] at z;rw[GQ (bM rfl (e3 rfl rfl rfl) rfl rfl GS rfl) (tO rfl (by have:=pa.at.1;lia) rfl),Cv o l z];rfl
theorem DN{b:D->Option (Option KD)}:∀{ds:List D},(∀d∈ds,∃kd,b d=Sb (if t d=Se then Sb (kd,d) else Sd)/\bE r (kd,d)=Se)->aT r b ds=Sb (ds.filter t)
 |[],_=>rfl
 |d::ds,h=>by
  obtain⟨kd,e,f⟩:=h d OL;rw[aT,e,DN λx c=>h x (OH _ c)];by_cases a:t d=Se
  ·rw[if_pos a]
   change(if bE r (kd,d)=Se then Sb (d::ds.filter t) else Sd)=_
   rw[if_pos f,Qp a]
  ·rw[if_neg a,Qq a]
section
variable {Z:Nat->Option Fn} {Y:Ro}
theorem vI(hn:bA [(1,d)] Y0=Se)(b:aD Z t (setAll [(1,d)] Y0)=Sb z)(a:aa Z e (setAll [(1,d)] Y0)=Sb (kd,d)):dP (.nm 1) (cD Z (.som t)) (aa Z e) Y0 d=Sb (if z=Se then Sb (kd,d) else Sd):=by
 change(if bA [(1,d)] Y0=Se then(match aD Z t (setAll [(1,d)] Y0) with|some Se=>(aa Z e (setAll [(1,d)] Y0)).map Sb|some Sf=>Sb Sd|none=>Sd) else Sd)=_
 rw[if_pos hn,b,a]
 cases z<;>rfl
theorem Cw{ds:List D}(b:aa Z a Y=Sb (.sh,.lst ds))(hl:ds.length<=100000)(h:∀d∈ds,∃kd,dP (.nm 1) (cD Z (.som t)) (aa Z e) (bi Y cap) d=Sb (if tt d=Se then Sb (kd,d) else Sd)/\bE .fz (kd,d)=Se):aa Z (.comp .fz cap (.nm 1) (.e a) (.som t) e) Y=Sb (.fr k0,.lst (ds.filter tt)):=
 aE (e7 (tH (wv b (jB rfl ⟨hl,wv (DN h) rfl⟩))))
end
def Rw(w:Str)(t:D->Bool)(d:D):Prop:=∃q xs,d=.tup (.str q::xs)/\aq .Eq (.str q) (.str w)=Sb (t d)
theorem Cy{ds:List D}(hl:ds.length<=100000)(h:∀d∈ds,Rw w t d):ψ0 [.lst ds,.str w]=Sb (.fr k0,.lst (ds.filter t)):=by
 unfold ψ0;show c6 rfl ?_;unfold b0;show bP (Cw rfl hl λd a=>?_) rfl (bH rfl rfl);obtain⟨b,c,rfl,e⟩:=h d a;show⟨.sh,vI rfl (gU (cv 0) rfl e) rfl,rfl⟩
theorem zE{t:D->Bool}{ds:List D}(hl:ds.length<=100000)(h:∀d∈ds,∃a xs,d=.tup (.str a::xs)/\aq .In (.str a) (.tup [.str "memory",.str "rooms",.str "use"])=Sb (t d)):ψ3 [.lst ds]=Sb (.fr k0,.lst (ds.filter t)):=by
 unfold ψ3;show c6 rfl ?_;unfold b3;show bP (Cw rfl hl λd b=>?_) rfl (bH rfl rfl);obtain⟨a,xs,rfl,e⟩:=h d b;show⟨.sh,vI rfl (gU (cv 0) rfl e) rfl,rfl⟩
section
variable {Z:GG} {N:Nat} {pn fg:List Nat} {Y:Ro} {Q:Res->Prop} {rest b:bC} {tg:IT} {it:II} {ds:List D}
theorem cL(h:cw Z.fn it Y=Sb ([],ds))(I:Nat->Ro->Prop)(c:I 0 Y)(a:∀(i:Nat) d Y,ds[i]?=Sb d->I i Y->∃ps,rA tg d=Sb ps/\(ps.all λq=>!pn.contains q.1)=Se/\Wp (aY Z N b pn (setAll ps (clrN fg Y))) λr=>∃Y',(r=.nx Y'\/r=.ct Y')/\I (i+1) Y')(f:∀Y',I ds.length Y'->Wp (aY Z N rest pn (clrN fg Y')) Q):Wp (aY Z N (.cons (.fo fg tg (.p it) b) rest) pn Y) Q:=by
 show vq (lS (wv h ⟨I,c,λi d Y e hi=>?_,f⟩));rw[OZ];show a i d Y e hi
theorem oW(h:cw Z.fn it Y=Sb ([],[]))(c:Wp (aY Z N rest pn (clrN fg Y)) Q):Wp (aY Z N (.cons (.fo fg tg (.p it) b) rest) pn Y) Q:=
 cL h (λ_ a=>a=Y) rfl (λi d Y e=>by cases e) λa e=>by rw[e];show c
end
section
variable {Z:Nat->Option Fn} {Y:Ro} {a b:IE} {k k':Kd} {xs ys:List D}
theorem bW(b:aa Z a Y=Sb (k,.lst xs))(h:jd k xs=Se):cw Z (.e a) Y=Sb (mn k,xs):=mh (tH (wv b (jB h rfl)))
theorem nq(c:aa Z a Y=Sb (k,.lst xs))(d:aa Z b Y=Sb (k',.lst ys))(h:jd k xs=Se)(h':jd k' ys=Se):cw Z (.zp a b) Y=Sb (mn k++mn k',oa xs ys):=by
 show mh (DA (wv c (wv d ?_)));show⟨_,?_,rfl⟩;unfold sK;rw[show fj (Sb (k,.nd .lst xs))=Sb (mn k,xs) from if_pos h,show fj (Sb (k',.nd .lst ys))=Sb (mn k',ys) from if_pos h']
theorem kC{α:Type}{f g:α->D}{l:List α}:oa (l.map f) (l.map g)=l.map λa=>.tup [f a,g a]:=by
 unfold oa;rw[R6,List.zipWith_self]
end
abbrev d9:=Str×Nat×Nat
abbrev DO(p:d9):D:=.tup [.str "in",.str p.1,iD p.2.1]
abbrev qZ(o:Str)(f:Fo):D:=.tup [.str "out",.str o,dY f]
noncomputable abbrev kS:Ow:=.own [] (.own [] .fz)
theorem wZ:MZ []=Sb (.fr kS,DG []):=by rfl
theorem gA{l:List d9}(h:x∉l.map (·.1)):aH (l.map λp=>(.inl (.inr p.1):DK)) (.inl (.inr x))=Sd:=by
 unfold aH;rw[Qg];intro k hk;obtain⟨p,a,rfl⟩:=Oy.mp hk;show decide_eq_false λe=>h ?_;cases e;show Oy.mpr ⟨p,a,rfl⟩
theorem eO:∀{l:List d9} {p:d9},p∈l->(l.map (·.1)).Nodup->∃j,aH (l.map λp=>(.inl (.inr p.1):DK)) (.inl (.inr p.1))=Sb j/\l[j]?=Sb p
 |q::l,p,h,hn=>by
  rw[OI,OX] at hn;unfold aH;rw[OI,O3];rcases OD.mp h with rfl|h
  ·show⟨0,by simp,rfl⟩
  ·let a:¬(.inl (.inr q.1):DK)=.inl (.inr p.1):=λe=>hn.1 (Oy.mpr ⟨p,h,by injection e with e;injection e with e;show e.symm⟩);obtain⟨j,e1,e2⟩:=eO h hn.2;unfold aH at e1;show⟨j+1,?_,e2⟩;rw[if_neg (by simpa using a),e1];rfl
theorem kF{a:List DK}{ds:List D}{d:D}(h:aH a (.inl (.inr x))=Sd)(hl:ds.length<100000):my [] .fz (.dic 0 a) ds (.str x) (.sh,d)=Sb (.dic 0 (a++[.inl (.inr x)]),ds++[d]):=by
 change(if jg 0 (.inl (.inr x))=Se/\ds.length<100000 then(match aH a (.inl (.inr x)) with
   |some j=>if bE (([]:List Ow).getD j .fz) (.sh,d)=Se/\a.Nodup/\j<ds.length then Sb (Hd.dic 0 a,ds.set j d) else Sd
   |none=>if([]:List Ow).length<=ds.length/\bE .fz (.sh,d)=Se then Sb (Hd.dic 0 (a++[.inl (.inr x)]),ds++[d]) else Sd) else Sd)=_
 rw[if_pos ⟨rfl,hl⟩,h];show if_pos ⟨OS _,rfl⟩
theorem bQ{α:Type}{l:List α}{i:Nat}{p:α}(h:l[i]?=Sb p):l.take (i+1)=l.take i++[p]:=by
 rw[Pp,h];rfl
theorem zG(l:List d9)(p:d9):DG (l++[p])=.nd (.obj "Scene" ["names","rooms","outs"]) [.nd (.dic 0 ((l.map λp=>.inl (.inr p.1))++[.inl (.inr p.1)])) ((l.map λp=>.tup [iD p.2.2,iD p.2.1])++[.tup [iD p.2.2,iD p.2.1]]),.nd (.dic 0 []) [],.nd (.dic 0 []) []]:=by
 unfold DG;rw[Oz,Oz];rfl
theorem ge{l:List d9}(hn:(l.map (·.1)).Nodup){i:Nat}{p:d9}(h:l[i]?=Sb p):p.1∉(l.take i).map (·.1):=by
 let a:((l.take (i+1)).map (·.1)).Nodup:=hn.sublist ((Qs _ _).map _);rw[bQ h,Oz,Qv] at a;intro hm;show a.2.2 _ hm _ (OV.mpr rfl) rfl
abbrev Mr:=d9×Nat×Fo
abbrev gf(m:Mr):D:=.tup [.str "memory",.str m.1.1,iD m.1.2.1,iD m.2.1,dY m.2.2]
abbrev kG(l:List d9):D:=.nd (.dic 0 (l.map λp=>.inl (.inr p.1))) (l.map λp=>iD p.2.2)
theorem DP{l:List d9}{p:d9}(d:p∈l)(hn:(l.map (·.1)).Nodup)(c:aa Z a Y=Sb (.sh,kG l))(e:aa Z b Y=Sb (k',.str p.1)):aa Z (.ix a b) Y=Sb (.sh,iD p.2.2):=by
 obtain⟨j,e1,e2⟩:=eO d hn;show i5 c e rfl rfl e1 (by rw[Op,e2];rfl)
theorem zH{tr:List d9}{ms:List Mr}(hn:((tr++ms.map (·.1)).map (·.1)).Nodup)(hl:(tr++ms.map (·.1)).length<1000)(hi:ψ0 [.lst ds,.str "in"]=Sb (.fr k0,.lst (tr.map DO)))(hm:ψ0 [.lst ds,.str "memory"]=Sb (.fr k0,.lst (ms.map gf)))(j:ψ0 [.lst ds,.str "rooms"]=Sb (.fr k0,.lst [])):ψ6 [.lst ds,kG (ms.map (·.1)),.lst (tr.map λp=>iD p.2.2)]=Sb (.fr kS,DG (tr++ms.map (·.1))):=by
 let g:(tr.map (·.1)).Nodup:=hn.sublist ((Q0 _ _).map _);let f:((ms.map (·.1)).map (·.1)).Nodup:=hn.sublist ((Qh _ _).map _);let l:tr.length<1000:=by rw[OF] at hl;lia
 unfold ψ6;show c6 rfl ?_;unfold b6;show aR (bM rfl rfl rfl rfl wZ rfl) rfl (by decide) ?_;show cL (nq (bM rfl (e2 rfl rfl) rfl rfl hi rfl) rfl rfl rfl |>.trans (by rw[kC];rfl)) (λi Y=>∃s4 s5,Y=[fS (.lst ds),fS (kG (ms.map (·.1))),fS (.lst (tr.map λp=>iD p.2.2)),Sb ⟨Sf,kS,DG (tr.take i)⟩,s4,s5]) ⟨Sd,Sd,rfl⟩ (λi d Y e a=>?_) λh a=>?_
 ·obtain⟨s4,s5,rfl⟩:=a;rw[Op] at e
  cases b:tr[i]? with
  |none=>rw[b] at e;cases e
  |some p=>
  rw[b] at e;cases e;show⟨[(4,DO p),(5,iD p.2.2)],rfl,rfl,?_⟩;show jS (aN (wv (ck rfl (cv 2)) (qS rfl (wv (cv 1) (f7 rfl rfl rfl (f8 (kF (gA (ge g b)) ?_) ?_))))))
  ·rw[On,OP];lia
  ·show aQ ⟨_,.inl rfl,fS (DO p),fS (iD p.2.2),?_⟩;rw[bQ b,zG];rfl
 ·obtain⟨s4,s5,rfl⟩:=a;rw[On,OR];show cL (bW (k:=.fr k0) (bM rfl (e2 rfl rfl) rfl rfl hm rfl) rfl) (λi Y=>∃s4 s5,Y=[fS (.lst ds),fS (kG (ms.map (·.1))),fS (.lst (tr.map λp=>iD p.2.2)),Sb ⟨Sf,kS,DG ((tr++ms.map (·.1)).take (tr.length+i))⟩,s4,s5]) ⟨s4,Sd,by rw[Nat.add_zero,List.take_left];rfl⟩ (λi d Y e a=>?_) λh a=>?_
  ·obtain⟨s4,s5,rfl⟩:=a;rw[Op] at e
   cases hm:ms[i]? with
   |none=>rw[hm] at e;cases e
   |some m=>
   rw[hm] at e;cases e
   let b:(tr++ms.map (·.1))[tr.length+i]?=Sb m.1:=by
    rw[Pf (Pd _ _),Qr,Op,hm];rfl
   let c:m.1∈ms.map (·.1):=Oy.mpr ⟨m,OK hm,rfl⟩;show⟨[(4,gf m)],rfl,rfl,?_⟩;show jS (aN (wv (ck (DP c f rfl (cv 1)) (cv 2)) (qS rfl (wv (cv 1) (f7 rfl rfl rfl (f8 (kF (gA (ge hn b)) ?_) ?_))))))
   ·rw[On,OP];lia
   ·show aQ ⟨_,.inl rfl,fS (gf m),s5,?_⟩;rw[<- P9,bQ b,zG];rfl
  ·obtain⟨s4,s5,rfl⟩:=a;rw[show(ms.map gf).length=(ms.map (·.1)).length by rw[On,On],<- OF,OR];show oW (bW (k:=.fr k0) (bM rfl (e2 rfl rfl) rfl rfl j rfl) rfl) ?_;show cu (dW rfl ⟨rfl,bH rfl rfl⟩)
inductive Row where
 |inp (x:Str) (w:Nat)
 |mem (x:Str) (w b:Nat) (f:Fo)
 |out (o:Str) (f:Fo)
def rD:Row->D
 |.inp x w=>.tup [.str "in",.str x,iD w]
 |.mem x w b f=>.tup [.str "memory",.str x,iD w,iD b,dY f]
 |.out o f=>.tup [.str "out",.str o,dY f]
noncomputable def GX(E:Str->Nat):Row->Option d9
 |.inp x w=>Sb (x,w,E x)
 |_=>Sd
noncomputable def w4(E:Str->Nat):Row->Option Mr
 |.mem x w b f=>Sb ((x,w,E x),b,f)
 |_=>Sd
noncomputable def CA:Row->Option (Str×Fo)
 |.out o f=>Sb (o,f)
 |_=>Sd
def tW(w:Str)(d:D):Bool:=match d with
 |.nd .tup (.str w'::_)=>aq .Eq (.str w') (.str w)==Sb Se
 |_=>Sf
def tS(d:D):Bool:=match d with
 |.nd .tup (.str w'::_)=>aq .In (.str w') (.tup [.str "memory",.str "rooms",.str "use"])==Sb Se
 |_=>Sf
noncomputable def q0:Row->Str
 |.inp _ _=>"in"
 |.mem _ _ _ _=>"memory"
 |.out _ _=>"out"
theorem w5(r:Row):∃xs,rD r=.tup (.str (q0 r)::xs):=by cases r<;>show⟨_,rfl⟩
theorem jW{α:Type}{t:D->Bool}{g:Row->Option α}{h:α->D}(H:∀r,(∃a,g r=Sb a/\t (rD r)=Se/\rD r=h a)\/(g r=Sd/\t (rD r)=Sf)):∀rs:List Row,(rs.map rD).filter t=(rs.filterMap g).map h
 |[]=>rfl
 |r::rs=>by
  rw[OI];rcases H r with⟨a,e,b,c⟩|⟨e,b⟩
  ·rw[Qp b,Q1 e,OI,jW H rs,c]
  ·rw[Qq (by rw[b];decide),Q2 e,jW H rs]
theorem NZ(c:cC 90 (.str a)=Se)(d:cC 90 (.str b)=Se):∃z,aq .Eq (.str a) (.str b)=Sb z:=⟨wu (.str a) (.str b),if_pos ⟨c,d⟩⟩
theorem zI(r:Row):cC 90 (.str (q0 r))=Se:=by
 cases r with
 |inp x w=>show(by nofun:cC 90 (.str "in")=Se)
 |mem x w b f=>show(by nofun:cC 90 (.str "memory")=Se)
 |out o f=>show(by nofun:cC 90 (.str "out")=Se)
section
variable {rs:List Row} {E:Str->Nat}
theorem lY(b:cC 90 (.str w)=Se)(hl:rs.length<1000):ψ0 [.lst (rs.map rD),.str w]=Sb (.fr k0,.lst ((rs.map rD).filter (tW w))):=by
 show Cy (by rw[On];lia) λd a=>?_;obtain⟨r,_,rfl⟩:=Oy.mp a;obtain⟨f,e⟩:=w5 r;obtain⟨z,c⟩:=NZ (zI r) b;show⟨_,f,e,?_⟩;rw[e];change _=Sb (aq .Eq (.str (q0 r)) (.str w)==Sb Se)
 rw[c];cases z<;>rfl
theorem vJ(hl:rs.length<1000):ψ0 [.lst (rs.map rD),.str "in"]=Sb (.fr k0,.lst ((rs.filterMap (GX E)).map DO)):=by
 rw[lY (by nofun) hl,jW];intro r
 cases r with
 |inp x w=>show .inl ⟨_,rfl,(by nofun:(aq .Eq (.str "in") (.str "in")==Sb Se)=Se),rfl⟩
 |mem x w b f=>show .inr ⟨rfl,(by nofun:(aq .Eq (.str "memory") (.str "in")==Sb Se)=Sf)⟩
 |out o f=>show .inr ⟨rfl,(by nofun:(aq .Eq (.str "out") (.str "in")==Sb Se)=Sf)⟩
theorem vK(hl:rs.length<1000):ψ0 [.lst (rs.map rD),.str "memory"]=Sb (.fr k0,.lst ((rs.filterMap (w4 E)).map gf)):=by
 rw[lY (by nofun) hl,jW];intro r
 cases r with
 |inp x w=>show .inr ⟨rfl,(by nofun:(aq .Eq (.str "in") (.str "memory")==Sb Se)=Sf)⟩
 |mem x w b f=>show .inl ⟨_,rfl,(by nofun:(aq .Eq (.str "memory") (.str "memory")==Sb Se)=Se),rfl⟩
 |out o f=>show .inr ⟨rfl,(by nofun:(aq .Eq (.str "out") (.str "memory")==Sb Se)=Sf)⟩
theorem CB(hl:rs.length<1000):ψ0 [.lst (rs.map rD),.str "out"]=Sb (.fr k0,.lst ((rs.filterMap CA).map λq=>qZ q.1 q.2)):=by
 rw[lY (by nofun) hl,jW];intro r
 cases r with
 |inp x w=>show .inr ⟨rfl,(by nofun:(aq .Eq (.str "in") (.str "out")==Sb Se)=Sf)⟩
 |mem x w b f=>show .inr ⟨rfl,(by nofun:(aq .Eq (.str "memory") (.str "out")==Sb Se)=Sf)⟩
 |out o f=>show .inl ⟨_,rfl,(by nofun:(aq .Eq (.str "out") (.str "out")==Sb Se)=Se),rfl⟩
theorem vL(hl:rs.length<1000):ψ0 [.lst (rs.map rD),.str "rooms"]=Sb (.fr k0,.lst []):=by
 rw[lY (by nofun) hl,jW (h:=iD)]
 ·rw[List.filterMap_eq_nil_iff.mpr λ_ _=>rfl];rfl
 intro r
 cases r with
 |inp x w=>show .inr ⟨rfl,(by nofun:(aq .Eq (.str "in") (.str "rooms")==Sb Se)=Sf)⟩
 |mem x w b f=>show .inr ⟨rfl,(by nofun:(aq .Eq (.str "memory") (.str "rooms")==Sb Se)=Sf)⟩
 |out o f=>show .inr ⟨rfl,(by nofun:(aq .Eq (.str "out") (.str "rooms")==Sb Se)=Sf)⟩
theorem oX(hl:rs.length<1000):ψ3 [.lst (rs.map rD)]=Sb (.fr k0,.lst ((rs.filterMap (w4 E)).map gf)):=by
 let g:∀r,∃z,aq .In (.str (q0 r)) (.tup [.str "memory",.str "rooms",.str "use"])=Sb z:=λr=>by
  cases r with
  |inp x w=>show⟨Sf,(by nofun:aq .In (.str "in") (.tup [.str "memory",.str "rooms",.str "use"])=Sb Sf)⟩
  |mem x w b f=>show⟨Se,(by nofun:aq .In (.str "memory") (.tup [.str "memory",.str "rooms",.str "use"])=Sb Se)⟩
  |out o f=>show⟨Sf,(by nofun:aq .In (.str "out") (.tup [.str "memory",.str "rooms",.str "use"])=Sb Sf)⟩
 rw[zE (t:=tS) (by rw[On];lia) λd a=>?_]
 ·rw[jW];intro r
  cases r with
  |inp x w=>show .inr ⟨rfl,(by nofun:(aq .In (.str "in") (.tup [.str "memory",.str "rooms",.str "use"])==Sb Se)=Sf)⟩
  |mem x w b f=>show .inl ⟨_,rfl,(by nofun:(aq .In (.str "memory") (.tup [.str "memory",.str "rooms",.str "use"])==Sb Se)=Se),rfl⟩
  |out o f=>show .inr ⟨rfl,(by nofun:(aq .In (.str "out") (.tup [.str "memory",.str "rooms",.str "use"])==Sb Se)=Sf)⟩
 ·obtain⟨r,_,rfl⟩:=Oy.mp a;obtain⟨h,e⟩:=w5 r;obtain⟨z,c⟩:=g r;show⟨_,h,e,?_⟩;rw[e];change _=Sb (aq .In (.str (q0 r)) (.tup [.str "memory",.str "rooms",.str "use"])==Sb Se)
  rw[c];cases z<;>rfl
theorem GY(hl:rs.length<1000):(rs.filterMap (GX E)).length<1000:=O1 (PQ _ _) hl
theorem hJ(hl:rs.length<1000):(rs.filterMap (w4 E)).length<1000:=O1 (PQ _ _) hl
theorem tP(hl:rs.length<1000):(rs.filterMap CA).length<1000:=O1 (PQ _ _) hl
theorem gg:∀rs:List Row,(rs.filterMap (GX E)).length+(rs.filterMap (w4 E)).length<=rs.length
 |[]=>Ox _
 |.inp _ _::rs=>by have:=gg rs;simp only[Pi,GX,w4,OM];lia
 |.mem _ _ _ _::rs=>by have:=gg rs;simp only[Pi,GX,w4,OM];lia
 |.out _ _::rs=>by have:=gg rs;simp only[Pi,GX,w4,OM];lia
theorem Ku:∀{l:List d9},J.fJ (l.map λp=>D.tup [iD p.2.2,iD p.2.1]) [] .fz=Se
 |[]=>rfl
 |p::l=>by
  change(Se&&J.fJ (l.map λp=>D.tup [iD p.2.2,iD p.2.1]) [] .fz)=Se;rw[Ku];rfl
theorem Kv:ll (.fr kS) (DG l)=Se:=by
 change(J.fJ (l.map λp=>D.tup [iD p.2.2,iD p.2.1]) [] .fz&&Se)=Se;rw[Ku];rfl
theorem DQ{f:Ro->Option Res}{ds:List D}(h:ds.length=m):tz f m k ds=g9 (f (lO k (ds.map Cb))):=if_pos h
theorem vM(h:Wp (aY Z N s pn Y) λr=>r=.nx Y'):aY Z N s pn Y=Sb (.nx Y'):=mh h
end
abbrev bL(l:List Bool):D:=.lst (l.map bD)
section
variable {Z:Nat->Option Fn} {Y:Ro} {a b:IE} {k k':Kd}
theorem GZ{α:Type}{l:List α}{f g:α->D}(b:cw Z it Y=Sb (bs,l.map f))(hl:l.length<=100000)(h:∀a∈l,Wp (dP tg (cD Z .non) (aa Z elt) (bi Y cap) (f a)) λo=>∃kd,o=Sb (kd,g a)/\bE r (kd,g a)=Se):aa Z (.comp r cap tg it .non elt) Y=Sb (.fr (.own [] r),.lst (l.map g)):=
 aE (e7 (wv b ⟨by simpa using hl,(vD h).mono λc e=>by rw[e]⟩))
theorem DR{xs:List D}(b:aa Z a Y=Sb (k,.lst xs))(h:jd k xs=Se):cw Z (.enm a) Y=Sb (mn k,xs.mapIdx λi d=>D.tup [.int i,d]):=by
 show mh (zm (wv b ?_));change Wp ((fj (Sb (k,.nd .lst xs))).map _) _;rw[show fj (Sb (k,.nd .lst xs))=Sb (mn k,xs) from if_pos h];show oE rfl
theorem q9{α β:Type}{f:α->D}{g:β->D}{l:List α}{a:List β}:oa (l.map f) (a.map g)=(l.zip a).map λp=>.tup [f p.1,g p.2]:=by
 unfold oa;rw[R6,List.zip,Q3]
theorem nr{i j:Int}(h:i.natAbs<lim/\j.natAbs<lim)(c:aa Z a Y=Sb (.sh,.int i))(d:aa Z b Y=Sb (.sh,.int j)):aa Z (.bin .Mult a b) Y=Sb (.sh,.int (i*j)):=aE (cj (wv c (wv d (Gu h rfl))))
theorem hUq{i j:Int}(h:0<j/\j.natAbs<lim)(c:aa Z a Y=Sb (.sh,.int i))(d:aa Z b Y=Sb (.sh,.int j)):aa Z (.bin .FloorDiv a b) Y=Sb (.sh,.int (i / j)):=aE (cj (wv c (wv d (Cg h rfl))))
theorem nw(a:aP Z es Y=Sb kds)(h:fx x kds=Sb r):aa Z (.blt x es) Y=Sb r:=aE (oF (wv a (wv h rfl)))
end
theorem oY{n w:Nat}(a:w<=64):Lf [iD n,iD w]=Sb (.fr k0,bL (cx n w)):=by
 unfold Lf;show c6 rfl ?_;unfold MG;show bP (x:=(.fr k0,.lst ((O9 w).map λi=>bD (n.testBit i)))) (Na rfl (by lia) λi hi=>zD rfl (wv ?_ ⟨.sh,rfl,rfl⟩)) rfl (bH rfl ?_)
 ·show(eN (by decide) (hUq ?_ rfl (jV (by decide) (by lia) rfl rfl)) rfl).trans ?_
  ·rw[OY];show⟨Int.natCast_pos.mpr (O4 i),lX (PN (by decide) (by lia))⟩
  ·change _=Sb (Kd.sh,iD (bn (n.testBit i)));rw[OY,Qz,lU];congr 3
 ·change(Kd.fr k0,D.lst ((O9 w).map λi=>bD (n.testBit i)))=_;congr 2;show Qu λi=>?_;rw[Op,Op];by_cases hi:i<w
  ·rw[Qc hi,bS n w i hi];rfl
  ·rw[O7 (by rw[P4];lia),O7 (by rw[aC];lia)];rfl
theorem lZ{α:Type}{f:α->Int}:∀{l:List α},toInts (l.map λa=>.int (f a))=Sb (l.map f)
 |[]=>rfl
 |a::l=>by
  change(toInts (l.map λa=>.int (f a))).map (f a::·)=_;rw[lZ];rfl
theorem vN:∀(l:List Bool) (k:Nat),((l.zipIdx k).map λp=>((bn p.1 <<< p.2:Nat):Int)).sum=((2^k*num l:Nat):Int)
 |[],k=>by simp[num]
 |b::l,k=>by
  rw[List.zipIdx_cons,OI,List.sum_cons,vN l (k+1),num,QZ,RM,Nat.mul_add,Nat.mul_comm (bn b),Nat.mul_assoc,PZ]
theorem ny{l:List Bool}(hl:l.length<=64):Kg [bL l]=Sb (.sh,iD (num l)):=by
 unfold Kg;show c6 rfl ?_;unfold MH;show bP (x:=(.sh,iD (num l))) (nw (e1 (GZ (l:=l.zipIdx) (f:=λp=>.tup [iD p.2,bD p.1]) (bs:=[]) ?_ (by rw[List.length_zipIdx];lia) λp b=>M9 rfl (wv (jV ?_ ?_ rfl rfl) ⟨.sh,rfl,rfl⟩))) ?_) rfl (bH rfl rfl)
 ·show(DR rfl rfl).trans ?_;rw[List.mapIdx_eq_zipIdx_map,List.zipIdx_map,OE];rfl
 ·cases p.1<;>decide
 ·have:=(List.mem_zipIdx b).2.1
  lia
 ·change(toInts (l.zipIdx.map λp=>.int ((bn p.1 <<< p.2:Nat):Int))).map (λa=>(Kd.sh,D.int a.sum))=_;rw[lZ];change Sb (Kd.sh,D.int (l.zipIdx.map λp=>((bn p.1 <<< p.2:Nat):Int)).sum)=_;rw[vN l 0];simp
theorem rc{es:List Ow}{ds:List D}{x:KD}(h:es.length<=ds.length/\bE r x=Se/\ds.length<100000):ju "append" es r ds [x]=Sb (.non,ds++[x.2]):=if_pos h
theorem i6{Z:GG}{Y:Ro}{i:Nat}{ds:List D}{x:KD}{Q:Kd×D×Ro->Prop}(h:Y[i]?=Sb (Sb ⟨Sf,k0,.lst ds⟩))(b:aa Z.fn e Y=Sb x)(a:bE .fz x=Se)(hl:ds.length<100000)(q:Q (.sh,.non,Y.set i (Sb ⟨Sf,k0,.lst (ds++[x.2])⟩))):Wp (aO Z (.mut "append" (.nm i) (.cons e .nil)) Y) Q:=by
 show⟨_,?_,q⟩;rw[iW,e1 b];change fW "append" i (fV Y[i]?) (Sb [x]) Y=_;rw[h]
 change(match ju "append" [] .fz ds [x],Y[i]? with|some (d',ds'),Sb (Sb ⟨Sf,k,_⟩)=>Sb (Kd.sh,d',Y.set i (Sb ⟨Sf,k,id (.lst ds')⟩))|_,_=>Sd)=_
 rw[show ju "append" [] .fz ds [x]=Sb (.non,ds++[x.2]) from rc ⟨OS _,a,hl⟩,h];rfl
theorem Kw(a b c:Bool):((bn a:Int)+bn b+bn c)%2=bn (decide ((bn a+bn b+bn c)%2=1))/\((bn a:Int)+bn b+bn c) / 2=bn (decide ((bn a+bn b+bn c) / 2=1)):=by cases a<;>cases b<;>cases c<;>decide
theorem nA{xs ys:List Bool}(hl:xs.length=ys.length)(h8:xs.length<=64):Lg [bL xs,bL ys,bD c]=Sb (.fr k0,bL (tK xs ys c)):=by
 unfold Lg;show c6 rfl ?_;unfold MJ;show aR rfl rfl (by decide) ?_;show cL ((nq rfl rfl rfl rfl).trans (by rw[q9];rfl)) (λi Y=>∃(f:List Bool) (g:Bool) (s4 s5:Option Sl),f.length<=i/\tK xs ys c=f++tK (xs.drop i) (ys.drop i) g/\Y=[fS (bL xs),fS (bL ys),fS (bD g),Sb ⟨Sf,k0,bL f⟩,s4,s5]) ⟨[],c,Sd,Sd,Ox _,rfl,rfl⟩ (λi d Y e k=>?_) λo k=>?_
 ·obtain⟨f,g,s4,s5,m,h,rfl⟩:=k;rw[Op] at e
  cases j:(xs.zip ys)[i]? with
  |none=>rw[j] at e;cases e
  |some p=>
  rw[j] at e;cases e;obtain⟨a,b⟩:=p;rw[List.getElem?_zip_eq_some] at j;obtain⟨l,n⟩:=j;let hi:=(OA.mp l).1;show⟨[(4,bD a),(5,bD b)],rfl,rfl,?_⟩;show eL (i6 (x:=(.sh,bD (decide ((bn a+bn b+bn g)%2=1)))) rfl ?_ rfl (by rw[On];lia) ?_)
  ·rw[eN (by decide) (cG (cG rfl rfl) rfl) rfl,(Kw a b g).1]
  ·change Wp (aY _ _ _ _ [fS (bL xs),fS (bL ys),fS (bD g),Sb ⟨Sf,k0,.lst (f.map bD++[bD (decide ((bn a+bn b+bn g)%2=1))])⟩,fS (bD a),fS (bD b)]) _;show aR (x:=(.sh,bD (decide ((bn a+bn b+bn g) / 2=1)))) ?_ rfl (by decide) (aQ ⟨_,.inl rfl,f++[decide ((bn a+bn b+bn g)%2=1)],decide ((bn a+bn b+bn g) / 2=1),fS (bD a),fS (bD b),by rw[OF];show Rs m 1,?_,?_⟩)
   ·rw[hUq ⟨by decide,by decide⟩ (cG (cG rfl rfl) rfl) rfl,(Kw a b g).2]
   ·rw[h,O2 hi,O2 (show i<ys.length by lia),tK,(OA.mp l).2,(OA.mp n).2,P2];rfl
   ·simp only[bL,Oz];rfl
 ·obtain⟨f,g,s4,s5,m,h,rfl⟩:=k;rw[On,QD,<- hl,RK,P8,hl,P8] at h;rw[show tK [] [] g=[] from rfl,OZ] at h;rw[h];show cu (dW rfl ⟨rfl,bH rfl rfl⟩)
theorem G0{xs ys:List Bool}{g:Bool->Bool->Bool}:.lst ((xs.zip ys).map λp=>bD (g p.1 p.2))=bL (O6 g xs ys):=by
 unfold bL;rw[List.zip,Q3,Q3]
section
variable {Z:Nat->Option Fn} {Y:Ro}
theorem tQ{xs ys:List Bool}{g:Bool->Bool->Bool}(c:aa Z a Y=Sb (.sh,bL xs))(d:aa Z b Y=Sb (.sh,bL ys))(hl:xs.length<=64)(hn:∀x y,bA [(1,bD x),(2,bD y)] (bi Y cap)=Se)(h:∀x y,aa Z elt (setAll [(1,bD x),(2,bD y)] (bi Y cap))=Sb (.sh,bD (g x y))):aa Z (.comp .fz cap (.tp [.nm 1,.nm 2]) (.zp a b) .non elt) Y=Sb (.fr k0,bL (O6 g xs ys)):=by
 rw[<- G0];show GZ (bs:=[]) ?_ (by rw[QD];lia) λp e=>M9 (hn _ _) (wv (h _ _) ⟨.sh,rfl,rfl⟩);show(nq c d rfl rfl).trans (by rw[q9];rfl)
theorem zJ{xs:List Bool}(f:aa Z a Y=Sb (k,bL xs))(c:jd k (xs.map bD)=Se)(hl:xs.length<=64)(d:cap=[Sd,Sd]):aa Z (.comp .fz cap (.nm 1) (.e a) .non (.bin .Sub (nL 1) (.var 1))) Y=Sb (.fr k0,bL (xs.map not)):=by
 subst d
 have:=GZ (g:=λb=>bD (!b)) (r:=.fz) (cap:=[Sd,Sd]) (elt:=.bin .Sub (nL 1) (.var 1)) (bW f c) (by lia) λb h=>zD rfl (wv (bZ rfl rfl) ⟨.sh,by cases b<;>rfl,rfl⟩)
 rw[this];simp only[bL,OE];rfl
end
theorem DS:∀x y:List Bool,PyData.eqvAll (mU (x.map bD)) (mU (y.map bD))=decide (x=y)
 |[],[]=>by simp[mU,PyData.eqvAll]
 |[],_::_=>by simp[mU,PyData.eqvAll]
 |_::_,[]=>by simp[mU,PyData.eqvAll]
 |a::x,b::y=>by
  have:=DS x y;simp only[OI,mU,PyData.eqvAll,this,py,PyData.eqv]
  cases a<;>cases b<;>simp[bn]
theorem Kx(x y:List Bool):wu (bL x) (bL y)=decide (x=y):=by
 unfold wu;simp only[bL,py,PyData.eqv];show DS x y
theorem DT(n:Nat)(x:List Bool):cC (n+1) (bL x)=Se:=by
 simp only[bL,cC,Oo,decide_eq_true_eq];show⟨by lia,kB λd a=>?_⟩;obtain⟨b,_,rfl⟩:=Oy.mp a;rfl
theorem tR(x:List Bool):toInts (x.map bD)=Sb (iL x):=lZ
theorem DU{x:List Bool}(hl:x.length<=64)(b:aa Z a Y=Sb (k,bL x)):aa Z (.lrev a) Y=Sb (.fr k0,bL x.reverse):=by
 rw[yu,b]
 change(match toInts (x.map bD) with|some ks=>if ks.length<=100000 then Sb (Kd.fr bJ,D.lst (ks.reverse.map D.int)) else Sd|none=>Sd)=_
 rw[tR]
 change(if(iL x).length<=100000 then Sb (Kd.fr bJ,D.lst ((iL x).reverse.map D.int)) else Sd)=_
 rw[if_pos (by unfold iL;rw[On];lia)];unfold iL;simp only[bL,<- R1,OE];rfl
theorem Nc(x y:List Bool):aq .Lt (bL x) (bL y)=Sb (G.o8 (iL x) (iL y)):=by
 change(match toInts (x.map bD) with|some xs=>(match toInts (y.map bD) with|some ys=>Sb (G.o8 xs ys)|none=>Sd)|none=>Sd)=_
 rw[tR,tR]
theorem tU(b:Bool):fx "int" [(Kd.sh,.bl b)]=Sb (.sh,bD b):=by cases b<;>rfl
theorem zK{b:Bool}(h:aa Z a Y=Sb (.sh,.bl b)):aa Z (.lst (.own [] .fz) (.cons (.blt "int" (.cons a .nil)) .nil)) Y=Sb (.fr k0,bL [b]):=by
 rw[kj,e1 (nw (e1 h) (tU b))];rfl
def Og(o:Cp)(x y:List Bool):List Bool:=match o with
 |.and=>O6 and x y
 |.or=>O6 or x y
 |.xor=>O6 xor x y
 |.plus=>tK x y Sf
 |.minus=>tK x (y.map not) Se
section
variable {x y:List Bool} (hl:x.length=y.length) (h8:x.length<=64)
include hl h8
theorem G3(o:Cp):AA [.str (DF o),bL x,bL y]=Sb (.fr k0,bL (Og o x y)):=by
 unfold AA;show c6 rfl ?_;unfold Ka
 cases o with
 |and=>
  show bR (x:=(.fr k0,bL (O6 and x y))) cy ?_ rfl (bH rfl rfl)
  show tQ rfl rfl h8 (λ_ _=>rfl) λa b=>(nr ⟨lX (by cases a<;>decide),lX (by cases b<;>decide)⟩ rfl rfl).trans (by cases a<;>cases b<;>rfl)
 |or=>
  show ab cy ?_;show bR (x:=(.fr k0,bL (O6 or x y))) cy ?_ rfl (bH rfl rfl)
  show tQ rfl rfl h8 (λ_ _=>rfl) λa b=>nw (e2 rfl rfl) (by cases a<;>cases b<;>rfl)
 |xor=>
  show ab cy ?_;show ab cy ?_;show bR (x:=(.fr k0,bL (O6 xor x y))) cy ?_ rfl (bH rfl rfl)
  show tQ rfl rfl h8 (λ_ _=>rfl) λa b=>nw (e1 (gW (GO rfl rfl))) (by cases a<;>cases b<;>rfl)
 |plus=>
  show ab cy ?_;show ab cy ?_;show ab cy ?_;show bR (x:=(.fr k0,bL (tK x y Sf))) cy ?_ rfl (bH rfl rfl);show bM (ds:=[bL x,bL y,bD Sf]) rfl (e3 rfl rfl rfl) rfl rfl (nA hl h8) rfl
 |minus=>
  show ab cy ?_;show ab cy ?_;show ab cy ?_;show ab cy ?_;show bR (x:=(.fr k0,bL (tK x (y.map not) Se))) cy ?_ rfl (bH rfl rfl);show bM (ds:=[bL x,bL (y.map not),bD Se]) rfl (e3 rfl (zJ rfl rfl (by lia) rfl) rfl) rfl rfl (nA (by rw[On];show hl) h8) rfl
theorem G4(s:Bool):AA [.str (if s then "less" else "same"),bL x,bL y]=Sb (.fr k0,bL [if s then G.o8 (iL x.reverse) (iL y.reverse) else decide (x=y)]):=by
 unfold AA;show c6 rfl ?_;unfold Ka
 let a:((["and","or","xor","plus","minus"]:List Str).all (j6 (if s then "less" else "same")))=Se:=by cases s<;>nofun
 simp only[Pm,RO,Oo] at a;obtain⟨q1,c,b,e,f,_⟩:=a;show ab (gU rfl rfl (bN q1)) ?_;show ab (gU rfl rfl (bN c)) ?_;show ab (gU rfl rfl (bN b)) ?_;show ab (gU rfl rfl (bN e)) ?_;show ab (gU rfl rfl (bN f)) ?_
 cases s with
 |false=>
  show bR (x:=(.fr k0,bL [decide (x=y)])) cy ?_ rfl (bH rfl rfl);show zK (gW (gU (d:=bL x) (d':=bL y) rfl rfl ((if_pos ⟨DT _ _,DT _ _⟩).trans (by rw[Kx]))))
 |true=>
  show ab cy ?_;show bR (x:=(.fr k0,bL [G.o8 (iL x.reverse) (iL y.reverse)])) cy ?_ rfl (bH rfl rfl);show zK (gW (fH (DU h8 rfl) (DU (by lia) rfl) (Nc _ _)))
end
theorem G5{x y:List Bool}(h8:x.length<=64)(a:y.length<=64):AA [.str "join",bL x,bL y]=Sb (.fr k0,bL (x++y)):=by
 unfold AA;show c6 rfl ?_;unfold Ka;show ab cy ?_;show ab cy ?_;show ab cy ?_;show ab cy ?_;show ab cy ?_;show ab cy ?_;show ab cy ?_;show bP (x:=(.fr k0,bL (x++y))) ?_ rfl (bH rfl rfl);show(vG ⟨rfl,rfl,by rw[On,On];lia⟩ rfl rfl).trans ?_;simp only[bL,Oz]
abbrev wr(n:Nat):Fn:=recI Z_22 23 1000 2 4 zu n
example:M4=wr 40:=rfl
def Rb(l:List Bool)(x:KD):Prop:=(x.1=.sh\/x.1=.fr k0)/\x.2=bL l
def nW(w:Str):Bool:=aq .In (.str w) (.tup [.str "name",.str "of",.str "at"])==Sb Sf
theorem Ky(h:nW w=Se):aq .In (.str w) (.tup [.str "name",.str "of",.str "at"])=Sb Sf:=by simpa[nW] using h
theorem oZ{n:Nat}(h1:nW w=Se)(h2:j6 w "number" = Se)(f:Wp (wr n [a,kn]) (Rb l))(h:∀k,k=.fz\/k=k0->Wp (aY (Z_22.addI 23 (wr n)) 1000 (dr zu 4) [] [fS (.tup (.str w::a::xs)),fS kn,fS (.str w),Sb ⟨Sf,k,bL l⟩]) λr=>Wp (g9 (Sb r)) R):Wp (wr (n+1) [.tup (.str w::a::xs),kn]) R:=by
 show zt rfl ?_;unfold zu at h⊢;show aR (cv 0) rfl (by decide) ?_;show ab (gU rfl rfl (Ky h1)) ?_;show ab (gU rfl rfl (bN h2)) ?_;obtain⟨⟨b,d⟩,e,hk,c⟩:=f;cases(show d=_ from c)
 let g:bv b=Sf:=by rcases hk with hk|hk<;>(cases(show b=_ from hk);rfl)
 show aR (bM rfl (e2 (cv 1) rfl) rfl rfl e g) ?_ (by decide) ?_
 ·rcases hk with hk|hk<;>(cases(show b=_ from hk);rfl)
 ·rcases hk with hk|hk<;>cases(show b=_ from hk)
  ·show h .fz (.inl rfl)
  ·show h k0 (.inr rfl)
theorem G6{Z:Nat->Option Fn}{s0 s1 s2:Option Sl}{k:Ow}{l:List Bool}(hk:k=.fz\/k=k0):∃k',aa Z (.var 3) [s0,s1,s2,Sb ⟨Sf,k,bL l⟩]=Sb (k',bL l)/\jd k' (l.map bD)=Se/\o9 k' 0=.sh:=by
 rcases hk with rfl|rfl
 ·show⟨.sh,rfl,rfl,rfl⟩
 ·show⟨.bo 3 k0,rfl,rfl,rfl⟩
theorem tV{n:Nat}(h1:nW w=Se)(h2:j6 w "number" = Se)(p:j6 w "not" = Se)(u:j6 w "cut" = Se)(y:j6 w "if" = Se)(s:Wp (wr n [a,kn]) (Rb l))(t:Wp (wr n [b,kn]) (Rb l'))(h:AA [.str w,bL l,bL l']=Sb (.fr k0,bL res)):Wp (wr (n+1) [.tup (.str w::a::b::xs),kn]) (Rb res):=by
 show oZ h1 h2 s λk hk=>?_;unfold zu;show ab (gU rfl rfl (bN p)) ?_;show ab (gU rfl rfl (bN u)) ?_;show ab (gU rfl rfl (bN y)) ?_;obtain⟨⟨i,d⟩,e,g,q⟩:=t;cases(show d=_ from q)
 let m:bv i=Sf:=by rcases g with hk|hk<;>(cases(show i=_ from hk);rfl)
 let j:i7 i (bL l')=Se:=by rcases g with hk|hk<;>(cases(show i=_ from hk);rfl)
 show cu (zr rfl (au (aN (wv rfl ⟨rfl,aL ?_⟩))))
 let f:∀(k1:Kd) (c:Ro),i7 k1 (bL l)=Se->c[0]?=Sb (fS (.tup (.str w::a::b::xs)))->c[1]?=Sb (fS kn)->Wp (aP (Z_22.addI 23 (wr n)).fn (.cons (.fn 23 (.cons (.ix (.var 0) (nL 2)) (.cons (.var 1) .nil))) .nil) c) λz=>Wp (uB AA ((Kd.sh,D.str w)::(k1,bL l)::z)) λr=>bv (c9 r.1 r.2)=Sf/\Wp (g9 (Sb (.rt (c9 r.1 r.2) r.2 c))) (Rb res):=λk1 c o A h1=>by
  let v:aa (Z_22.addI 23 (wr n)).fn (.var 0) c=Sb (.sh,.tup (.str w::a::b::xs)):=aE (jz A rfl);let x:aa (Z_22.addI 23 (wr n)).fn (.var 1) c=Sb (.sh,kn):=aE (jz h1 rfl);show wv (e1 (bM rfl (e2 (dE v rfl (.inr rfl) rfl rfl) x) rfl rfl e m)) ?_;show qN ⟨_,h,rfl,.inl ?_,rfl,gR rfl ⟨.inr rfl,rfl⟩⟩;change(Se&&(i7 k1 (bL l)&&(i7 i (bL l')&&Se)))=Se;rw[o,j];rfl
 rcases hk with rfl|rfl
 ·show⟨_,rfl,f .sh _ rfl rfl rfl⟩
 ·show⟨_,rfl,f (.fr k0) _ rfl rfl rfl⟩
def Kn(L E:Str->Nat)(kn:D)(x:Str):Prop:=∃q ds j,kn=.nd (.dic 1 q) ds/\aH q (.inr [.inl (.inr "name"),.inl (.inr x)])=Sb j/\ds[j]?=Sb (bL (cx (E x) (L x)))
section
variable {L E:Str->Nat} {kn:D} {n:Nat}
theorem CC(h:Kn L E kn x):Wp (wr (n+1) [dY (.name x),kn]) (Rb (cx (E x) (L x))):=by
 obtain⟨c,d,j,rfl,b,a⟩:=h;show zt rfl ?_;unfold zu;show aR (cv 0) rfl (by decide) ?_;show bR (x:=(.sh,bL (cx (E x) (L x)))) (cy) ?_ rfl (gR rfl ⟨.inl rfl,rfl⟩);show i5 (k:=.sh) rfl rfl rfl rfl b a
theorem G7{w v:Nat}(a:w<=64):Wp (wr (n+1) [dY (.num w v),kn]) (Rb (cx v w)):=by
 show zt rfl ?_;unfold zu;show aR (cv 0) rfl (by decide) ?_;show ab (cy) ?_;show bR (x:=(.fr k0,bL (cx v w))) (cy) ?_ rfl (gR rfl ⟨.inr rfl,rfl⟩);show bM rfl (e2 (cv 2) (cv 1)) rfl rfl (oY a) rfl
end
theorem Kz{l:List Bool}{lo w:Nat}(h:lo+w<=l.length):jh (l.map bD) (Sb (lo:Int)) (Sb ((lo:Int)+w))=((l.drop lo).take w).map bD:=by
 unfold jh;rw[<- PZ,HT.gm,HT.gm,On,Qe h,Qe (show lo<=l.length by lia),Qr,Rz,RB]
theorem fv{L E:Str->Nat}{kn:D}(g:∀x,E x<2^L x):∀(f:Fo) (n:Nat),Wf L f->Al (Pc L (Kn L E kn)) f->dep f<n->Wp (wr n [dY f,kn]) (Rb (c5 L E f))
 |f,0,_,_,h=>absurd h (Qf _)
 |.name x,n+1,_,hp,_=>CC (hp.2 x rfl)
 |.num w v,n+1,_,hp,_=>G7 (OW hp.1 (by decide))
 |.not a,n+1,hw,⟨hp,ha⟩,hd=>by
  let i:=fv g a n hw ha (by simp only[dep] at hd;lia);let hl:(c5 L E a).length<=64:=by rw[(aK L E g a hw).1,aC];have:=ha.at.1;lia
  show oZ (by nofun) (by nofun) i λk hk=>?_;obtain⟨F,e1,e2,_⟩:=G6 hk;unfold zu;show bR (cy) (zJ e1 e2 hl rfl) rfl (gR rfl ⟨.inr rfl,rfl⟩)
 |.cut a lo w,n+1,⟨hw,hc⟩,⟨hp,ha⟩,hd=>by
  let i:=fv g a n hw ha (by simp only[dep] at hd;lia);let hl:(c5 L E a).length=wid L a:=by rw[(aK L E g a hw).1,aC]
  show oZ (by nofun) (by nofun) i λk hk=>?_;obtain⟨F,e1,e2,_⟩:=G6 hk;unfold zu;show ab (cy) ?_;show bR (x:=(.fr k0,bL (((c5 L E a).drop lo).take w))) (cy) ?_ rfl (gR rfl ⟨.inr rfl,rfl⟩);show aE (nj (wv e1 (hG (wv (cv 2) ⟨_,rfl,hG (wv (cG (cv 2) (cv 3)) ⟨_,rfl,?_⟩)⟩))));show⟨_,if_pos e2,?_⟩;rw[Kz (by rw[hl];show hc)]
 |.ite c a b,n+1,⟨hc,ha,hb,h1,hw⟩,⟨hp,pc,pa,pb⟩,hd=>by
  simp only[dep] at hd;let i:=fv g c n hc pc (by lia);let q:=fv g a n ha pa (by lia);let r:=fv g b n hb pb (by lia);let hl:(c5 L E c).length=1:=by rw[(aK L E g c hc).1,aC,h1]
  obtain⟨t,C⟩:∃t,c5 L E c=[t]:=List.length_eq_one_iff.mp hl;show oZ (by nofun) (by nofun) i λk hk=>?_;rw[C];obtain⟨F,e1,H,B⟩:=G6 (l:=[t]) hk;unfold zu;show ab (cy) ?_;show ab (cy) ?_;let z:=dE (b:=.lit (.int 0)) e1 rfl (.inl rfl) rfl rfl;rw[B] at z
  let K:aa (Z_22.addI 23 (wr n)).fn (.ix (.var 0) (.bin .Sub (nL 3) (.ix (.var 3) (nL 0)))) [fS (dY (.ite c a b)),fS kn,fS (.str "if"),Sb ⟨Sf,k,bL [t]⟩]=Sb (.sh,if t then dY a else dY b):=by
   cases t with
   |true=>show dE (k:=.sh) rfl (bZ rfl z) (.inr rfl) rfl rfl
   |false=>show dE (k:=.sh) rfl (bZ rfl z) (.inr rfl) rfl rfl
  let I:Wp (wr n [if t then dY a else dY b,kn]) (Rb (c5 L E (.ite c a b))):=by
   simp only[c5,C]
   cases t with
   |true=>show q
   |false=>show r
  obtain⟨⟨y,d⟩,e,m,A⟩:=I;cases(show d=_ from A)
  let p:bv y=Sf:=by rcases m with hk|hk<;>(cases(show y=_ from hk);rfl)
  let u:c9 y (bL (c5 L E (.ite c a b)))=y:=by rcases m with hk|hk<;>(cases(show y=_ from hk);rfl)
  show bR (cy) (bM rfl (e2 K rfl) rfl rfl e p) (by rw[u];show p) ?_;rw[u];show gR p ⟨m,rfl⟩
 |.join a b,n+1,⟨ha,hb⟩,⟨hp,pa,pb⟩,hd=>by
  simp only[dep] at hd;let q:=fv g a n ha pa (by lia);let r:=fv g b n hb pb (by lia);let hl:(c5 L E a).length<=64:=by rw[(aK L E g a ha).1,aC];have:=pa.at.1;lia
  let j:(c5 L E b).length<=64:=by rw[(aK L E g b hb).1,aC];have:=pb.at.1;lia
  show tV (by nofun) (by nofun) (by nofun) (by nofun) (by nofun) q r (G5 hl j)
 |.cmp s a b,n+1,⟨ha,hb,hw⟩,⟨hp,pa,pb⟩,hd=>by
  simp only[dep] at hd;let q:=fv g a n ha pa (by lia);let r:=fv g b n hb pb (by lia);let hl:(c5 L E a).length<=64:=by rw[(aK L E g a ha).1,aC];have:=pa.at.1;lia
  let j:(c5 L E a).length=(c5 L E b).length:=by rw[(aK L E g b hb).1,(aK L E g a ha).1,aC,aC];show hw
  show tV (by cases s<;>nofun) (by cases s<;>nofun) (by cases s<;>nofun) (by cases s<;>nofun) (by cases s<;>nofun) q r (G4 j hl s)
 |.two o a b,n+1,⟨ha,hb,hw⟩,⟨hp,pa,pb⟩,hd=>by
  simp only[dep] at hd;let q:=fv g a n ha pa (by lia);let r:=fv g b n hb pb (by lia);let hl:(c5 L E a).length<=64:=by rw[(aK L E g a ha).1,aC];have:=pa.at.1;lia
  let j:(c5 L E a).length=(c5 L E b).length:=by rw[(aK L E g b hb).1,(aK L E g a ha).1,aC,aC];show hw
  have:=tV (xs:=[]) (by cases o<;>nofun) (by cases o<;>nofun) (by cases o<;>nofun) (by cases o<;>nofun) (by cases o<;>nofun) q r (G3 j hl o)
  cases o<;>show this
abbrev sm(n:Nat):Fn:=recI Z_29 30 1000 2 2 HU n
example:NV=sm 10:=rfl
theorem zM:Lm [iD v]=Sb (.sh,.bl Se):=by
 unfold Lm;show c6 rfl ?_;unfold MP;show bP (x:=(.sh,.bl Se)) ?_ rfl (bH rfl rfl);show qX (x:=Se) (DJ rfl rfl) λ_=>vH (Km (DJ (x:=Sf) rfl rfl) rfl)
theorem G8{n v:Nat}:sm (n+1) [iD v,iD v]=Sb (.sh,.bl Se):=by
 change ci (Z_29.addI 30 (sm n)) 1000 2 2 HU [iD v,iD v]=_;show c6 rfl ?_;unfold HU;show ab (no rfl rfl) ?_;show bP (x:=(.sh,.bl Se)) ?_ rfl (bH rfl rfl);show qX (x:=Se) (bM rfl (e1 rfl) rfl rfl zM rfl) λ_=>vH ?_;rw[gW (lW rfl rfl),decide_eq_true rfl]
theorem rf{f:Ro->Option (Bool×Ro)}{e:Ro->Option Res}{Q:Res->Prop}(I:Nat->Ro->Prop)(d:∀m Y,I m Y->Wp (f (clrN fg Y)) λp=>(p.1=Sf->Q (.nx p.2))/\(p.1=Se->Wp (e p.2) λr=>∃Y' a,r=.nx Y'/\a<m/\I a Y')):∀n m Y,m<n->I m Y->Wp (j5 fg f e n Y) Q
 |0,m,Y,h,_=>absurd h (Qf _)
 |n+1,m,Y,h,hI=>by
  obtain⟨⟨b,i⟩,e1,q1,j⟩:=d m Y hI
  cases b with
  |false=>show⟨.nx i,by unfold j5;rw[e1],q1 rfl⟩
  |true=>
   obtain⟨r,e2,Y',a,rfl,hm,c⟩:=j rfl;obtain⟨x,e3,g⟩:=rf I d n a Y' (by lia) c;show⟨x,?_,g⟩;unfold j5;rw[e1];dsimp only at e2⊢;rw[e2];show e3
theorem Nd{Z:GG}{N:Nat}{pn:List Nat}{Y:Ro}{Q:Res->Prop}{rest:bC}{fg:List Nat}{t:MT}{b:bC}(I:Nat->Ro->Prop){a:Nat}(hm:a<N)(h:I a Y)
  (hs:∀m Y,I m Y->Wp (d5 Z t (clrN fg Y)) λp=>(p.1=Sf->Wp (aY Z N rest pn p.2) Q)/\(p.1=Se->Wp (aY Z N b pn p.2) λr=>∃c f,r=.nx c/\f<m/\I f c)):Wp (aY Z N (.cons (.wh fg t b) rest) pn Y) Q:=by
 obtain⟨r,e,q⟩:=rf (Q:=Kt Z N rest pn Q) I (λm Y g=>(hs m Y g).mono λp d=>⟨d.1,d.2⟩) N a Y hm h;show fc ⟨r,by rw[Gj];show e,q⟩
noncomputable def potK:List DK:=[.inl (.inr "digits"),.inl (.inr "cells"),.inl (.inr "number"),.inl (.inr "seed"),.inl (.inr "room"),.inl (.inr "rows")]
theorem CD:potK.Nodup:=by nofun
abbrev aS(ds:List D):Option Sl:=Sb ⟨Sf,k0,.nd (.dic 0 potK) ds⟩
abbrev CF(o:Bool)(q:List Int)(n s r w:Int):List D:=[.bl o,.lst (q.map .int),.int n,.int s,.int r,.int w]
def At(k:Str)(j:Nat):Prop:=aH potK (.inl (.inr k))=Sb j/\j<6
theorem DV:At "digits" 0:=⟨by nofun,by decide⟩
theorem vO:At "cells" 1:=⟨by nofun,by decide⟩
theorem nB:At "number" 2:=⟨by nofun,by decide⟩
theorem vP:At "seed" 3:=⟨by nofun,by decide⟩
theorem vQ:At "room" 4:=⟨by nofun,by decide⟩
theorem zN:At "rows" 5:=⟨by nofun,by decide⟩
theorem c7{j:Nat}{ds:List D}(h:At k j)(hd:ds[j]?=Sb d):aa Z (.ix (.var 0) (.lit (.str k))) (aS ds::Y)=Sb (.sh,d):=
 i5 (k:=.bo 0 k0) rfl rfl rfl rfl h.1 hd
theorem nC{Z:GG}{N:Nat}{pn:List Nat}{Q:Res->Prop}{rest:bC}{Y:Ro}{k:Str}{j:Nat}{ds:List D}{e:IE}{x:KD}(h:At k j)(b:aa Z.fn e (aS ds::Y)=Sb x)(a:i7 (c9 x.1 x.2) x.2=Se)(hl:ds.length=6)(w:Wp (aY Z N rest pn (aS (ds.set j x.2)::Y)) Q):Wp (aY Z N (.cons (.put (.nm 0) (.lit (.str k)) (.p e)) rest) pn (aS ds::Y)) Q:=by
 show jS (aN (wv b (qS rfl (a9 (f7 rfl rfl rfl (f8 (r:=(.dic 0 potK,ds.set j x.2)) ?_ w))))))
 change(if jg 0 (.inl (.inr k))=Se/\ds.length<100000 then(match aH potK (.inl (.inr k)) with
   |some j=>if bE (([]:List Ow).getD j .fz) (c9 x.1 x.2,x.2)=Se/\potK.Nodup/\j<ds.length then Sb (Hd.dic 0 potK,ds.set j x.2) else Sd
   |none=>if([]:List Ow).length<=ds.length/\bE .fz (c9 x.1 x.2,x.2)=Se then Sb (Hd.dic 0 (potK++[.inl (.inr k)]),ds++[x.2]) else Sd) else Sd)=_
 rw[if_pos ⟨rfl,by lia⟩,h.1];show if_pos ⟨a,CD,by rw[hl];show h.2⟩
def Pt(w:Int)(ds:List D):Prop:=∃o q n s r,ds=CF o q n s r w/\q.length<=63/\0<=n/\n<10^60/\0<=s/\s<2147483647
theorem nD{i:Int}(a:-2^64<i)(h1:i<2^64):i.natAbs<lim:=Ov (show i.natAbs<2^64 by lia) (by nofun)
theorem w6{m:Nat}(hm:0<m)(j:m<2^64){w:Int}{ds:List D}(h:Pt w ds){Q:Kd×D×List (Option iQ)->Prop}(q:∀r c,r<m->Pt w c->Q (.sh,iD r,[Sb (k0,.nd (.dic 0 potK) c),Sd])):Wp (aY Z_12 1000 (dr J8 1) [0] [aS ds,fS (iD m),Sd,Sd]) λr=>Wp (gQ 2 [0] (Sb r)) Q:=by
 obtain⟨o,l,n,s,r,rfl,p,b,f,g,k⟩:=h;let a:(0:Int)<m:=by lia
 unfold J8;show ff (qW (Kl (c7 DV rfl) rfl) λ_=>jU (wY (c7 nB rfl) rfl)) (λ_=>?_) λ_=>eM ?_
 ·show aR (eN a (c7 nB rfl) rfl) rfl (by decide) ?_;show nC nB (hUq ⟨a,lX j⟩ (c7 nB rfl) rfl) rfl rfl ?_;show bP rfl rfl (fq (f6 rfl ?_));let e:n%m=((n%m).toNat:Int):=(RG (Qi _ (Int.ne_of_gt a))).symm;let i:=Qm n a;rw[e];show q (n%m).toNat _ (by lia) ⟨o,l,n / m,s,r,rfl,p,Int.ediv_nonneg b (by lia),Int.lt_of_le_of_lt (Int.ediv_le_self _ b) f,g,k⟩
 ·show nC vP (eN (by decide) (cG (nr ⟨nD (by lia) (by lia),by nofun⟩ (c7 vP rfl) rfl) rfl) rfl) rfl rfl ?_;generalize y:(s*48271+1009)%2147483647=t;let d:0<=t/\t<2147483647:=by lia
  show aR (eN (by decide) (nr ⟨nD (by lia) (by lia),nD (by lia) (by lia)⟩ (cG (eN (by decide) (c7 vP rfl) rfl) rfl) (cG (hUq ⟨by decide,by nofun⟩ (c7 vP rfl) rfl) rfl)) rfl) rfl (by decide) ?_;generalize u:(t%65521+17)*(t / 31+7)%2147483587=v;let x:0<=v:=by rw[<- u];show Qi _ (by decide)
  show bP (eN a (hUq ⟨by decide,by nofun⟩ rfl rfl) rfl) rfl (f6 rfl ?_);let e:v / 11%m=((v / 11%m).toNat:Int):=(RG (Qi _ (Int.ne_of_gt a))).symm;let i:=Qm (v / 11) a;change Q (.sh,.int (v / 11%m),_);rw[e];show q (v / 11%m).toNat _ (by lia) ⟨o,l,n,t,r,rfl,p,b,f,d.1,d.2⟩
theorem vR{m:Nat}(hm:0<m)(l:m<2^64){w:Int}{ds:List D}(h:Pt w ds){Q:Kd×D×List (Option iQ)->Prop}(q:∀r i,r<m->Pt w i->Q (.sh,iD r,[Sb (k0,.nd (.dic 0 potK) i),Sd])):Wp (Ci [(k0,.nd (.dic 0 potK) ds),(.fz,iD m)]) Q:=by
 obtain⟨o,a,n,s,r,rfl,g,d,f,j,p⟩:=h;unfold Ci;show qR rfl ?_;let b:=λds h=>w6 hm l (ds:=ds) h q;unfold J8 at b⊢;show Nd (λk Y=>∃a n,a.length=k/\k<=63/\0<=n/\n<10^60/\Y=[aS (CF o a n s r w),fS (iD m),Sd,Sd]) (O1 g (by decide)) ⟨a,n,rfl,g,d,f,rfl⟩ λk Y t=>?_;obtain⟨a,n,rfl,g,d,f,rfl⟩:=t;show nk (wv (qW (Kl (c7 DV rfl) rfl) λ_=>qW (lW (c7 nB rfl) rfl) λ_=>jU (wY (jT (c7 vO rfl) (congrArg Sb (On _))) rfl)) ⟨λ_=>b _ ⟨o,a,n,s,r,rfl,g,d,f,j,p⟩,λe=>?_⟩);simp only[Oo,decide_eq_true_eq] at e;obtain⟨_,_,u⟩:=e
 cases a with
 |nil=>simp at u
 |cons c a=>
  show nC nB (eN (by decide) (dE (c7 vO rfl) rfl (.inl rfl) rfl rfl) rfl) rfl rfl ?_;show nC vO (x:=(.fr k0,.lst (a.map .int))) ?_ rfl rfl (aQ ⟨_,a.length,rfl,by rw[OM];lia,a,c%10^60,rfl,by rw[OM] at g;lia,Qi _ (by decide),Qm _ (by decide),rfl⟩);show aE (nj (wv (c7 vO rfl) (hG (a9 ⟨1,rfl,oG ⟨(.fr bJ,.lst (jh ((c::a).map .int) (Sb 1) Sd)),rfl,?_⟩⟩))));unfold jh;rw[show(Sb (1:Int))=Sb ((1:Nat):Int) from rfl,HT.gm,HT.pG,On,OM,Qe (by lia),OI,List.drop_succ_cons,List.drop_zero,Nat.add_sub_cancel,P0 (by rw[On];show Ox _)]
section
variable {Z:GG} {Y:Ro} {i:Nat} {ds:List D} {m c:Nat} {w:Int} {a e:IE} {Q:Kd×D×Ro->Prop}
theorem j7(l:Z.fm 13=Sb Ci)(f:Y[i]?=Sb (aS ds))(g:Pt w ds)(hm:0<m)(c:m<2^64)(h:aa Z.fn e Y=Sb (.sh,iD m))(q:∀r a,r<m->Pt w a->Q (.sh,iD r,Y.set i (aS a))):Wp (aO Z (.io 13 (.ref i (.val (.p e) .nil))) Y) Q:=by
 show fZ l (de f (br (aN (wv h ⟨rfl,dc ⟨by simp[cg],[(k0,.nd (.dic 0 potK) ds),(.fz,iD m)],?_,vR hm c g λr a j b=>⟨rfl,rfl,q r a j b⟩⟩⟩))))
 change(match Y[i]?,Sb [(Ow.fz,iD m)] with|some (Sb ⟨Sf,k,d⟩),Sb ks=>Sb ((k,d)::ks)|_,_=>Sd)=_
 rw[f]
theorem gh(n:Z.fm 13=Sb Ci)(g:Y[i]?=Sb (aS ds))(h:Pt w ds)(hm:0<m)(f:m<2^64)(j:aa Z.fn a Y=Sb (.sh,iD c))(k:aa Z.fn e Y=Sb (.sh,iD m))(q:∀r b,r<m->Pt w b->Q (.sh,iD (c+r),Y.set i (aS b))):Wp (aO Z (.bin .Add (.cons (.p a) (.fin (.io 13 (.ref i (.val (.p e) .nil))) .nil))) Y) Q:=by
 show oM (au (aN (wv j ⟨rfl,aL (j7 n g h hm f k λr b l d=>aG ⟨_,_,rfl,oI ?_⟩)⟩)));rw[<- PZ];show q r b l d
theorem zO(h:Wp (ba Z as Y) λp=>∃x y b,p.1=[x,y]/\aq op x.2 y.2=Sb b/\Q (.sh,.bl b,p.2)):Wp (aO Z (.cmp op as) Y) Q:=by
 rw[BO];show qO (h.mono λp ⟨x,y,b,e,a,q⟩=>⟨(.sh,.bl b),by rw[e];change bV (aq op x.2 y.2)=_;rw[a];rfl,q⟩)
end
section
variable {Z:GG} {N:Nat} {pn:List Nat} {Q:Res->Prop} {rest:bC} {Y:Ro} {ds:List D} {m c:Nat} {w:Int} {a e:IE} {i j:Nat}
theorem l0(l:Z.fm 13=Sb Ci)(d:Y[i]?=Sb (aS ds))(f:Pt w ds)(hm:0<m)(c:m<2^64)(g:aa Z.fn e Y=Sb (.sh,iD m))(h:j∉pn)(q:∀r a,r<m->Pt w a->Wp (aY Z N rest pn ((Y.set i (aS a)).set j (fS (iD r)))) Q):Wp (aY Z N (.cons (.asg j (.io 13 (.ref i (.val (.p e) .nil)))) rest) pn Y) Q:=
 bU (j7 l d f hm c g λr a k b=>⟨⟨rfl,h⟩,q r a k b⟩)
theorem kH(s:Z.fm 13=Sb Ci)(g:Y[i]?=Sb (aS ds))(h:Pt w ds)(hm:0<m)(f:m<2^64)(k:aa Z.fn a Y=Sb (.sh,iD c))(l:aa Z.fn e Y=Sb (.sh,iD m))(n:j∉pn)(q:∀r b,r<m->Pt w b->Wp (aY Z N rest pn ((Y.set i (aS b)).set j (fS (iD (c+r))))) Q):Wp (aY Z N (.cons (.asg j (.bin .Add (.cons (.p a) (.fin (.io 13 (.ref i (.val (.p e) .nil))) .nil)))) rest) pn Y) Q:=
 bU (gh s g h hm f k l λr b o d=>⟨⟨rfl,n⟩,q r b o d⟩)
end
theorem lj{a:Nat}(hm:a<=9){w:Int}(B:0<=w){ds:List D}(h:Pt w ds){Q:Kd×D×List (Option iQ)->Prop}(q:∀(r:Nat) f,r<=9->Pt (w-r) f->Q (.sh,iD r,[Sb (k0,.nd (.dic 0 potK) f),Sd])):Wp (Lb [(k0,.nd (.dic 0 potK) ds),(.fz,iD a)]) Q:=by
 unfold Lb;show qR rfl ?_;unfold HS;show bU (vo (au (aN (wv rfl ⟨rfl,aL (oK (aL (zO (aL (j7 rfl rfl h (by decide) (by decide) rfl λl t _ A=>aX (a9 (aG ⟨_,_,decide ((l:Int)=0),rfl,?_,aG ?_⟩)))))))⟩))))
 ·show mh (qM rfl)
 show wv (tU _) (aG ⟨_,_,rfl,?_⟩)
 obtain⟨g,C,x⟩:∃g:Nat,g<=9/\sB (Sb (Kd.fr k0,D.lst [iD a,.int 9])) (Sb (Kd.sh,bD (decide ((l:Int)=0))))=Sb (.sh,iD g):=by
  cases decide ((l:Int)=0)
  ·show⟨a,hm,rfl⟩
  ·show⟨9,by lia,rfl⟩
 show wv x ⟨⟨rfl,by decide⟩,?_⟩;obtain⟨o,j,n,s,r,rfl,p⟩:=A;show bU (oK (au (aN (wv (c7 zN rfl) ⟨rfl,aL (j7 (m:=g+1) rfl rfl ⟨o,j,n,s,r,rfl,p⟩ (by lia) (by lia) ((cG rfl rfl).trans rfl) λi y u v=>aG (zq ⟨⟨rfl,by decide⟩,?_⟩))⟩))))
 obtain⟨b,k,d,z⟩:∃b:Nat,b<=9/\(b:Int)<=w/\(if(i:Int)<w then(i:Int) else w)=b:=by
  by_cases e:(i:Int)<w
  ·show⟨i,by lia,by lia,if_pos e⟩
  ·show⟨w.toNat,by lia,by lia,by rw[if_neg e];lia⟩
 rw[z];obtain⟨o,j,n,s,r,rfl,p⟩:=v
 let c:∀b:Nat,b<=9->(b:Int)<=w->Wp (aY Z_14 1000 (dr HS 3) [0] [aS (CF o j n s r w),fS (iD a),fS (iD g),fS (iD b)]) λr=>Wp (gQ 2 [0] (Sb r)) Q:=λb k d=>by
  unfold HS;show nC zN (bZ (c7 zN rfl) rfl) rfl rfl ?_;show bP rfl rfl (f6 rfl (q b _ k ⟨o,j,n,s,r,rfl,p⟩))
 unfold HS at c;show ff (wX (c7 vQ rfl) rfl) (λ_=>?_) λ_=>eM (c b k d);show aR rfl rfl (by decide) (eM (c 0 (by lia) (by lia)))
abbrev hV:=Str×Nat
abbrev Lp(x:Str):D:=.tup [.str "name",.str x]
abbrev Oh(p:hV):D:=.tup [Lp p.1,iD p.2]
abbrev mC(ls:List hV):D:=.lst (ls.map Oh)
theorem DW{α:Type}{t:α->Bool}{f g:α->D}{c:D->Option (Option KD)}:∀{l:List α},(∀a∈l,∃kd,c (f a)=Sb (if t a=Se then Sb (kd,g a) else Sd)/\bE r (kd,g a)=Se)->aT r c (l.map f)=Sb ((l.filter t).map g)
 |[],_=>rfl
 |a::l,h=>by
  obtain⟨kd,e,i⟩:=h a OL;rw[OI,aT,e,DW λx d=>h x (OH _ d)];by_cases b:t a=Se
  ·rw[if_pos b]
   change(if bE r (kd,g a)=Se then Sb (g a::(l.filter t).map g) else Sd)=_
   rw[if_pos i,Qp b,OI]
  ·rw[if_neg b,Qq b]
theorem G9(hn:bA [(1,d),(2,d')] Y0=Se)(b:aD Z t (setAll [(1,d),(2,d')] Y0)=Sb z)(a:aa Z e (setAll [(1,d),(2,d')] Y0)=Sb (kd,y)):dP (.tp [.nm 1,.nm 2]) (cD Z (.som t)) (aa Z e) Y0 (.tup [d,d'])=Sb (if z=Se then Sb (kd,y) else Sd):=by
 change(if bA [(1,d),(2,d')] Y0=Se then(match aD Z t (setAll [(1,d),(2,d')] Y0) with|some Se=>(aa Z e (setAll [(1,d),(2,d')] Y0)).map Sb|some Sf=>Sb Sd|none=>Sd) else Sd)=_
 rw[if_pos hn,b,a]
 cases z<;>rfl
structure Gw(L:Str->Nat)(ls:List hV)(wd dp:Nat)(f:Fo):Prop where
 wf:Wf L f
 wid:wid L f=wd
 dep:dep f<=dp
 al:Al (Pc L λx=>x∈ls.map (·.1)) f
section
variable {L:Str->Nat} {ls:List hV} (hL:∀p∈ls,L p.1=p.2) (hls:ls.length<=100) {w:Int}
include hL hls
theorem CG{wd:Nat}(h1:1<=wd)(h8:wd<=8){ds:List D}(h:Pt w ds){Q:Kd×D×List (Option iQ)->Prop}(q:∀f d,Gw L ls wd 0 f->Pt w d->Q (.sh,dY f,[Sb (k0,.nd (.dic 0 potK) d),Sd,Sd])):Wp (Lc [(k0,.nd (.dic 0 potK) ds),(.fz,mC ls),(.fz,iD wd)]) Q:=by
 unfold Lc;show qR rfl ?_;unfold MD;show let sm:List hV:=ls.filter λp=>decide (p.2=wd);?_;let o:sm.length<=ls.length:=List.length_filter_le _ _;show aR (x:=(.fr k0,.lst (sm.map λp=>Lp p.1))) ?_ rfl (by decide) ?_
 ·show aE (e7 (tH (wv rfl (jB rfl ⟨by rw[On];lia,wv (DW λp i=>⟨.sh,G9 rfl ((lW rfl rfl).trans (by rw[decide_eq_decide.mpr Int.ofNat_inj])) rfl,rfl⟩) rfl⟩))))
 let b:∀{Z:Nat->Option Fn} {s0 s1 s2 s4:Option Sl},aa Z (.blt "len" (.cons (.var 3) .nil)) [s0,s1,s2,Sb ⟨Sf,k0,.lst (sm.map λp=>Lp p.1)⟩,s4]=Sb (.sh,iD sm.length):=λ{_ _ _ _ _}=>jT rfl (congrArg Sb (On _));show l0 (m:=sm.length+1) rfl rfl h (by lia) (by lia) ((cG b rfl).trans rfl) (by decide) λa k r i=>?_;show ff (wX rfl b) (λe=>?_) λe=>eM ?_
 ·let c:a<sm.length:=by have:=of_decide_eq_true e;lia
  let hm:sm[a]∈ls/\sm[a].2=wd:=by
   have:=Q6.mp (RZ c);show⟨this.1,of_decide_eq_true this.2⟩
  show bP (dE rfl rfl (.inl rfl) rfl (by rw[Op,Ot c];rfl)) rfl (fq (f6 rfl ?_));let j:L sm[a].1=wd:=(hL _ hm.1).trans hm.2;show q (.name sm[a].1) _ ⟨trivial,j,Ox _,⟨by change L _<=8;rw[j];show h8,λx e=>by cases e;show Oy.mpr ⟨_,hm.1,rfl⟩⟩⟩ i
 ·show cu (bX (au (aN (a9 ⟨rfl,au (aN (wv rfl ⟨rfl,aL (j7 rfl rfl i ?_ ?_ (jV (by decide) (by lia) rfl rfl) λv l n g=>aG (bY rfl ⟨rfl,f6 rfl (q (.num wd v) _ ⟨?_,rfl,Ox _,⟨h8,λx e=>by cases e⟩⟩ g)⟩))⟩))⟩))))
  ·rw[OY];show O4 _
  ·rw[OY];show PN (by decide) (by lia)
  ·change v<2^wd;rw[<- OY];show n
end
abbrev gr(n:Nat):Fm:=recM Z_16 17 1000 4 9 [0] GJ n
example:NU=gr 40:=rfl
abbrev df(ds:List D):D:=.nd (.dic 0 potK) ds
def GC(L:Str->Nat)(ls:List hV)(w:Int)(n B:Nat):Prop:=∀wd,1<=wd->wd<=8->∀ds,Pt w ds->∀Q:Kd×D×List (Option iQ)->Prop,(∀f q,Gw L ls wd B f->Pt w q->Q (.sh,dY f,[Sb (k0,df q),Sd,Sd,Sd]))->Wp (gr n [(k0,df ds),(.fz,mC ls),(.fz,iD wd),(.fz,iD B)]) Q
section
variable {L:Str->Nat} {ls:List hV} {w:Int}
theorem dZ{Z:GG}{n b wd:Nat}{Q:Kd×D×Ro->Prop}(d:Z.fm 17=Sb (gr n))(g:GC L ls w n b)(h1:1<=wd)(h8:wd<=8)(e:Pt w ds)(h:aa Z.fn ew (aS ds::fS (mC ls)::Y')=Sb (.sh,iD wd))(hd:aa Z.fn ed (aS ds::fS (mC ls)::Y')=Sb (.sh,iD b))(q:∀f a,Gw L ls wd b f->Pt w a->Q (.sh,dY f,aS a::fS (mC ls)::Y')):Wp (aO Z (.io 17 (.ref 0 (.val (.p (.var 1)) (.val (.p ew) (.val (.p ed) .nil))))) (aS ds::fS (mC ls)::Y')) Q:=
 fZ d (de rfl (br (aN (wv rfl ⟨rfl,br (aN (wv h ⟨rfl,br (aN (wv hd ⟨rfl,dc ⟨by simp[cg],[(k0,df ds),(.fz,mC ls),(.fz,iD wd),(.fz,iD b)],rfl,g wd h1 h8 ds e _ λf a i c=>⟨rfl,rfl,q f a i c⟩⟩⟩))⟩))⟩))))
theorem KA{a:Nat}(h:3<a)(d:a<9){Z:Nat->Option Fn}{Y:Ro}(b:aa Z (.var 4) Y=Sb (.sh,iD a)):∃o,aa Z (.ix (.lst (.own [] .fz) (.cons (sL "and") (.cons (sL "or") (.cons (sL "xor") (.cons (sL "plus") (.cons (sL "minus") .nil)))))) (.bin .Sub (.var 4) (nL 4))) Y=Sb (.sh,.str (DF o)):=by
 let c:a=4\/a=5\/a=6\/a=7\/a=8:=by lia
 rcases c with rfl|rfl|rfl|rfl|rfl
 ·show⟨.and,dE (k:=.fr k0) rfl (bZ b rfl) (.inl rfl) rfl rfl⟩
 ·show⟨.or,dE (k:=.fr k0) rfl (bZ b rfl) (.inl rfl) rfl rfl⟩
 ·show⟨.xor,dE (k:=.fr k0) rfl (bZ b rfl) (.inl rfl) rfl rfl⟩
 ·show⟨.plus,dE (k:=.fr k0) rfl (bZ b rfl) (.inl rfl) rfl rfl⟩
 ·show⟨.minus,dE (k:=.fr k0) rfl (bZ b rfl) (.inl rfl) rfl rfl⟩
theorem KB{a:Nat}(h:11<a)(d:a<14){Z:Nat->Option Fn}{Y:Ro}(b:aa Z (.var 4) Y=Sb (.sh,iD a)):∃s:Bool,aa Z (.ix (.lst (.own [] .fz) (.cons (sL "same") (.cons (sL "less") .nil))) (.bin .Sub (.var 4) (nL 12))) Y=Sb (.sh,.str (if s then "less" else "same")):=by
 let c:a=12\/a=13:=by lia
 rcases c with rfl|rfl
 ·show⟨Sf,dE (k:=.fr k0) rfl (bZ b rfl) (.inl rfl) rfl rfl⟩
 ·show⟨Se,dE (k:=.fr k0) rfl (bZ b rfl) (.inl rfl) rfl rfl⟩
theorem l3{Z:Nat->Option Fn}{s0 s1 s2:Option Sl}{Y':Ro}{a:Nat}:aa Z (.bin .Sub (.var 3) (nL 1)) (s0::s1::s2::fS (iD (a+1))::Y')=Sb (.sh,iD a):=by
 rw[bZ rfl rfl];congr 3
 lia
abbrev rG(ds:List D)(ls:List hV)(wd B q:Nat)(s5 s6 O s8:Option Sl):Ro:=[aS ds,fS (mC ls),fS (iD wd),fS (iD (B+1)),fS (iD q),s5,s6,O,s8]
theorem Ha{Q:Kd×D×List (Option iQ)->Prop}(a:bv kd=Sf)(q:Q (kd,d,[Sb (k0,df ds),Sd,Sd,Sd])):Wp (gQ 4 [0] (Sb (.rt kd d (aS ds::Y')))) Q:=f6 a q
theorem tX{n A wd j:Nat}(g:GC L ls w n A)(h1:1<=wd)(h8:wd<=8)(I:3<=j)(B:j<14){ds:List D}(z:Pt w ds){Q:Kd×D×List (Option iQ)->Prop}(q:∀f C,Gw L ls wd (A+1) f->Pt w C->Q (.sh,dY f,[Sb (k0,df C),Sd,Sd,Sd])) :
  Wp (aY (Z_16.addM 17 (gr n)) 1000 (dr GJ 3) [0] (rG ds ls wd A j Sd Sd Sd Sd)) λr=>Wp (gQ 4 [0] (Sb r)) Q:=by
 let t:(Z_16.addM 17 (gr n)).fm 17=Sb (gr n):=rfl;let v:(Z_16.addM 17 (gr n)).fm 13=Sb Ci:=rfl;unfold GJ;show ff (lW rfl rfl) (λ_=>?_) λe3=>eM ?_
 ·show cu (bX (au (aN (a9 ⟨rfl,aL (dZ t g h1 h8 z rfl l3 λa p d h=>aG (bY rfl ⟨rfl,fq (Ha rfl (q (.not a) _ ⟨d.wf,d.wid,?_,⟨?_,λx e=>by cases e⟩,d.al⟩ h))⟩))⟩))))
  ·have:=d.dep;change dep a+1<=_;lia
  ·change wid L a<=8;rw[d.wid];show h8
 let e3:¬j=3:=by have:=of_decide_eq_false e3;lia
 show ff (wX rfl rfl) (λe=>?_) λH=>eM ?_
 ·let e:j<9:=by have:=of_decide_eq_true e;lia
  show bU (dZ t g h1 h8 z rfl l3 λa p d h=>⟨⟨rfl,by decide⟩,?_⟩);obtain⟨o,O⟩:=KA (by lia) e (Y:=rG p ls wd A j (fS (dY a)) Sd Sd Sd) rfl;show cu (bX (au (aN (wv O ⟨rfl,au (aN (wv rfl ⟨rfl,aL (dZ t g h1 h8 h rfl l3 λb u i k=>aG (bY (r:=(.sh,.tup [.str (DF o),dY a,dY b])) rfl ⟨rfl,fq (Ha rfl (q (.two o a b) _ ⟨⟨d.wf,i.wf,d.wid.trans i.wid.symm⟩,d.wid,?_,⟨?_,λx e=>by cases e⟩,d.al,i.al⟩ k))⟩))⟩))⟩))))
  ·have:=d.dep;have:=i.dep;change max (dep a) (dep b)+1<=_;lia
  ·change wid L a<=8;rw[d.wid];show h8
 let H:¬j<9:=by have:=of_decide_eq_false H;lia
 show ff (lW rfl rfl) (λe=>?_) λK=>eM ?_
 ·show bU (dZ (wd:=1) t g (by lia) (by lia) z rfl l3 λc p E h=>⟨⟨rfl,by decide⟩,?_⟩);show bU (dZ t g h1 h8 h rfl l3 λa u d k=>⟨⟨rfl,by decide⟩,?_⟩);show cu (bX (au (aN (a9 ⟨rfl,au (aN (wv rfl ⟨rfl,au (aN (wv rfl ⟨rfl,aL (dZ t g h1 h8 k rfl l3 λb y i l=>aG (bY (r:=(.sh,.tup [.str "if",dY c,dY a,dY b])) rfl ⟨rfl,fq (Ha rfl (q (.ite c a b) _ ⟨⟨E.wf,d.wf,i.wf,E.wid,d.wid.trans i.wid.symm⟩,d.wid,?_,⟨?_,λx e=>by cases e⟩,E.al,d.al,i.al⟩ l))⟩))⟩))⟩))⟩))))
  ·have:=d.dep;have:=i.dep;have:=E.dep;change max (dep c) (max (dep a) (dep b))+1<=_;lia
  ·change wid L a<=8;rw[d.wid];show h8
 show ff (qW (lW rfl rfl) λ_=>jU (wY rfl rfl)) (λe=>?_) λR=>eM ?_
 ·let e:1<wd:=by simp only[Oo,decide_eq_true_eq] at e;lia
  show kH (c:=1) (m:=wd-1) v rfl z (by lia) (by lia) rfl ((bZ rfl rfl).trans (by congr 3;lia)) (by decide) λr p F h=>?_;show bU (dZ t g (by lia) (by lia) h rfl l3 λa u d k=>⟨⟨rfl,by decide⟩,?_⟩);show cu (bX (au (aN (a9 ⟨rfl,au (aN (wv rfl ⟨rfl,aL (dZ (wd:=wd-(1+r)) t g (by lia) (by lia) k ((bZ rfl rfl).trans (by congr 3;lia)) l3 λb y i l=>aG (bY rfl ⟨rfl,fq (Ha rfl (q (.join a b) _ ⟨⟨d.wf,i.wf⟩,?_,?_,⟨?_,λx e=>by cases e⟩,d.al,i.al⟩ l))⟩))⟩))⟩))))
  ·change wid L a+wid L b=wd;rw[d.wid,i.wid];lia
  ·have:=d.dep;have:=i.dep;change max (dep a) (dep b)+1<=_;lia
  ·change wid L a+wid L b<=8;rw[d.wid,i.wid];lia
 show ff (qW (wY rfl rfl) λ_=>jU (lW rfl rfl)) (λe=>?_) λN=>eM ?_
 ·let e:11<j/\wd=1:=by simp only[Oo,decide_eq_true_eq] at e;lia
  show kH (c:=1) (m:=8) v rfl z (by lia) (by lia) rfl rfl (by decide) λr p F h=>?_;show bU (dZ t g (by lia) (by lia) h rfl l3 λa u d k=>⟨⟨rfl,by decide⟩,?_⟩);obtain⟨s,M⟩:=KB e.1 B (Y:=rG u ls wd A j (fS (dY a)) Sd Sd (fS (iD (1+r)))) rfl;show cu (bX (au (aN (wv M ⟨rfl,au (aN (wv rfl ⟨rfl,aL (dZ t g (by lia) (by lia) k rfl l3 λb y i l=>aG (bY rfl ⟨rfl,fq (Ha rfl (q (.cmp s a b) _ ⟨⟨d.wf,i.wf,d.wid.trans i.wid.symm⟩,e.2.symm,?_,⟨?_,λx e=>by cases e⟩,d.al,i.al⟩ l))⟩))⟩))⟩))))
  ·have:=d.dep;have:=i.dep;change max (dep a) (dep b)+1<=_;lia
  ·change 1<=8;lia
 show kH (m:=9-wd) v rfl z (by lia) (by lia) rfl ((bZ rfl rfl).trans (by congr 3;lia)) (by decide) λr p F h=>?_;show l0 (m:=r+1) v rfl h (by lia) (by lia) ((cG (bZ rfl rfl) rfl).trans (by congr 3;lia)) (by decide) λlo u P k=>?_;show cu (bX (au (aN (a9 ⟨rfl,aL (dZ t g (by lia) (by lia) k rfl l3 λa y d l=>wv (e2 rfl rfl) (bY rfl ⟨rfl,Ha rfl (q (.cut a lo wd) _ ⟨⟨d.wf,?_⟩,rfl,?_,⟨h8,λx e=>by cases e⟩,d.al⟩ l)⟩))⟩))))
 ·rw[d.wid];lia
 ·have:=d.dep;change dep a+1<=_;lia
variable (hL:∀p∈ls,L p.1=p.2) (hls:ls.length<=100)
include hL hls
theorem rg:∀(d n:Nat),d<n->GC L ls w n d
 |d,0,h=>absurd h (Qf _)
 |d,n+1,hd=>by
  intro A C h8 k v Q q;obtain⟨o,F,I,s,r,rfl,K⟩:=v;show qR rfl ?_;let b:∀{c a:Nat} {k:List D},d=c+1->3<=a->a<14->Pt w k->Wp (aY (Z_16.addM 17 (gr n)) 1000 (dr GJ 3) [0] (rG k ls A c a Sd Sd Sd Sd)) λr=>Wp (gQ 4 [0] (Sb r)) Q:=λ{c a k} e E p v=>tX (rg c n (by lia)) C h8 E p v (by rw[<- e];show q);unfold GJ at b⊢;show nC vQ (bZ (c7 vQ rfl) rfl) rfl rfl ?_;show l0 (m:=14) rfl rfl ⟨o,F,I,s,r-1,rfl,K⟩ (by lia) (by lia) rfl (by decide) λa u H t=>?_;obtain⟨z,j,g,s1,B,e1,i⟩:=t;show ff (tL (lW rfl rfl) λ_=>tL (wX (c7 vQ (by rw[e1];rfl)) rfl) λ_=>jU (wX rfl rfl)) (λ_=>?_) λe=>eM ?_
  ·show cu (fZ rfl (de rfl (br (aN (wv rfl ⟨rfl,br (aN (wv rfl ⟨rfl,dc ⟨by simp[cg],[(k0,df u),(.fz,mC ls),(.fz,iD A)],rfl,CG hL hls C h8 ⟨z,j,g,s1,B,e1,i⟩ λf x l y=>⟨rfl,rfl,rfl,fq (Ha rfl (q f x ⟨l.wf,l.wid,OW l.dep (OS _),l.al⟩ y))⟩⟩⟩))⟩)))))
  ·simp only[Bool.or_eq_false_iff,decide_eq_false_iff_not] at e;obtain⟨c,rfl⟩:∃c,d=c+1:=⟨d-1,by lia⟩;show b rfl (by lia) H ⟨z,j,g,s1,B,e1,i⟩
end
theorem w8(c:Nat):∀n:Nat,(G.sn ⟨#[c]⟩ n).cps.toList=Pb n c:=by
 let b:∀(n:Nat) (a:Array Nat),((Pb n (#[c]:Array Nat)).foldl (·++·) a).toList=a.toList++Pb n c:=by
  intro n
  induction n with
  |zero=>intro a;simp
  |succ n d=>
   intro a;rw[Qb,Ra,d];simp[Qb]
 intro n;have:=b n #[];simpa[G.sn] using this
theorem zP{a b:Str}(h:a.cps.toList=b.cps.toList):a=b:=by
 obtain⟨a⟩:=a;obtain⟨b⟩:=b;have:a=b:=Array.toList_inj.mp h;rw[this]
theorem zQ(a b:Str):(a++b).cps.toList=a.cps.toList++b.cps.toList:=Array.toList_append
theorem rh(x:Str):x.length=x.cps.toList.length:=(PR).symm
noncomputable abbrev c1(c:Nat):Str:=⟨#[c]⟩
noncomputable def ef(l:List Nat):Str:=⟨l.toArray⟩
theorem vS(h:ef a=ef b):a=b:=by
 have:(ef a).cps.toList=(ef b).cps.toList:=by rw[h]
 simpa[ef] using this
section
variable {Z:Nat->Option Fn} {Y:Ro} {a b:IE}
theorem zR{c n:Nat}(hn:n<=1000)(d:aa Z a Y=Sb (.sh,.str (c1 c)))(e:aa Z b Y=Sb (.sh,iD n)):aa Z (.bin .Mult a b) Y=Sb (.sh,.str (ef (Pb n c))):=by
 show aE (cj (wv d (wv e ⟨_,if_pos (show(n:Int)<=100000/\(0:Int)<=n/\(c1 c).length<=100 from⟨by lia,by lia,by change 1<=100;decide⟩),?_⟩)));rw[Ph,show G.sn (c1 c) n=ef (Pb n c) from zP (by rw[w8];rfl)]
theorem tY{x y:List Nat}(hl:x.length+y.length<=1000)(c:aa Z a Y=Sb (.sh,.str (ef x)))(d:aa Z b Y=Sb (.sh,.str (ef y))):aa Z (.bin .Add a b) Y=Sb (.sh,.str (ef (x++y))):=by
 let f:(ef x).length=x.length:=by rw[rh];rfl
 let e:(ef y).length=y.length:=by rw[rh];rfl
 show aE (cj (wv c (wv d ⟨_,if_pos (show(ef x).length+(ef y).length<=100000 by lia),?_⟩)));rw[show ef x++ef y=ef (x++y) from zP (by rw[zQ];rfl)]
end
noncomputable abbrev sgs:List Nat:=[98,99,100,102,103,104,106,107,108,109,110,112,114,115,116,118,119,120,121,122]
noncomputable abbrev fls:List Nat:=[113,106,118]
theorem Hb:n9 "bcdfghjklmnprstvwxyz" = sgs.map λc=>.str (c1 c):=by
 unfold n9;rw[show("bcdfghjklmnprstvwxyz":Str).cps.toList=sgs from by nofun]
theorem Hc:n9 "qjv" = fls.map λc=>.str (c1 c):=by
 unfold n9;rw[show("qjv":Str).cps.toList=fls from by nofun]
noncomputable def n1(a b f s:Nat):List Nat:=Pb a f++[s]++Pb b f
def tZ(a b:Nat)(fs:List Nat):List (List Nat):=fs.flatMap λf=>sgs.map λs=>n1 a b f s
theorem He{a b f s d s':Nat}(h:1<=a+b)(e:n1 a b f s=n1 a b d s'):f=d/\s=s':=by
 unfold n1 at e
 let g:s=s':=by
  have:=congrArg (λl=>l[a]?) e;simpa using this
 show⟨?_,g⟩;by_cases c:0<a
 ·have:=congrArg (λl=>l[0]?) e;simpa[c,Pj,PV] using this
 ·let c:a=0:=by lia
  subst c;let i:0<b:=by lia
  have:=congrArg (λl=>l[1]?) e;simpa[i,PV] using this
theorem pair_nd:(fls.flatMap λf=>sgs.map λs=>(f,s)).Nodup:=by nofun
theorem Hf{a b:Nat}(h:1<=a+b):(tZ a b fls).Nodup:=by
 let e:tZ a b fls=(fls.flatMap λf=>sgs.map λs=>(f,s)).map λp=>n1 a b p.1 p.2:=by
  unfold tZ;rw[List.map_flatMap];simp only[OE];rfl
 rw[e];unfold List.Nodup;rw[Qw];show pair_nd.imp λ{p q} c e=>c ?_;obtain⟨g,d⟩:=He h e;show Prod.ext g d
theorem CH:(tZ a b fls).length=60:=by
 unfold tZ;simp
noncomputable abbrev bgs:List Nat:=[98,100,103,104,107,109,110,112]
def n2(k:Nat):List Nat:=bgs.getD (k / 8) 0::Pb (k%8) 113
def nmB:List (List Nat):=(O9 60).map n2
theorem Hg:nmB.Nodup:=by nofun
theorem CI:nmB.length=60:=by unfold nmB;rw[On,P4]
noncomputable def Hh(na:List (List Nat))(f st:Nat):List (List Nat):=(O9 60).map λk=>na.getD ((f+st*k)%60) []
noncomputable def strides:List Nat:=[1,7,11,13,17,19,23,29]
theorem Hj:∀st∈strides,∀i,i<60->∀j,j<60->st*i%60=st*j%60->i=j:=by nofun
theorem Hk{f st i j:Nat}(c:st∈strides)(hi:i<60)(d:j<60)(e:(f+st*i)%60=(f+st*j)%60):i=j:=
 Hj st c i hi j d (by generalize st*i=a at e⊢;generalize st*j=b at e⊢;lia)
theorem Hl{na:List (List Nat)}(hn:na.Nodup)(hl:na.length=60)(g:st∈strides):(Hh na f st).Nodup:=by
 unfold Hh List.Nodup;rw[Qw];show List.Pairwise.imp_of_mem (λ{i j} hi d a e=>a ?_) R7;rw[P5] at hi d;let c:(f+st*i)%60<na.length:=by lia
 let b:(f+st*j)%60<na.length:=by lia
 rw[Pu,Pu,Ot c,Ot b] at e;show Hk g hi d ((RW hn).mp e)
theorem CJ:(Hh na f st).length=60:=by unfold Hh;rw[On,P4]
def Sg(l:List Nat):Prop:=∀c∈l,c<1000
theorem Sg.ok(h:Sg l):PyData.strOk (ef l)=Se:=by
 unfold PyData.strOk;rw[<- Array.all_toList,Pw];intro c a;have:=h c a;show decide_eq_true (by lia)
theorem Sg.getD{nl:List (List Nat)}(h:∀l∈nl,Sg l)(i:Nat):Sg (nl.getD i []):=by
 rw[Pu]
 cases e:nl[i]? with
 |none=>intro c a;cases a
 |some l=>show h l (OK e)
theorem Hm:∀l∈tZ a b fls,Sg l:=by
 intro l hl c d;unfold tZ at hl;obtain⟨f,e,hl⟩:=List.mem_flatMap.mp hl;obtain⟨s,h,rfl⟩:=Oy.mp hl;let g:∀f∈fls,f<1000:=by decide
 let i:∀f∈sgs,f<1000:=by decide
 unfold n1 at d;rcases OQ.mp d with d|d
 ·rcases OQ.mp d with d|d
  ·rw[(RP.mp d).2];show g f e
  ·rw[OV.mp d];show i s h
 ·rw[(RP.mp d).2];show g f e
theorem Hn:∀l∈nmB,Sg l:=by
 change ∀l∈nmB,∀c∈l,c<1000;nofun
theorem Ho{na:List (List Nat)}(h:∀l∈na,Sg l):∀l∈Hh na f st,Sg l:=by
 intro l hl;obtain⟨k,_,rfl⟩:=Oy.mp hl;show Sg.getD h _
abbrev sD(l:List Nat):D:=.str (ef l)
abbrev jD(nl:List (List Nat)):D:=.lst (nl.map sD)
theorem CK{Z:GG}{Y:Ro}{i:Nat}{ds ys:List D}{Q:Kd×D×Ro->Prop}(h:Y[i]?=Sb (Sb ⟨Sf,k0,.lst ds⟩))(a:aa Z.fn e Y=Sb (.fr k0,.lst ys))(hl:ds.length+ys.length<=100000)(q:Q (.sh,.non,Y.set i (Sb ⟨Sf,k0,.lst (ds++ys)⟩))):Wp (aO Z (.mut "extend" (.nm i) (.cons e .nil)) Y) Q:=by
 show⟨_,?_,q⟩;rw[iW,e1 a];change fW "extend" i (fV Y[i]?) (Sb [(.fr k0,.lst ys)]) Y=_;rw[h]
 change(match ju "extend" [] .fz ds [(.fr k0,.lst ys)],Y[i]? with|some (d',ds'),Sb (Sb ⟨Sf,k,_⟩)=>Sb (Kd.sh,d',Y.set i (Sb ⟨Sf,k,id (.lst ds')⟩))|_,_=>Sd)=_
 let hm:ju "extend" [] .fz ds [(.fr k0,.lst ys)]=Sb (.non,ds++ys):=by
  change(if jI (.own [] .fz)=Se/\jd (.fr k0) ys=Se/\bv (.fr k0)=Sf/\ds.length+ys.length<=100000 then Sb (D.non,ds++ys) else Sd)=_
  show if_pos ⟨rfl,rfl,rfl,hl⟩
 rw[hm,h];rfl
abbrev rN(ds:List D)(sz a:Nat)(nl:List (List Nat))(s4 s5 s6:Option Sl):Ro:=[aS ds,fS (iD sz),fS (iD a),Sb ⟨Sf,k0,jD nl⟩,s4,s5,s6]
theorem i_str:cw Z (.e (.lit (.str x))) Y=Sb ([],n9 x):=rfl
theorem KC:∀k,k<60->ya "bdghkmnp" ((k / 8:Nat):Int)=Sb (ef [bgs.getD (k / 8) 0]):=by nofun
theorem Hq:∀k,k<8->([1,7,11,13,17,19,23,29]:List Nat)[k]?=Sb (strides.getD k 0)/\strides.getD k 0∈strides/\strides.getD k 0<30:=by decide
theorem t0{w:Int}{ds:List D}(h:Pt w ds){sz a:Nat}{na:List (List Nat)}(hn:na.Nodup)(hl:na.length=60)(o:∀l∈na,Sg l){Q:Kd×D×List (Option iQ)->Prop}(q:∀nl b,nl.Nodup->nl.length=60->(∀l∈nl,Sg l)->Pt w b->Q (.fr k0,jD nl,[Sb (k0,df b)])):Wp (aY Z_13 1000 (dr J9 5) [0] (rN ds sz a na Sd Sd Sd)) λr=>Wp (gQ 1 [0] (Sb r)) Q:=by
 unfold J9;show l0 rfl rfl h (by decide) (by decide) rfl (by decide) λf g s m=>?_;show bU (vo (au (aN (wv (r:=(.fr k0,.lst ([1,7,11,13,17,19,23,29].map iD))) rfl ⟨rfl,aL (j7 rfl rfl m (by decide) (by decide) rfl λk j hk d=>aG ⟨_,_,rfl,?_⟩)⟩))));obtain⟨e1,e2,e3⟩:=Hq k hk;show wv (DH (.inl rfl) (DI rfl hk) (by rw[Op,e1];rfl)) ⟨⟨rfl,by decide⟩,?_⟩;generalize strides.getD k 0=st at e2 e3⊢;show bP (x:=(.fr k0,.lst ((O9 60).map λk=>sD (na.getD ((f+st*k)%60) [])))) (Na rfl (by decide) λi hi=>zD rfl (wv ?_ ⟨.sh,rfl,rfl⟩)) rfl (f6 rfl ?_)
 ·let c:(f+st*i)%60<na.length:=by lia
  let p:st*i<30*60:=O1 (Nat.mul_le_mul_left _ (Qk hi)) (QL e3 (by decide));show dE (k:=.bo 3 k0) (n:=(f+st*i)%60) rfl (eN (i:=((f+st*i:Nat):Int)) (by decide) ((cG rfl (nr ⟨lX (by lia),lX (by lia)⟩ rfl rfl)).trans (by rw[PZ,Int.natCast_mul])) rfl) (.inl rfl) (by lia) ?_;rw[Op,Pu,Ot c];rfl
 ·let e:(.lst ((O9 60).map λk=>sD (na.getD ((f+st*k)%60) [])):D)=jD (Hh na f st):=by
   unfold jD Hh;rw[OE];rfl
  change Q (.fr k0,_,_);rw[e];show q _ _ (Hl hn hl e2) CJ (Ho o) d
theorem CL{a b i f:Nat}(h:fls[i]?=Sb f):tZ a b (fls.take (i+1))=tZ a b (fls.take i)++sgs.map λs=>n1 a b f s:=by
 rw[bQ h];unfold tZ;rw[List.flatMap_append];simp
theorem zS:(tZ a b (fls.take i)).length<=60:=by
 let d:∀c:List Nat,c.length<=3->(tZ a b c).length<=60:=by
  intro c h
  have:(tZ a b c).length=20*c.length:=by
   unfold tZ
   induction c with
   |nil=>rfl
   |cons f c e=>
    rw[List.flatMap_cons,OF,e (by rw[OM] at h;lia),On];change 20+20*c.length=20*(c.length+1)
    lia
  lia
 show d _ (by rw[OP];change min i 3<=3;lia)
theorem zT{w:Int}{ds:List D}(h:Pt w ds){Q:Kd×D×List (Option iQ)->Prop}(q:∀nl n,nl.Nodup->nl.length=60->(∀l∈nl,Sg l)->Pt w n->Q (.fr k0,jD nl,[Sb (k0,df n)])):Wp (La [(k0,df ds)]) Q:=by
 unfold La;show qR rfl ?_;let c:=λds h sz a na hn hl B=>t0 (ds:=ds) h (sz:=sz) (a:=a) (na:=na) hn hl B q;unfold J9 at c⊢;show kH (m:=7) rfl rfl h (by decide) (by decide) rfl rfl (by decide) λr v I A=>?_;generalize z:2+r=sz;show l0 rfl rfl A (by lia) (by lia) rfl (by decide) λa j E y=>?_;show aR rfl rfl (by decide) ?_;show cL (i_str.trans (by rw[Hc])) (λi Y=>∃s4,Y=rN j sz a (tZ a (sz-1-a) (fls.take i)) s4 Sd Sd) ⟨Sd,rfl⟩ (λi d Y e o=>?_) λH o=>?_
 ·obtain⟨s4,rfl⟩:=o;rw[Op] at e
  cases p:fls[i]? with
  |none=>rw[p] at e;cases e
  |some f=>
  rw[p] at e;cases e;show⟨[(4,.str (c1 f))],rfl,rfl,?_⟩;show eL (CK (ys:=sgs.map λs=>sD (n1 a (sz-1-a) f s)) rfl ?_ ?_ (aQ ⟨_,.inl rfl,fS (.str (c1 f)),?_⟩))
  ·show GZ (i_str.trans (by rw[Hb])) (by decide) λs C=>zD rfl (wv ?_ ⟨.sh,rfl,rfl⟩);show tY (by simp;lia) (tY (by simp;lia) (zR (by lia) rfl rfl) rfl) (zR (by lia) rfl ?_);show(bZ (bZ rfl rfl) rfl).trans ?_;congr 3
   lia
  ·rw[On,On];have:=zS (a:=a) (b:=sz-1-a) (i:=i);change _+20<=_
   lia
  ·change(rN j sz a _ _ Sd Sd).set 3 _=_;rw[CL p];simp only[rN,jD,Oz,OE];rfl
 ·obtain⟨s4,rfl⟩:=o;show DC (vp (aL (j7 rfl rfl y (by decide) (by decide) rfl λF g u t=>aX (a9 (aG ⟨_,_,rfl,qM ⟨λ_=>?_,λ_=>eM (c g t sz a _ (Hf (by lia)) CH Hm)⟩⟩)))));show aR (x:=(.fr k0,jD nmB)) ?_ rfl (by decide) (eM (c g t sz a _ Hg CI Hn))
  let e:jD nmB=.lst ((O9 60).map λk=>sD (n2 k)):=by
   unfold jD nmB;rw[OE];rfl
  rw[e];show Na rfl (by decide) λi hi=>zD rfl (wv ?_ ⟨.sh,rfl,rfl⟩);show tY (x:=[bgs.getD (i / 8) 0]) (by simp;lia) ?_ (zR (by lia) rfl ?_)
  ·rw[oo,hUq ⟨by decide,by nofun⟩ rfl rfl]
   change(if("bdghkmnp":Str).length<=100000 then(ya "bdghkmnp" ((i:Int) / 8)).map λd=>(Kd.sh,D.str d) else Sd)=_
   rw[if_pos (by nofun),show(i:Int) / 8=((i / 8:Nat):Int) by lia,KC i hi];rfl
  ·show(eN (by decide) rfl rfl).trans ?_;congr 3
theorem vT{Z:GG}{N:Nat}{pn:List Nat}{Y:Ro}{Q:Res->Prop}{rest:bC}{a:List Nat}{s:IS}(h:Wp (aY Z N (.cons s rest) pn (frzN a Y)) Q):Wp (aY Z N (.cons (.pre a s) rest) pn Y) Q:=by
 obtain⟨r,e,q⟩:=h;show⟨r,?_,q⟩;rw[aY] at e⊢;rw[B0];show e
abbrev zL(l:List Int):D:=.lst (l.map .int)
theorem l4(a:List Int)(lo hi:Option Int):∃ms:List Int,jh (a.map D.int) lo hi=ms.map D.int/\ms.length<=HT.jZ a.length a.length hi-HT.jZ a.length 0 lo:=by
 show⟨(a.drop (HT.jZ a.length 0 lo)).take (HT.jZ a.length a.length hi-HT.jZ a.length 0 lo),?_,?_⟩
 ·unfold jh;rw[On,Rz,RB]
 ·rw[OP];lia
noncomputable def Nf:List ay:=[.inr "digits",.inr "cells",.inr "number",.inr "seed",.inr "room",.inr "rows"]
theorem CM(xs:List ay){kds:List KD}(hk:cc ks=Sb xs)(h:decide (xs.Nodup)=Se/\0<xs.length/\xs.length<=15/\kds.all (λkd=>i7 kd.1 kd.2)=Se):jL ks (Sb kds)=Sb (.fr bJ,.nd (.dic 0 (xs.map Sum.inl)) (kds.map (·.2))):=by
 unfold jL;rw[hk];show if_pos h
theorem KF:aa Z (.ix (.var 0) (nL 0)) (fS (.scr (n::ns))::Y)=Sb (.sh,.int n):=by
 change(L2.o6 (n::ns) 0).map (λd=>(Kd.sh,D.int d))=_;rw[show L2.o6 (n::ns) 0=Sb n by unfold L2.o6;rw[vm (by decide) (by simp)];rfl];rfl
theorem Hr{a:List Int}(hl:a.length<=63){Q:KD->Prop}(q:∀ds,Pt 24 ds->Q (.fr k0,df ds)):Wp (K9 [.scr a]) Q:=by
 unfold K9;show zt rfl ?_;unfold MC;show aR rfl rfl (by decide) ?_;obtain⟨u,F,H⟩:=l4 a Sd (Sb 63);obtain⟨b,m,p⟩:=l4 a Sd (Sb 1);obtain⟨f,j,k⟩:=l4 a (Sb 1) (Sb 63)
 let A:b.length<=1:=by
  rw[show(Sb (1:Int))=Sb ((1:Nat):Int) from rfl,HT.gm,HT.pG] at p;lia
 let C:f.length<=62:=by
  rw[show(Sb (1:Int))=Sb ((1:Nat):Int) from rfl,show(Sb (63:Int))=Sb ((63:Nat):Int) from rfl,HT.gm,HT.gm] at k;lia
 let B:∀{Z:Nat->Option Fn} {s1 s2 s3 s4:Option Sl},aa Z (.sl (.var 0) .non (.som (nL 63))) [fS (.scr a),s1,s2,s3,s4]=Sb (.fr k0,zL u):=λ{_ _ _ _ _}=>aE (nj (jz rfl (oG (hG (a9 ⟨63,rfl,⟨(.fr bJ,.lst (jh (a.map D.int) Sd (Sb 63))),rfl,by rw[F]⟩⟩)))));let h:∀{Z:Nat->Option Fn} {s1 s2 s3 s4:Option Sl},aa Z (.sl (.var 0) .non (.som (nL 1))) [fS (.scr a),s1,s2,s3,s4]=Sb (.fr k0,zL b):=λ{_ _ _ _ _}=>aE (nj (jz rfl (oG (hG (a9 ⟨1,rfl,⟨(.fr bJ,.lst (jh (a.map D.int) Sd (Sb 1))),rfl,by rw[m]⟩⟩)))));let n:∀{Z:Nat->Option Fn} {s1 s2 s3 s4:Option Sl},aa Z (.sl (.var 0) (.som (nL 1)) (.som (nL 63))) [fS (.scr a),s1,s2,s3,s4]=Sb (.fr k0,zL f):=λ{_ _ _ _ _}=>aE (nj (jz rfl (hG (a9 ⟨1,rfl,hG (a9 ⟨63,rfl,⟨(.fr bJ,.lst (jh (a.map D.int) (Sb 1) (Sb 63))),rfl,by rw[j]⟩⟩)⟩))));show cL ((bW B rfl).trans rfl) (λ_ Y=>∃t s2,(0<=t/\t<2147483629)/\Y=[fS (.scr a),fS (.int t),s2,Sd,Sd]) ⟨5,Sd,⟨by decide,by decide⟩,rfl⟩ (λi d Y e l=>?_) λI l=>?_
 ·obtain⟨t,s2,⟨s,E⟩,rfl⟩:=l;rw[Op] at e
  cases g:u[i]? with
  |none=>rw[g] at e;cases e
  |some z=>
  rw[g] at e;cases e;show⟨[(2,.int z)],rfl,rfl,?_⟩;show aR (eN (by decide) (cG (cG (nr ⟨nD (by lia) (by lia),by nofun⟩ rfl rfl) (eN (by decide) rfl rfl)) rfl) rfl) rfl (by decide) (aQ ⟨_,.inl rfl,_,_,⟨Qi _ (by decide),Qm _ (by decide)⟩,rfl⟩)
 ·obtain⟨t,s2,⟨s,E⟩,rfl⟩:=l;show aR (x:=(.fr k0,zL (b.map (· / 2)++f))) ?_ rfl (by decide) ?_
  ·let v:=GZ (Z:=Z_7.fn) (Y:=[fS (.scr a),fS (.int t),s2,Sd,Sd]) (r:=.fz) (cap:=[Sd,Sd]) (elt:=.bin .FloorDiv (.var 1) (nL 2)) (bW h rfl) (by lia) λz g=>zD rfl (wv (hUq ⟨by decide,by nofun⟩ rfl rfl) ⟨.sh,rfl,rfl⟩);show(vG ⟨rfl,rfl,by rw[On,On];lia⟩ v n).trans ?_;simp only[zL,Oz,OE];rfl
  ·change Wp (aY _ _ _ _ [fS (.scr a),fS (.int t),s2,Sb ⟨Sf,k0,zL (b.map (· / 2)++f)⟩,Sd]) _
   obtain⟨o,w⟩:∃o,aa Z_7.fn (.bool .And (.cons (.cmp .Gt (.blt "len" (.cons (.var 0) .nil)) (nL 0)) (.cons (.cmp .Eq (.bin .Mod (.ix (.var 0) (nL 0)) (nL 2)) (nL 1)) .nil))) [fS (.scr a),fS (.int t),s2,Sb ⟨Sf,k0,zL (b.map (· / 2)++f)⟩,Sd]=Sb (.sh,.bl o):=by
    cases a with
    |nil=>show⟨_,qX (y:=Sf) (gW (wY (jT rfl rfl) rfl)) λe=>by cases e⟩
    |cons c a=>show⟨_,qX (gW (wY (jT rfl rfl) rfl)) λ_=>vH (gW (lW (eN (by decide) KF rfl) rfl))⟩
   show aR w rfl (by decide) ?_;show vT ?_;show bP (x:=(.fr k0,df (CF o (b.map (· / 2)++f) 0 t 40 24))) ?_ rfl (gR rfl (q _ ⟨o,_,0,t,40,rfl,by rw[OF,On];lia,by decide,by decide,s,by lia⟩));show aE (Cf (wv rfl ⟨_,CM Nf rfl ⟨by nofun,by decide,by decide,rfl⟩,rfl⟩))
abbrev iT(E:Str->Nat)(rs:List Row):List d9:=rs.filterMap (GX E)
abbrev mT(E:Str->Nat)(rs:List Row):List Mr:=rs.filterMap (w4 E)
abbrev oT(rs:List Row):List (Str×Fo):=rs.filterMap CA
abbrev zU(E:Str->Nat)(rs:List Row):D:=DG (iT E rs++(mT E rs).map (·.1))
def Gd(L E:Str->Nat)(sc:D)(f:Fo):Prop:=Wf L f/\Al (Pc L (Sc L E sc)) f/\dep f<40
abbrev zV(L E:Str->Nat)(ms:List Mr):List d9:=ms.map λm=>(m.1.1,0,val L E m.2.2)
structure Ok(L E:Str->Nat)(rs:List Row):Prop where
 fits:∀x,E x<2^L x
 len:rs.length<1000
 nod:((iT E rs++(mT E rs).map (·.1)).map (·.1)).Nodup
 nodo:((oT rs).map (·.1)).Nodup
 mem:∀m∈mT E rs,Gd L E (zU E rs) m.2.2
 out:∀q∈oT rs,Gd L E (zU E rs) q.2
noncomputable abbrev hZq(W pn B ins q O bf sc af outs:Option Sl):Ro:=[W,pn,B,ins,q,O,bf,sc,af,Sd,Sd,Sd,Sd,outs]
theorem rm{α:Type}{f:α->Str}:∀{l:List α},cc (l.map λa=>D.str (f a))=Sb (l.map λa=>.inr (f a))
 |[]=>rfl
 |a::l=>by
  rw[OI,cc,rm];rfl
theorem zW{α:Type}{f:α->Str}{l:List α}(h:x∉l.map f):aH (l.map λa=>(.inl (.inr (f a)):DK)) (.inl (.inr x))=Sd:=by
 unfold aH;rw[Qg];intro k hk;obtain⟨p,b,rfl⟩:=Oy.mp hk;show decide_eq_false λe=>h ?_;cases e;show Oy.mpr ⟨p,b,rfl⟩
theorem zX{α:Type}{f:α->Str}{g h:α->D}{F:D->Option (Option (D×D))}:∀(l p:List α),(∀a∈l,F (h a)=Sb (Sb (.str (f a),g a)))->((p++l).map f).Nodup->dU 0 F (l.map h) (p.map (λa=>.inl (.inr (f a))),p.map g)=Sb ((p++l).map (λa=>.inl (.inr (f a))),(p++l).map g)
 |[],p,_,_=>by rw[OZ];rfl
 |a::l,p,H,hn=>by
  let c:f a∉p.map f:=by
   rw[Oz,Qv] at hn;intro hm;show hn.2.2 _ hm _ (Oy.mpr ⟨a,OL,rfl⟩) rfl
  let d:y7 0 (p.map (λa=>.inl (.inr (f a))),p.map g) (.str (f a)) (g a)=Sb ((p++[a]).map (λa=>.inl (.inr (f a))),(p++[a]).map g):=by
   change(match aH (p.map λa=>(.inl (.inr (f a)):DK)) (.inl (.inr (f a))) with|some j=>_|none=>_)=_
   rw[zW c,Oz,Oz];rfl
  rw[OI,dU,H a OL];dsimp only;rw[d];dsimp only;rw[zX l (p++[a]) (λb e=>H b (OH _ e)) (by rw[P2];show hn),P2];rfl
section
variable {rs:List Row} {L E:Str->Nat} {pn:Str}
theorem zY{Z:Nat->Option Fn}(e:∀x,E x<2^L x)(h:Gd L E sc f)(g:Z 8=Sb ψ8)(c:aa Z a Y=Sb (k,dY f))(d:aa Z b Y=Sb (k',sc)):aa Z (.fn 8 (.cons a (.cons b .nil))) Y=Sb (.sh,pD (val L E f) (wid L f)):=
 lV g (e2 c d) rfl rfl (fu e f 40 h.1 h.2.1 h.2.2) rfl
theorem zZ:∃s5,pt 4 (hZq pa nz sta ins (fS (.lst (rs.map rD))) Sd bf sc af Sd)=Sb (.nx (hZq pa nz sta ins (fS (.lst (rs.map rD))) s5 bf sc af Sd)):=by
 have:Wp (pt 4 (hZq pa nz sta ins (fS (.lst (rs.map rD))) Sd bf sc af Sd)) λr=>∃s5,r=.nx (hZq pa nz sta ins (fS (.lst (rs.map rD))) s5 bf sc af Sd):=by
  unfold pt b5;show cL (bW (k:=.sh) rfl rfl) (λ_ Y=>∃s5,Y=hZq pa nz sta ins (fS (.lst (rs.map rD))) s5 bf sc af Sd) ⟨Sd,rfl⟩ (λi d Y e a=>?_) λj a=>?_
  ·obtain⟨s5,rfl⟩:=a;obtain⟨r,_,rfl⟩:=Oy.mp (OK e);obtain⟨l,g⟩:=w5 r;show⟨[(5,rD r)],rfl,rfl,?_⟩
   let h:aq .Eq (.str (q0 r)) (.str "wire")=Sb Sf:=by
    cases r with
    |inp x w=>show(by nofun:aq .Eq (.str "in") (.str "wire")=Sb Sf)
    |mem x w b f=>show(by nofun:aq .Eq (.str "memory") (.str "wire")=Sb Sf)
    |out o f=>show(by nofun:aq .Eq (.str "out") (.str "wire")=Sb Sf)
   let c:aq .Eq (.str (q0 r)) (.str "use")=Sb Sf:=by
    cases r with
    |inp x w=>show(by nofun:aq .Eq (.str "in") (.str "use")=Sb Sf)
    |mem x w b f=>show(by nofun:aq .Eq (.str "memory") (.str "use")=Sb Sf)
    |out o f=>show(by nofun:aq .Eq (.str "out") (.str "use")=Sb Sf)
   rw[g];show ff (gU (cv 0) rfl h) (λe=>by cases e) λ_=>?_;show ff (gU (cv 0) rfl c) (λe=>by cases e) λ_=>?_;show aQ (dz (aQ (dz (aQ ⟨_,.inl rfl,_,rfl⟩))))
  ·obtain⟨s5,rfl⟩:=a;show aQ ⟨s5,rfl⟩
 obtain⟨r,e,s5,rfl⟩:=this;show⟨s5,e⟩
theorem z3{f c b ins g s5:Option Sl}(h:Ok L E rs):∃a,pt 5 (hZq f c b ins (fS (.lst (rs.map rD))) s5 g (Sb ⟨Sf,kS,zU E rs⟩) (Sb ⟨Sf,k0,kG []⟩) Sd)=Sb (.nx (hZq f c b ins (fS (.lst (rs.map rD))) a g (Sb ⟨Sf,kS,zU E rs⟩) (Sb ⟨Sf,k0,kG (zV L E (mT E rs))⟩) Sd)):=by
 let l:((zV L E (mT E rs)).map (·.1)).Nodup:=by
  have:=h.nod.sublist ((Qh (iT E rs) ((mT E rs).map (·.1))).map (·.1));rw[OE] at this⊢;show this
 let o:(zV L E (mT E rs)).length<1000:=by rw[On];show hJ h.len
 have:Wp (pt 5 (hZq f c b ins (fS (.lst (rs.map rD))) s5 g (Sb ⟨Sf,kS,zU E rs⟩) (Sb ⟨Sf,k0,kG []⟩) Sd)) λr=>∃a,r=.nx (hZq f c b ins (fS (.lst (rs.map rD))) a g (Sb ⟨Sf,kS,zU E rs⟩) (Sb ⟨Sf,k0,kG (zV L E (mT E rs))⟩) Sd):=by
  unfold pt b5;show cL (bW (k:=.fr k0) (bM rfl (e2 rfl rfl) rfl rfl (vK (E:=E) h.len) rfl) rfl) (λi Y=>∃a,Y=hZq f c b ins (fS (.lst (rs.map rD))) a g (Sb ⟨Sf,kS,zU E rs⟩) (Sb ⟨Sf,k0,kG ((zV L E (mT E rs)).take i)⟩) Sd) ⟨s5,rfl⟩ (λi d Y e j=>?_) λq j=>?_
  ·obtain⟨a,rfl⟩:=j;rw[Op] at e
   cases hm:(mT E rs)[i]? with
   |none=>rw[hm] at e;cases e
   |some m=>
   rw[hm] at e;cases e;let n:(zV L E (mT E rs))[i]?=Sb (m.1.1,0,val L E m.2.2):=by rw[Op,hm];rfl
   show⟨[(5,gf m)],rfl,rfl,?_⟩;show jS (aN (wv (cv 0 (zY h.fits (h.mem m (OK hm)) rfl (cv 4) rfl)) (qS rfl (wv (cv 1) (f7 rfl rfl rfl (f8 (kF (gA (ge l n)) ?_) ?_))))))
   ·rw[On,OP];lia
   ·show aQ ⟨_,.inl rfl,fS (gf m),?_⟩;rw[bQ n];change _=hZq f c b ins (fS (.lst (rs.map rD))) (fS (gf m)) g (Sb ⟨Sf,kS,zU E rs⟩) (Sb ⟨Sf,k0,.nd (.dic 0 (((zV L E (mT E rs)).take i++[(m.1.1,0,val L E m.2.2)]).map λ(p:d9)=>.inl (.inr p.1))) (((zV L E (mT E rs)).take i++[(m.1.1,0,val L E m.2.2)]).map λ(p:d9)=>iD p.2.2)⟩) Sd;rw[Oz,Oz];rfl
  ·obtain⟨a,rfl⟩:=j;rw[show((mT E rs).map gf).length=(zV L E (mT E rs)).length by rw[On,On],OR];show aQ ⟨a,rfl⟩
 obtain⟨r,e,a,rfl⟩:=this;show⟨a,e⟩
abbrev jX(L E:Str->Nat)(rs:List Row):D:=.nd (.dic 0 ((oT rs).map λq=>.inl (.inr q.1))) ((oT rs).map λq=>pD (val L E q.2) (wid L q.2))
theorem CN(h:Ok L E rs):ψ5 [.nd (.dic 0 [.inl (.inr pn)]) [.lst (rs.map rD)],.str pn,.lst ((mT E rs).map λm=>iD m.1.2.2),.lst ((iT E rs).map λp=>iD p.2.2)]=Sb (.fr kS,.tup [jX L E rs,.lst ((mT E rs).map λm=>iD (val L E m.2.2))]):=by
 unfold ψ5;show(DQ rfl).trans ?_;let v:(((mT E rs).map (·.1)).map (·.1)).Nodup:=h.nod.sublist ((Qh _ _).map _);let M:(mT E rs).length<1000:=hJ h.len;show let i:Option Sl:=fS (.nd (.dic 0 [.inl (.inr pn)]) [.lst (rs.map rD)]);?_;show let g:Option Sl:=fS (.str pn);?_;show let o:Option Sl:=fS (.lst (rs.map rD));?_;show let n:Option Sl:=fS (.lst ((mT E rs).map λm=>iD m.1.2.2));?_;show let d:Option Sl:=fS (.lst ((iT E rs).map λp=>iD p.2.2));?_;show let s:Option Sl:=Sb ⟨Sf,k0,kG ((mT E rs).map (·.1))⟩;?_;show let K:Option Sl:=Sb ⟨Sf,k0,kG []⟩;?_;show let t:Option Sl:=Sb ⟨Sf,kS,zU E rs⟩;?_;show let u:Option Sl:=Sb ⟨Sf,k0,kG (zV L E (mT E rs))⟩;?_
 let X:pt 0 (hZq i g n d Sd Sd Sd Sd Sd Sd)=Sb (.nx (hZq i g n d o Sd Sd Sd Sd Sd)):=by
  unfold pt b5;show vM (aR (i5 (j:=0) rfl rfl rfl rfl ?_ rfl) rfl (by decide) (aQ rfl));unfold aH;simp
 let V:K6 (hZq i g n d o Sd Sd Sd Sd Sd)=Sb (.nx (hZq i g n d o Sd s Sd Sd Sd)):=by
  let z:aP Z_8.fn K5 (hZq i g n d o Sd Sd Sd Sd Sd)=Sb [(.fr (.own [] .fz),.lst ((mT E rs).map λm=>.str m.1.1)),(.sh,.lst ((mT E rs).map λm=>iD m.1.2.2))]:=by
   unfold K5;show e2 (Lo (.inl rfl) (bM rfl (e1 rfl) rfl rfl (oX h.len) rfl) rfl (by lia) λa F=>zD rfl (wv (cv 1) ⟨.sh,rfl,rfl⟩)) rfl
  unfold K6;rw[z]
  let H:Gp (Sb [(.fr (.own [] .fz),.lst ((mT E rs).map λm=>.str m.1.1)),(.sh,.lst ((mT E rs).map λm=>iD m.1.2.2))])=Sb (.fr (.own [] .fz),kG ((mT E rs).map (·.1))):=by
   change(cc ((mT E rs).map λm=>.str m.1.1)).bind (λw=>if decide w.Nodup=Se/\w.length=((mT E rs).map λm=>iD m.1.2.2).length/\Se=Se then Sb (Kd.fr (.own [] .fz),D.nd (.dic 0 (w.map Sum.inl)) ((mT E rs).map λm=>iD m.1.2.2)) else Sd)=_
   rw[rm]
   let hk:((mT E rs).map λm=>(.inr m.1.1:ay)).Nodup:=by
    have:=List.Pairwise.map (f:=λx:Str=>(.inr x:ay)) (S:=(·≠·)) (λa b C e=>C (by injection e)) v;rw[OE,OE] at this;show this
   change(if _ then _ else Sd)=_
   rw[if_pos ⟨decide_eq_true hk,by rw[On,On],rfl⟩];unfold kG;rw[OE,OE,OE];rfl
  rw[H];rfl
 let N:pt 2 (hZq i g n d o Sd s Sd Sd Sd)=Sb (.nx (hZq i g n d o Sd s t Sd Sd)):=by
  unfold pt b5;show vM (aR (lV rfl (e3 rfl rfl rfl) ?_ rfl (zH h.nod ?_ (vJ h.len) (vK h.len) (vL h.len)) rfl) rfl (by decide) (aQ rfl))
  ·show Kv
  ·have:(iT E rs).length+(mT E rs).length<=rs.length:=gg rs;have:=h.len;rw[OF,On];lia
 let Z:pt 3 (hZq i g n d o Sd s t Sd Sd)=Sb (.nx (hZq i g n d o Sd s t K Sd)):=rfl;obtain⟨s5,T⟩:=zZ;obtain⟨c,W⟩:=z3 h
 let Q:pt 6 (hZq i g n d o c s t u Sd)=Sb (.nx (hZq i g n d o c s t u Sd)):=by
  unfold pt b5;show vM (oW (bW (k:=.fr k0) (bM rfl (e2 rfl rfl) rfl rfl (vL h.len) rfl) rfl) (aQ rfl))
 let O:K8 (hZq i g n d o c s t u Sd)=Sb (.nx (hZq i g n d o c s t u (Sb ⟨Sf,k0,jX L E rs⟩))):=by
  unfold K8;rw[show cw Z_8.fn M0 (hZq i g n d o c s t u Sd)=Sb ([],(oT rs).map λq=>qZ q.1 q.2) from bW (k:=.fr k0) (bM rfl (e2 rfl rfl) rfl rfl (CB h.len) rfl) rfl]
  let z:∀q∈oT rs,i0 (.nm 1) (λ_=>Sb Se) (aa Z_8.fn K7) (aa Z_8.fn HV) (bi (hZq i g n d o c s t u Sd) [Sd,Sd,Sd,Sb 7]) (qZ q.1 q.2)=Sb (Sb (.str q.1,pD (val L E q.2) (wid L q.2))):=λq P=>by
   let I:aa Z_8.fn HV [Sd,fS (qZ q.1 q.2),Sd,t]=Sb (.sh,pD (val L E q.2) (wid L q.2)):=zY h.fits (h.out q P) rfl (cv 2) rfl
   change(match aa Z_8.fn HV [Sd,fS (qZ q.1 q.2),Sd,t] with|some y=>if i7 y.1 y.2=Se then Sb (Sb (D.str q.1,y.2)) else Sd|none=>Sd)=_
   rw[I];rfl
  let R:=zX (oT rs) [] z h.nodo
  change lJ [] 13 ((if((oT rs).map λq=>qZ q.1 q.2).length<=100000 then(match dU 0 (i0 (.nm 1) (λ_=>Sb Se) (aa Z_8.fn K7) (aa Z_8.fn HV) (bi (hZq i g n d o c s t u Sd) [Sd,Sd,Sd,Sb 7])) ((oT rs).map λq=>qZ q.1 q.2) ([],[]) with|some a=>Sb (Kd.fr (.own [] .fz),D.nd (.dic 0 a.1) a.2)|none=>Sd) else Sd).map _)=_
  rw[if_pos (by rw[On];have:(oT rs).length<1000:=tP h.len;lia),show dU 0 _ ((oT rs).map λq=>qZ q.1 q.2) ([],[])=_ from R];rfl
 let A:∃Y,pt 8 (hZq i g n d o c s t u (Sb ⟨Sf,k0,jX L E rs⟩))=Sb (.rt (.fr kS) (.tup [jX L E rs,.lst ((mT E rs).map λm=>iD (val L E m.2.2))]) Y):=by
  have:Wp (pt 8 (hZq i g n d o c s t u (Sb ⟨Sf,k0,jX L E rs⟩))) λr=>∃Y,r=.rt (.fr kS) (.tup [jX L E rs,.lst ((mT E rs).map λm=>iD (val L E m.2.2))]) Y:=by
   unfold pt b5;show cu (bX (aL (dW rfl (wv (e1 (Lo (l:=mT E rs) (.inl rfl) (bM rfl (e1 rfl) rfl rfl (oX h.len) rfl) rfl (by lia) λa F=>zD rfl ?_)) (bY rfl ⟨rfl,_,rfl⟩)))))
   let B:((zV L E (mT E rs)).map (·.1)).Nodup:=by
    rw[OE] at v⊢;show v
   obtain⟨j,U,f2⟩:=eO (Oy.mpr ⟨a,F,rfl⟩) B;show wv (i5 rfl (cv 1) rfl rfl U (by rw[Op,f2];rfl)) ⟨_,rfl,rfl⟩
  obtain⟨r,e,Y,rfl⟩:=this;show⟨Y,e⟩
 obtain⟨Y8,A⟩:=A;change g9 (Ke (hZq i g n d Sd Sd Sd Sd Sd Sd))=_;unfold Ke;rw[X];dsimp only[bT];rw[V];dsimp only[bT];rw[N];dsimp only[bT];rw[Z];dsimp only[bT];rw[T];dsimp only[bT];rw[W];dsimp only[bT];rw[Q];dsimp only[bT];rw[O];dsimp only[bT];rw[A];rfl
abbrev cH(rs:List Row)(pn:Str):D:=.lst [.tup [.str pn,.lst (rs.map rD)]]
theorem DX{α:Type}{f:D->Ro->Option (Option KD×Ro)}{h g:α->D}:∀(l:List α),(∀a∈l,∃kd,f (h a) Y=Sb (Sb (kd,g a),Y)/\bE r (kd,g a)=Se)->az r f (l.map h) Y=Sb (l.map g,Y)
 |[],_=>rfl
 |a::l,H=>by
  obtain⟨kd,e,d⟩:=H a OL;rw[OI,az,e];dsimp only;rw[if_pos d,DX l λb c=>H b (OH _ c)];rfl
theorem CP(h:Ok L E rs):ψ2 [cH rs pn,.str pn,.lst ((mT E rs).map λm=>iD m.1.2.2),.lst ((iT E rs).map λp=>iD p.2.2)]=Sb (.fr kS,.tup [.lst ((oT rs).map λq=>iD (val L E q.2)),.lst ((mT E rs).map λm=>iD (val L E m.2.2))]):=by
 unfold ψ2;show(DQ rfl).trans ?_;show let b:D:=.lst ((mT E rs).map λm=>iD m.1.2.2);?_;show let a:D:=.lst ((iT E rs).map λp=>iD p.2.2);?_;show let c:D:=.lst ((mT E rs).map λm=>iD (val L E m.2.2));?_
 let d:aY Z_5 1000 (tJ b2 0) [] [fS (cH rs pn),fS (.str pn),fS b,fS a,Sd,Sd]=Sb (.nx [fS (cH rs pn),fS (.str pn),fS b,fS a,Sb ⟨Sf,k0,jX L E rs⟩,Sb ⟨Sf,k0,c⟩]):=by
  unfold b2;show vM (oN (aN (wv (bM (kds:=[(.fr k0,.nd (.dic 0 [.inl (.inr pn)]) [.lst (rs.map rD)]),(.sh,.str pn),(.sh,b),(.sh,a)]) rfl (e4 ?_ rfl rfl rfl) rfl rfl (CN h) rfl) ⟨_,_,_,rfl,rfl,⟨rfl,rfl⟩,aQ rfl⟩)));rfl
 let e:M1 [fS (cH rs pn),fS (.str pn),fS b,fS a,Sb ⟨Sf,k0,jX L E rs⟩,Sb ⟨Sf,k0,c⟩]=Sb (.fr (.own [] .fz),.lst ((oT rs).map λq=>iD (val L E q.2)),[fS (cH rs pn),fS (.str pn),fS b,fS a,Sd,Sb ⟨Sf,k0,c⟩]):=by
  let hm:=DX (r:=.fz) (f:=eX [Sd,Sd,Sd] (.tp [.nm 1,.nm 2]) (λY=>Sb (Se,Y)) (aO Z_5 (.p (.var 1)))) (h:=λq:Str×Fo=>pD (val L E q.2) (wid L q.2)) (Y:=[Sd,Sd,Sd]) (oT rs) λq _=>⟨.sh,rfl,rfl⟩
  let hl:((oT rs).map λq=>pD (val L E q.2) (wid L q.2)).length<=100000:=by
   rw[On];have:(oT rs).length<1000:=tP h.len;lia
  change(if([]:List Nat)=[]/\((oT rs).map λq=>pD (val L E q.2) (wid L q.2)).length<=100000 then(match az .fz (eX [Sd,Sd,Sd] (.tp [.nm 1,.nm 2]) (λY=>Sb (Se,Y)) (aO Z_5 (.p (.var 1)))) ((oT rs).map λq=>pD (val L E q.2) (wid L q.2)) [Sd,Sd,Sd] with|some (ys,Yc)=>if Yc.length=3 then Sb (Kd.fr (.own [] .fz),D.lst ys,dt (iS [Sd,Sd,Sd]) Yc [fS (cH rs pn),fS (.str pn),fS b,fS a,Sd,Sb ⟨Sf,k0,c⟩]) else Sd|none=>Sd) else Sd)=_
  rw[if_pos ⟨rfl,hl⟩,hm];rfl
 change g9 (Kf [fS (cH rs pn),fS (.str pn),fS b,fS a,Sd,Sd])=_;unfold Kf;rw[d];dsimp only[bT];unfold M3 M2;rw[e];rfl
theorem z6(hl:rs.length<1000):ψ4 [.nd (.dic 0 [.inl (.inr pn)]) [.lst (rs.map rD)],.str pn]=Sb (.fr k0,.lst ((mT E rs).map λm=>iD m.2.1)):=by
 unfold ψ4;show c6 rfl ?_;unfold b4;let b:aH [(.inl (.inr pn):DK)] (.inl (.inr pn))=Sb 0:=by unfold aH;simp
 show aR rfl rfl (by decide) ?_;show cL (bW (bM rfl (e1 (i5 rfl rfl rfl rfl b rfl)) rfl rfl (oX (E:=E) hl) rfl) rfl) (λi Y=>∃s3,Y=[fS (.nd (.dic 0 [.inl (.inr pn)]) [.lst (rs.map rD)]),fS (.str pn),Sb ⟨Sf,k0,.lst (((mT E rs).take i).map λm=>iD m.2.1)⟩,s3]) ⟨Sd,rfl⟩ (λi d Y e a=>?_) λc a=>?_
 ·obtain⟨s3,rfl⟩:=a;rw[Op] at e
  cases hm:(mT E rs)[i]? with
  |none=>rw[hm] at e;cases e
  |some m=>
  rw[hm] at e;cases e;show⟨[(3,gf m)],rfl,rfl,?_⟩;show ff (gU (cv 0) rfl (by nofun:aq .Eq (.str "memory") (.str "memory")=Sb Se)) (λ_=>?_) λe=>by cases e
  show eL (i6 rfl (cv 3) rfl ?_ ?_)
  ·have:(mT E rs).length<1000:=hJ hl;rw[On,OP];lia
  ·show aQ (dz (aQ ⟨_,.inl rfl,fS (gf m),?_⟩));rw[bQ hm,Oz];rfl
 ·obtain⟨s3,rfl⟩:=a;rw[On,OR];show cu (dW rfl ⟨rfl,bH rfl rfl⟩)
theorem rn(hl:rs.length<1000):ψ1 [cH rs pn,.str pn]=Sb (.fr k0,.lst ((mT E rs).map λm=>iD m.2.1)):=by
 unfold ψ1;show c6 rfl ?_;unfold b1;show bP (bM rfl (e2 rfl rfl) rfl rfl (z6 hl) rfl) rfl (bH rfl rfl)
theorem kI{α:Type}{n:Nat}{f:α->Nat}(l:List α)(hl:l.length<1000):sm (n+2) [.lst (l.map λa=>iD (f a)),.lst (l.map λa=>iD (f a))]=Sb (.sh,.bl Se):=by
 show c6 rfl ?_;unfold HU;show ff (no rfl rfl) (λ_=>?_) λe=>by cases e
 show ab ?_ ?_
 ·show tL (jJ (no (x:=Se) rfl rfl)) λ_=>jU ?_;have:=GO (Z:=(Z_29.addI 30 (sm (n+1))).fn) (Y:=[fS (.lst (l.map λa=>iD (f a))),fS (.lst (l.map λa=>iD (f a)))]) (a:=.blt "len" (.cons (.var 0) .nil)) (b:=.blt "len" (.cons (.var 1) .nil)) (jT rfl rfl) (jT rfl rfl);show this.trans (by simp)
 ·show bP (x:=(.sh,.bl Se)) ?_ rfl (fq (bH rfl rfl));let h:=GZ (Z:=(Z_29.addI 30 (sm (n+1))).fn) (Y:=[fS (.lst (l.map λa=>iD (f a))),fS (.lst (l.map λa=>iD (f a)))]) (bs:=[]) (r:=.fz) (cap:=[Sd,Sd,Sd,Sd]) (it:=.zp (.var 0) (.var 1)) (elt:=.fn 30 (.cons (.var 1) (.cons (.var 2) .nil))) ((nq rfl rfl rfl rfl).trans (by rw[kC];rfl)) (by lia) λa d=>M9 rfl (wv (bM rfl (e2 rfl rfl) rfl rfl G8 rfl) ⟨.sh,rfl,rfl⟩);let c:=Ko (h.trans (by rw[OE];rfl));show c.trans (by rw[show(l.map λ_=>Se).all id=Se by simp])
theorem CQ{α:Type}{f:α->Nat}(l:List α)(hl:l.length<1000):NW [.lst (l.map λa=>iD (f a))]=Sb (.fr k0,.lst (l.map λa=>iD (f a))):=by
 change ci (Z_30.addI 31 _) 1000 1 1 K2 [.lst (l.map λa=>iD (f a))]=_;show c6 rfl ?_;unfold K2;show bP (Lo (.inl rfl) rfl rfl (by lia) λa b=>zD rfl (wv (qY (no rfl rfl) (λe=>by cases e) λ_=>rfl) ⟨.sh,rfl,rfl⟩)) rfl (bH rfl rfl)
noncomputable def Lq:Row->Bool
 |.mem _ _ _ _=>Se
 |_=>Sf
theorem z7(r:Row):aq .Eq (.str (q0 r)) (.str "memory")=Sb (Lq r):=by
 cases r with
 |inp x w=>show(by nofun:aq .Eq (.str "in") (.str "memory")=Sb Sf)
 |mem x w b f=>show(by nofun:aq .Eq (.str "memory") (.str "memory")=Sb Se)
 |out o f=>show(by nofun:aq .Eq (.str "out") (.str "memory")=Sb Sf)
theorem Hs(h1:aq .Eq (.str "in") (.str s)=Sb Sf)(h2:aq .Eq (.str "memory") (.str s)=Sb Sf)(a:aq .Eq (.str "out") (.str s)=Sb Sf)(r:Row):aq .Eq (.str (q0 r)) (.str s)=Sb Sf:=by
 cases r
 ·show h1
 ·show h2
 ·show a
theorem t5(r:Row):aq .Eq (.str (q0 r)) (.str "rooms")=Sb Sf:=Hs (by nofun) (by nofun) (by nofun) r
theorem vU(r:Row):aq .Eq (.str (q0 r)) (.str "use")=Sb Sf:=Hs (by nofun) (by nofun) (by nofun) r
theorem Ht(r:Row):aq .Eq (.str (q0 r)) (.str "wire")=Sb Sf:=Hs (by nofun) (by nofun) (by nofun) r
theorem z8(h:aa Z a Y=Sb (.sh,rD r)):aa Z (.ix a (nL 0)) Y=Sb (.sh,.str (q0 r)):=by
 obtain⟨b,e⟩:=w5 r;rw[e] at h;show cv 0 h
theorem b7(h:aa Z a Y=Sb (.sh,rD r))(b:aq .Eq (.str (q0 r)) (.str s)=Sb z):aD Z (.cmp .Eq (.ix a (nL 0)) (sL s)) Y=Sb z:=gU (z8 h) rfl b
theorem vV{i:Nat}(h:rs[i]?=Sb r):mT E (rs.take (i+1))=mT E (rs.take i)++(w4 E r).toList:=by
 rw[bQ h];change List.filterMap _ _=_;rw[Py]
 cases r<;>rfl
abbrev ee(rs:List Row)(pn:Str)(od:D):D:=.nd (.dic 0 [.inl (.inr pn)]) [.tup [.lst (rs.map rD),od]]
theorem l6(d:aa Z a Y=Sb (.sh,ee rs pn od))(e:aa Z b Y=Sb (.sh,.str pn)):aa Z (.ix (.ix a b) (nL 0)) Y=Sb (.sh,.lst (rs.map rD)):=by
 let c:aH [(.inl (.inr pn):DK)] (.inl (.inr pn))=Sb 0:=by unfold aH;simp
 show cv 0 (i5 d e rfl rfl c rfl)
theorem rq(hl:rs.length<1000):Lh [ee rs pn od,.str pn]=Sb (.fr k0,.lst ((mT E rs).map λm=>iD m.2.1)):=by
 unfold Lh;show c6 rfl ?_;unfold MK;show aR rfl rfl (by decide) ?_;show cL (bW (l6 rfl rfl) rfl) (λi Y=>∃s3,Y=[fS (ee rs pn od),fS (.str pn),Sb ⟨Sf,k0,.lst ((mT E (rs.take i)).map λm=>iD m.2.1)⟩,s3]) ⟨Sd,rfl⟩ (λi d Y e h=>?_) λk h=>?_
 ·obtain⟨s3,rfl⟩:=h;rw[Op] at e
  cases g:rs[i]? with
  |none=>rw[g] at e;cases e
  |some r=>
  rw[g] at e;cases e;show⟨[(3,rD r)],rfl,rfl,?_⟩
  let a:∀j,Wp (aY Z_23 1000 (.cons (.ifs (.p (.cmp .Eq (.ix (.var 3) (nL 0)) (sL "rooms"))) (.cons .stk .nil) .nil) (.cons (.ifs (.p (.cmp .Eq (.ix (.var 3) (nL 0)) (sL "use"))) (.cons .stk .nil) .nil) .nil)) [] [fS (ee rs pn od),fS (.str pn),j,fS (rD r)]) λx=>x=.nx [fS (ee rs pn od),fS (.str pn),j,fS (rD r)]:=λj=>
   ab (b7 rfl (t5 r)) (ab (b7 rfl (vU r)) (aQ rfl))
  show ff (b7 rfl (z7 r)) (λc=>?_) λc=>?_
  ·cases r with
   |inp x w=>cases c
   |out o f=>cases c
   |mem x w b f=>
   show eL (i6 rfl (cv 3) rfl ?_ ?_)
   ·have:(mT E (rs.take i)).length<1000:=hJ (by rw[OP];lia);rw[On];lia
   ·show aQ (dz ((a _).mono λ_ e=>⟨_,.inl e,fS (rD (.mem x w b f)),?_⟩));rw[vV g,Oz];rfl
  ·show aQ (dz ((a _).mono λ_ e=>⟨_,.inl e,fS (rD r),?_⟩));rw[vV g]
   cases r with
   |inp x w=>rw[show(w4 E (.inp x w)).toList=[] from rfl,OZ]
   |out o f=>rw[show(w4 E (.out o f)).toList=[] from rfl,OZ]
   |mem x w b f=>cases c
 ·obtain⟨s3,rfl⟩:=h;rw[On,OR];show cu (dW rfl ⟨rfl,bH rfl rfl⟩)
end
noncomputable abbrev j8(x:Str):DK:=.inr [.inl (.inr "name"),.inl (.inr x)]
abbrev HW(tr:List d9):D:=.nd (.dic 1 (tr.map λp=>j8 p.1)) (tr.map λp=>bL (cx p.2.2 p.2.1))
theorem l7{l:List d9}(h:x∉l.map (·.1)):aH (l.map λp=>j8 p.1) (j8 x)=Sd:=by
 unfold aH;rw[Qg];intro k hk;obtain⟨p,a,rfl⟩:=Oy.mp hk;show decide_eq_false λe=>h ?_;injection e with e;injection e with _ e;injection e with e _;injection e with e;injection e with e;rw[<- e];show Oy.mpr ⟨p,a,rfl⟩
theorem l8:∀{l:List d9} {p:d9},p∈l->(l.map (·.1)).Nodup->∃j,aH (l.map λp=>j8 p.1) (j8 p.1)=Sb j/\l[j]?=Sb p
 |q::l,p,h,hn=>by
  rw[OI,OX] at hn;unfold aH;rw[OI,O3];rcases OD.mp h with rfl|h
  ·show⟨0,by simp,rfl⟩
  ·let a:¬j8 q.1=j8 p.1:=λe=>hn.1 (Oy.mpr ⟨p,h,by
    injection e with e;injection e with _ e;injection e with e _;injection e with e;injection e with e;show e.symm⟩)
   obtain⟨j,e1,e2⟩:=l8 h hn.2;unfold aH at e1;show⟨j+1,?_,e2⟩;rw[if_neg (by simpa using a),e1];rfl
theorem nE{a:List DK}{ds:List D}{d:D}(h:aH a (j8 x)=Sd)(hl:ds.length<100000):my [] .fz (.dic 1 a) ds (Lp x) (.fr k0,d)=Sb (.dic 1 (a++[j8 x]),ds++[d]):=by
 change(if jg 1 (j8 x)=Se/\ds.length<100000 then(match aH a (j8 x) with
   |some j=>if bE (([]:List Ow).getD j .fz) (.fr k0,d)=Se/\a.Nodup/\j<ds.length then Sb (Hd.dic 1 a,ds.set j d) else Sd
   |none=>if([]:List Ow).length<=ds.length/\bE .fz (.fr k0,d)=Se then Sb (Hd.dic 1 (a++[j8 x]),ds++[d]) else Sd) else Sd)=_
 rw[if_pos ⟨rfl,hl⟩,h];show if_pos ⟨OS _,rfl⟩
section
variable {rs:List Row} {L E:Str->Nat} {pn:Str}
theorem Hu(hl:rs.length<1000):(rs.map rD).filter (tW "in")=(iT E rs).map DO:=by
 have:=(lY (by nofun) hl).symm.trans (vJ (E:=E) hl);injection this with this;injection this with _ this;injection this with _ this
theorem Hv(g:cC 90 (.str w)=Se)(f:aa Z a Y=Sb (.sh,.lst (rs.map rD)))(hl:rs.length<1000):aa Z (.comp .fz [Sd,Sd] (.nm 1) (.e a) (.som (.cmp .Eq (.ix (.var 1) (nL 0)) (sL w))) (.var 1)) Y=Sb (.fr k0,.lst ((rs.map rD).filter (tW w))):=by
 show Cw f (by rw[On];lia) λd c=>?_;obtain⟨r,_,rfl⟩:=Oy.mp c;obtain⟨i,e⟩:=w5 r;obtain⟨z,b⟩:=NZ (zI r) g
 let h:tW w (rD r)=z:=by
  rw[e];change(aq .Eq (.str (q0 r)) (.str w)==Sb Se)=z
  rw[b];cases z<;>rfl
 rw[h];show⟨.sh,vI rfl (b7 rfl b) rfl,rfl⟩
theorem KG(r:Row):aq .In (.str (q0 r)) (.tup [.str "memory",.str "rooms",.str "use"])=Sb (Lq r):=by
 cases r with
 |inp x w=>show(by nofun:aq .In (.str "in") (.tup [.str "memory",.str "rooms",.str "use"])=Sb Sf)
 |mem x w b f=>show(by nofun:aq .In (.str "memory") (.tup [.str "memory",.str "rooms",.str "use"])=Sb Se)
 |out o f=>show(by nofun:aq .In (.str "out") (.tup [.str "memory",.str "rooms",.str "use"])=Sb Sf)
theorem DY(r:Row):tS (rD r)=Lq r:=by
 obtain⟨a,e⟩:=w5 r;rw[e];change(aq .In (.str (q0 r)) (.tup [.str "memory",.str "rooms",.str "use"])==Sb Se)=_
 rw[KG r];cases Lq r<;>rfl
theorem CS(g:aa Z a Y=Sb (.sh,.lst (rs.map rD)))(hl:rs.length<1000):aa Z (.comp .fz [Sd,Sd] (.nm 1) (.e a) (.som (.cmp .In (.ix (.var 1) (nL 0)) (.tup .fz (.cons (sL "memory") (.cons (sL "rooms") (.cons (sL "use") .nil)))))) (.var 1)) Y=Sb (.fr k0,.lst ((mT E rs).map gf)):=by
 let h:(rs.map rD).filter tS=(mT E rs).map gf:=jW (λr=>by
  rw[DY]
  cases r with
  |inp x w=>show .inr ⟨rfl,rfl⟩
  |mem x w b f=>show .inl ⟨_,rfl,rfl,rfl⟩
  |out o f=>show .inr ⟨rfl,rfl⟩) rs
 rw[<- h];show Cw g (by rw[On];lia) λd c=>?_;obtain⟨r,_,rfl⟩:=Oy.mp c;rw[DY];show⟨.sh,vI rfl (gU (z8 rfl) rfl (KG r)) rfl,rfl⟩
theorem z9(hl:rs.length<1000)(hn:((iT E rs++(mT E rs).map (·.1)).map (·.1)).Nodup)(j:∀p∈iT E rs++(mT E rs).map (·.1),p.2.1<=8):Lj [.lst (rs.map rD),.lst ((iT E rs).map λp=>iD p.2.2),.lst ((mT E rs).map λm=>iD m.1.2.2)]=Sb (.sh,.tup [HW (iT E rs++(mT E rs).map (·.1)),.nd (.dic 0 []) []]):=by
 let f:((iT E rs).map (·.1)).Nodup:=hn.sublist ((Q0 _ _).map _);let o:(iT E rs).length+(mT E rs).length<=rs.length:=gg rs;show let k:Option Sl:=fS (.lst (rs.map rD));?_;show let h:Option Sl:=fS (.lst ((iT E rs).map λp=>iD p.2.2));?_;show let l:Option Sl:=fS (.lst ((mT E rs).map λm=>iD m.1.2.2));?_;show let e4:Option Sl:=Sb ⟨Sf,k0,.nd (.dic 0 []) []⟩;?_;unfold Lj;show c6 rfl ?_;unfold ML;show aR rfl rfl (by decide) ?_;show aR rfl rfl (by decide) ?_;show cL ((nq (xs:=(iT E rs).map DO) ((Hv (by nofun) rfl hl).trans (by rw[Hu hl])) rfl rfl rfl).trans (by rw[kC];rfl)) (λi Y=>∃s5 s6,Y=[k,h,l,Sb ⟨Sf,k0,HW ((iT E rs).take i)⟩,e4,s5,s6,Sd,Sd,Sd]) ⟨Sd,Sd,rfl⟩ (λi d Y e b=>?_) λn b=>?_
 ·obtain⟨s5,s6,rfl⟩:=b;rw[Op] at e
  cases a:(iT E rs)[i]? with
  |none=>rw[a] at e;cases e
  |some p=>
  rw[a] at e;cases e;show⟨[(5,DO p),(6,iD p.2.2)],rfl,rfl,?_⟩;show jS (aN (wv (bM rfl (e2 rfl (cv 2)) rfl rfl (oY (by have:=j p (O5 _ (OK a));lia)) rfl) (qS rfl (wv (ck rfl (cv 1)) (f7 rfl rfl rfl (f8 (nE (l7 (ge f a)) ?_) ?_))))))
  ·rw[On,OP];lia
  ·show aQ ⟨_,.inl rfl,fS (DO p),fS (iD p.2.2),?_⟩;rw[bQ a];simp only[HW,Oz];rfl
 ·obtain⟨s5,s6,rfl⟩:=b;rw[On,OR];show cL ((nq (CS rfl hl) rfl rfl rfl).trans (by rw[kC];rfl)) (λi Y=>∃s5 s6 g,Y=[k,h,l,Sb ⟨Sf,k0,HW ((iT E rs++(mT E rs).map (·.1)).take ((iT E rs).length+i))⟩,e4,s5,s6,g,Sd,Sd]) ⟨_,_,Sd,by rw[Nat.add_zero,List.take_left];rfl⟩ (λi d Y e b=>?_) λn b=>?_
  ·obtain⟨s5,s6,g,rfl⟩:=b;rw[Op] at e
   cases a:(mT E rs)[i]? with
   |none=>rw[a] at e;cases e
   |some m=>
   rw[a] at e;cases e
   let c:(iT E rs++(mT E rs).map (·.1))[(iT E rs).length+i]?=Sb m.1:=by
    rw[Pf (Pd _ _),Qr,Op,a];rfl
   show⟨[(5,gf m),(7,iD m.1.2.2)],rfl,rfl,?_⟩;show ff (gU (cv 0) rfl (by nofun:aq .Eq (.str "memory") (.str "memory")=Sb Se)) (λ_=>?_) λe=>by cases e
   show jS (aN (wv (bM rfl (e2 rfl (cv 2)) rfl rfl (oY (by have:=j m.1 (OK c);lia)) rfl) (qS rfl (wv (ck rfl (cv 1)) (f7 rfl rfl rfl (f8 (nE (l7 (ge hn c)) ?_) ?_))))))
   ·rw[On,OP,OF,On];lia
   ·show aQ (dz (ab (gU (cv 0) rfl (by nofun:aq .Eq (.str "memory") (.str "rooms")=Sb Sf)) (ab (gU (cv 0) rfl (by nofun:aq .Eq (.str "memory") (.str "use")=Sb Sf)) (aQ ⟨_,.inl rfl,fS (gf m),s6,fS (iD m.1.2.2),?_⟩))));rw[<- P9,bQ c];simp only[HW,Oz];rfl
  ·obtain⟨s5,s6,g,rfl⟩:=b;rw[show((mT E rs).map λm=>D.tup [gf m,iD m.1.2.2]).length=((mT E rs).map (·.1)).length by rw[On,On],<- OF,OR];show cu (bX (au (dW rfl ⟨rfl,aL (dW rfl (aG (bY rfl ⟨rfl,bH rfl rfl⟩)))⟩)))
def Gk(L E:Str->Nat)(kn:D)(f:Fo):Prop:=Wf L f/\Al (Pc L (Kn L E kn)) f/\dep f<40
theorem DZ{Z:Nat->Option Fn}(m:∀x,E x<2^L x)(h:Gk L E kn f)(c:Z 20=Sb Kg)(g:Z 23=Sb M4)(j:aa Z a Y=Sb (.sh,dY f))(l:aa Z b Y=Sb (.sh,kn)):aa Z (.fn 20 (.cons (.fn 23 (.cons a (.cons b .nil))) .nil)) Y=Sb (.sh,iD (val L E f)):=by
 obtain⟨⟨k,d⟩,e,hk,i⟩:=fv m f 40 h.1 h.2.1 h.2.2;obtain⟨n,w2⟩:=aK L E m f h.1;let hl:(c5 L E f).length<=64:=by rw[n,aC];have:=h.2.1.at.1;lia
 dsimp only at hk i;subst i;let hn:num (c5 L E f)=val L E f:=by rw[n];show vC _ _ w2
 rw[<- hn];rcases hk with rfl|rfl
 ·show bM c (e1 (bM g (e2 j l) rfl rfl e rfl)) rfl rfl (ny hl) rfl
 ·show bM c (e1 (bM g (e2 j l) rfl rfl e rfl)) rfl rfl (ny hl) rfl
theorem Aa{α:Type}{b:D->Option (Option KD)}{g:Row->Option α}{h:α->D}:∀rs:List Row,(∀x∈rs,(∃a kd,g x=Sb a/\b (rD x)=Sb (Sb (kd,h a))/\bE r (kd,h a)=Se)\/(g x=Sd/\b (rD x)=Sb Sd))->aT r b (rs.map rD)=Sb ((rs.filterMap g).map h)
 |[],_=>rfl
 |x::rs,H=>by
  let d:=Aa rs λy f=>H y (OH _ f);rw[OI,aT];rcases H x OL with⟨a,kd,e,c,i⟩|⟨e,c⟩
  ·rw[c,Q1 e,d];show if_pos i
  ·rw[c,Q2 e,d]
section
variable {Z:Nat->Option Fn} {t e:IE} {Y0:Ro} {d y:D} {kd:Kd}
theorem vW(hn:bA [(1,d)] Y0=Se)(b:aD Z t (setAll [(1,d)] Y0)=Sb Se)(a:aa Z e (setAll [(1,d)] Y0)=Sb (kd,y)):dP (.nm 1) (cD Z (.som t)) (aa Z e) Y0 d=Sb (Sb (kd,y)):=by
 change(if bA [(1,d)] Y0=Se then(match aD Z t (setAll [(1,d)] Y0) with|some Se=>(aa Z e (setAll [(1,d)] Y0)).map Sb|some Sf=>Sb Sd|none=>Sd) else Sd)=_
 rw[if_pos hn,b,a];rfl
theorem o3(hn:bA [(1,d)] Y0=Se)(a:aD Z t (setAll [(1,d)] Y0)=Sb Sf):dP (.nm 1) (cD Z (.som t)) (aa Z e) Y0 d=Sb Sd:=by
 change(if bA [(1,d)] Y0=Se then(match aD Z t (setAll [(1,d)] Y0) with|some Se=>(aa Z e (setAll [(1,d)] Y0)).map Sb|some Sf=>Sb Sd|none=>Sd) else Sd)=_
 rw[if_pos hn,a]
end
noncomputable abbrev kT(E:Str->Nat)(rs:List Row):D:=HW (iT E rs++(mT E rs).map (·.1))
structure Ng(L E:Str->Nat)(rs:List Row):Prop where
 ok:Ok L E rs
 wd:∀p∈iT E rs++(mT E rs).map (·.1),p.2.1<=8
 memk:∀m∈mT E rs,Gk L E (kT E rs) m.2.2
 outk:∀q∈oT rs,Gk L E (kT E rs) q.2
noncomputable abbrev Ab(W pn st ins q kn B O la:Option Sl):Ro:=[W,pn,st,ins,q,kn,B,O,Sd,Sd,Sd,Sd,la]
theorem w9(h:Ng L E rs):Lk [ee rs pn od,.str pn,.lst ((mT E rs).map λm=>iD m.1.2.2),.lst ((iT E rs).map λp=>iD p.2.2)]=Sb (.sh,.tup [.lst ((oT rs).map λq=>iD (val L E q.2)),.lst ((mT E rs).map λm=>iD (val L E m.2.2))]):=by
 let hl:=h.ok.len;show let n:Option Sl:=fS (ee rs pn od);?_;show let s:Option Sl:=fS (.str pn);?_;show let y:Option Sl:=fS (.lst ((mT E rs).map λm=>iD m.1.2.2));?_;show let v:Option Sl:=fS (.lst ((iT E rs).map λp=>iD p.2.2));?_;show let j:Option Sl:=fS (.lst (rs.map rD));?_;show let t:Option Sl:=fS (kT E rs);?_;show let u:Option Sl:=fS (.nd (.dic 0 []) []);?_;unfold Lk;show c6 rfl ?_;unfold MM;show aR (l6 rfl rfl) rfl (by decide) ?_;show tM (bM rfl (e3 rfl rfl rfl) rfl rfl (z9 hl h.ok.nod h.wd) rfl) rfl ?_;show cL (bW (k:=.sh) rfl rfl) (λi Y=>∃a,Y=Ab n s y v j t u a Sd) ⟨Sd,rfl⟩ (λi d Y e c=>?_) λB c=>?_
 ·obtain⟨a,rfl⟩:=c;obtain⟨r,_,rfl⟩:=Oy.mp (OK e);show⟨[(7,rD r)],rfl,rfl,ab (b7 rfl (Ht r)) (ab (b7 rfl (vU r)) (aQ ⟨_,.inl rfl,fS (rD r),rfl⟩))⟩
 obtain⟨a,rfl⟩:=c;show aR rfl rfl (by decide) ?_;show cL (bW (k:=.sh) rfl rfl) (λi Y=>∃a,Y=Ab n s y v j t u a (Sb ⟨Sf,k0,.lst ((mT E (rs.take i)).map λm=>iD (val L E m.2.2))⟩)) ⟨a,rfl⟩ (λi d Y e c=>?_) λB c=>?_
 ·obtain⟨a,rfl⟩:=c;rw[Op] at e
  cases g:rs[i]? with
  |none=>rw[g] at e;cases e
  |some r=>
  rw[g] at e;cases e;show⟨[(7,rD r)],rfl,rfl,?_⟩
  let l:∀A,Wp (aY Z_26 1000 (.cons (.ifs (.p (.cmp .Eq (.ix (.var 7) (nL 0)) (sL "rooms"))) (.cons .stk .nil) .nil) (.cons (.ifs (.p (.cmp .Eq (.ix (.var 7) (nL 0)) (sL "use"))) (.cons .stk .nil) .nil) .nil)) [] (Ab n s y v j t u (fS (rD r)) A)) λx=>x=.nx (Ab n s y v j t u (fS (rD r)) A):=λA=>
   ab (b7 rfl (t5 r)) (ab (b7 rfl (vU r)) (aQ rfl))
  show ff (b7 rfl (z7 r)) (λz=>?_) λz=>?_
  ·cases r with
   |inp x w=>cases z
   |out o f=>cases z
   |mem x w b f=>
   let hm:((x,w,E x),b,f)∈mT E rs:=OT.mpr ⟨_,OK g,rfl⟩;show eL (i6 rfl (DZ h.ok.fits (h.memk _ hm) rfl rfl (cv 4) rfl) rfl ?_ ?_)
   ·have:(mT E (rs.take i)).length<1000:=hJ (by rw[OP];lia);rw[On];lia
   ·show aQ (dz ((l _).mono λ_ e=>⟨_,.inl e,fS (rD (.mem x w b f)),?_⟩));rw[vV g,Oz];rfl
  ·show aQ (dz ((l _).mono λ_ e=>⟨_,.inl e,fS (rD r),?_⟩));rw[vV g]
   cases r with
   |inp x w=>rw[show(w4 E (.inp x w)).toList=[] from rfl,OZ]
   |out o f=>rw[show(w4 E (.out o f)).toList=[] from rfl,OZ]
   |mem x w b f=>cases z
 obtain⟨a,rfl⟩:=c;rw[On,OR]
 let C:aa Z_26.fn (.comp .fz [Sd,Sd,Sd,Sd,Sb 5] (.nm 1) (.e (.var 4)) (.som (.cmp .Eq (.ix (.var 1) (nL 0)) (sL "out"))) (.fn 20 (.cons (.fn 23 (.cons (.ix (.var 1) (nL 2)) (.cons (.var 4) .nil))) .nil))) (Ab n s y v j t u a (Sb ⟨Sf,k0,.lst ((mT E rs).map λm=>iD (val L E m.2.2))⟩))=Sb (.fr k0,.lst ((oT rs).map λq=>iD (val L E q.2))):=by
  show aE (e7 (tH (wv rfl (jB rfl ⟨by rw[On];lia,wv (Aa rs λr g=>?_) rfl⟩))))
  cases r with
  |inp x w=>show .inr ⟨rfl,o3 rfl (b7 (r:=.inp x w) rfl (by nofun:aq .Eq (.str "in") (.str "out")=Sb Sf))⟩
  |mem x w b f=>show .inr ⟨rfl,o3 rfl (b7 (r:=.mem x w b f) rfl (by nofun:aq .Eq (.str "memory") (.str "out")=Sb Sf))⟩
  |out o f=>show .inl ⟨(o,f),.sh,rfl,vW rfl (b7 (r:=.out o f) rfl (by nofun:aq .Eq (.str "out") (.str "out")=Sb Se)) (DZ h.ok.fits (h.outk (o,f) (OT.mpr ⟨_,g,rfl⟩)) rfl rfl (cv 2) rfl),rfl⟩
 show cu (bX (au (aN (wv C ⟨rfl,aL (dW rfl (aG (bY rfl ⟨rfl,bH rfl rfl⟩)))⟩))))
end
section
variable {rs:List Row} {L E:Str->Nat} {pn:Str}
theorem Ac{B:Fn}{kds:List KD}{p:KD}(b:B ds=Sb p)(hd:kds.map (·.2)=ds)(hk:(kds.all λp=>i7 p.1 p.2)=Se)(a:bv p.1=Sf):uB B kds=Sb p:=aE (qN ⟨p,by rw[hd];show b,a,.inl hk,rfl⟩)
theorem Ad{α:Type}{f:α->Nat}(n:Nat)(l:List α):cC (n+1) (.lst (l.map λa=>iD (f a)))=Se:=by
 simp only[cC,Oo,decide_eq_true_eq];show⟨by lia,kB λd c=>?_⟩;obtain⟨b,_,rfl⟩:=Oy.mp c;rfl
theorem vX{α:Type}{f:α->Nat}{l:List α}(c:aa Z a Y=Sb (k,.lst (l.map λx=>iD (f x))))(d:aa Z b Y=Sb (k',.lst (l.map λx=>iD (f x)))):aD Z (.cmp .NotEq a b) Y=Sb Sf:=by
 show fH c d ((if_pos ⟨Ad _ _,Ad _ _⟩).trans ?_);rw[qT (Ad 0 l)];rfl
theorem D0{Z:GG}{Y:Ro}{b:BP}{up:D->D}{Q:Kd×D×Ro->Prop}(c:rB Z.fn b Y=Sb (.own es r,.nd .lst ds,up))(a:aP Z.fn as Y=Sb kds)(hm:ju m es r ds kds=Sb (d',ds'))(hi:Y[b.slot]?=Sb (Sb ⟨Sf,k,d0⟩))(q:Q (.sh,d',Y.set b.slot (Sb ⟨Sf,k,up (.lst ds')⟩))):Wp (aO Z (.mut m b as) Y) Q:=by
 show⟨_,?_,q⟩;rw[iW];unfold fW;rw[c,a];dsimp only;rw[hm,hi]
noncomputable abbrev KH(q pt B st is W hd O s8 s9 mf:Option Sl):Ro:=[q,pt,B,st,is,W,hd,O,s8,s9,mf]
theorem Ae{od:D}(h:Ng L E rs):Kh [cH rs pn,ee rs pn od,.str pn,.lst ((mT E rs).map λm=>iD m.1.2.2),.lst ((iT E rs).map λp=>iD p.2.2)]=Sb (.sh,.bl Se):=by
 let hl:=h.ok.len;let b:(mT E rs).length<1000:=hJ hl;let l:(oT rs).length<1000:=tP hl;let v:(iT E rs).length<1000:=GY hl;show let t:Option Sl:=fS (cH rs pn);?_;show let n:Option Sl:=fS (ee rs pn od);?_;show let o:Option Sl:=fS (.str pn);?_;show let f:D:=.lst ((mT E rs).map λm=>iD m.1.2.2);?_;show let c:D:=.lst ((iT E rs).map λp=>iD p.2.2);?_;show let s:D:=.lst ((oT rs).map λq=>iD (val L E q.2));?_;show let r:D:=.lst ((mT E rs).map λm=>iD (val L E m.2.2));?_;unfold Kh;show c6 rfl ?_;unfold MQ;show aR (bM rfl (e4 rfl rfl rfl rfl) rfl rfl (w9 h) rfl) rfl (by decide) ?_;show aR (bM rfl (e1 rfl) rfl rfl (CQ _ b) rfl) rfl (by decide) ?_;show aR (nw (e1 rfl) (aE (oJ rfl rfl))) rfl (by decide) ?_;show cL (mh (oH (a9 (a9 (jA (by decide) rfl))))) (λ_ Y=>∃k g s8 s9 mf,Y=KH t n o (fS f) (fS c) (fS (.tup [s,r])) (Sb ⟨Sf,k,f⟩) (Sb ⟨Sf,g,c⟩) s8 s9 mf) ⟨k0,k0,Sd,Sd,Sd,rfl⟩ (λi d Y e a=>?_) λu a=>?_
 ·obtain⟨k,g,s8,s9,mf,rfl⟩:=a;show⟨[(8,d)],rfl,rfl,?_⟩;show bU (zr rfl (au (aN (wv rfl ⟨rfl,au (aN (wv rfl ⟨rfl,au (vn rfl ⟨rfl,aL (vn rfl (aG (wv (Ac (CP h.ok) rfl rfl rfl) ⟨⟨rfl,by decide⟩,?_⟩)))⟩)⟩))⟩))));show ab ?_ ?_
  ·show tL (jJ (no (x:=Se) rfl rfl)) λ_=>?_;show tL (GO (i:=(2:Nat)) (j:=(2:Nat)) (jT rfl rfl) rfl) λ_=>?_;show tL (vX rfl rfl) λ_=>jU (vX rfl rfl)
  show ab ?_ ?_
  ·show tL (jJ (Cq (lV rfl (e2 (dE rfl rfl (.inr rfl) rfl rfl) (cv 0)) rfl rfl (kI _ l) rfl))) λ_=>jU ?_;show jJ (Cq (lV rfl (e2 (dE rfl rfl (.inr rfl) rfl rfl) (cv 1)) rfl rfl (kI _ b) rfl))
  show eL (D0 rfl (e1 rfl) (rc ⟨OS _,rfl,by rw[On];lia⟩) rfl ?_);show vq (lS (wv (bW (dE rfl rfl (.inr rfl) rfl rfl) rfl) ⟨λ_ Y=>∃mf,Y=KH t n o (fS f) (fS c) (fS (.tup [s,r])) (Sb ⟨Sf,.fz,f⟩) (Sb ⟨Sf,.fz,c⟩) (fS d) Sd mf,⟨Sd,rfl⟩,λi d Y e a=>?_,λu a=>?_⟩))
  ·obtain⟨mf,rfl⟩:=a;obtain⟨m,_,rfl⟩:=Oy.mp (OK e);show⟨[(10,iD (val L E m.2.2))],rfl,rfl,ab (no rfl rfl) (aQ ⟨_,.inl rfl,_,rfl⟩)⟩
  ·obtain⟨mf,rfl⟩:=a;show eL (D0 rfl rfl rfl rfl ?_);show aQ ⟨_,.inl rfl,.fz,.fz,_,_,_,rfl⟩
 ·obtain⟨k,g,s8,s9,mf,rfl⟩:=a;show bP rfl rfl (bH rfl rfl)
end
noncomputable abbrev oS(d:D):Option Sl:=Sb ⟨Sf,k0,d⟩
noncomputable def Lx(tr:List d9)(x:Str):Nat:=match tr.find? (λp=>decide (p.1=x)) with|some p=>p.2.1|none=>1
noncomputable def Ex(tr:List d9)(x:Str):Nat:=match tr.find? (λp=>decide (p.1=x)) with|some p=>p.2.2|none=>0
noncomputable def Li(ins:List hV)(x:Str):Nat:=match ins.find? (λp=>decide (p.1=x)) with|some p=>p.2|none=>1
theorem t6{α:Type}{k:α->Str}:∀{l:List α} {p:α},p∈l->(l.map k).Nodup->l.find? (λq=>decide (k q=k p))=Sb p
 |q::l,p,h,hn=>by
  rw[OI,OX] at hn;rw[PC];rcases OD.mp h with rfl|h
  ·simp
  ·let a:¬k q=k p:=λe=>hn.1 (Oy.mpr ⟨p,h,e.symm⟩);rw[decide_eq_false a];show t6 h hn.2
theorem D2{ins:List hV}(hn:(ins.map (·.1)).Nodup){p:hV}(h:p∈ins):Li ins p.1=p.2:=by
 unfold Li;rw[t6 h hn]
section
variable {tr:List d9} (hn:(tr.map (·.1)).Nodup)
include hn
theorem Af{p:d9}(h:p∈tr):Lx tr p.1=p.2.1/\Ex tr p.1=p.2.2:=by
 unfold Lx Ex;rw[t6 h hn];show⟨rfl,rfl⟩
end
theorem Al.mono{P R:Fo->Prop}(h:∀f,P f->R f):∀{f:Fo},Al P f->Al R f
 |.name _,a=>h _ a
 |.num _ _,a=>h _ a
 |.not _,a=>⟨h _ a.1,Al.mono h a.2⟩
 |.two _ _ _,a=>⟨h _ a.1,Al.mono h a.2.1,Al.mono h a.2.2⟩
 |.ite _ _ _,a=>⟨h _ a.1,Al.mono h a.2.1,Al.mono h a.2.2.1,Al.mono h a.2.2.2⟩
 |.join _ _,a=>⟨h _ a.1,Al.mono h a.2.1,Al.mono h a.2.2⟩
 |.cmp _ _ _,a=>⟨h _ a.1,Al.mono h a.2.1,Al.mono h a.2.2⟩
 |.cut _ _ _,a=>⟨h _ a.1,Al.mono h a.2⟩
noncomputable def N0(E:Str->Nat):Row->Option d9
 |.inp x w=>Sb (x,w,E x)
 |.mem x w _ _=>Sb (x,w,E x)
 |.out _ _=>Sd
noncomputable def rC:Row->Option hV
 |.inp x w=>Sb (x,w)
 |.mem x w _ _=>Sb (x,w)
 |.out _ _=>Sd
noncomputable def D3:Row->Option Fo
 |.inp _ _=>Sd
 |.mem _ _ _ f=>Sb f
 |.out _ f=>Sb f
theorem dH(E:Str->Nat):∀rs:List Row,(iT E rs++(mT E rs).map (·.1)).Perm (rs.filterMap (N0 E))
 |[]=>.nil
 |.inp x w::rs=>(dH E rs).cons _
 |.mem x w b f::rs=>R8.trans ((dH E rs).cons _)
 |.out o f::rs=>dH E rs
theorem nG(E:Str->Nat):∀rs:List Row,rs.filterMap (N0 E)=(rs.filterMap rC).map λp=>(p.1,p.2,E p.1)
 |[]=>rfl
 |.inp x w::rs=>congrArg (List.cons _) (nG E rs)
 |.mem x w b f::rs=>congrArg (List.cons _) (nG E rs)
 |.out o f::rs=>nG E rs
noncomputable def Oi:Row->Str
 |.inp x _=>x
 |.mem x _ _ _=>x
 |.out x _=>x
structure Mach(L:Str->Nat)(rs:List Row):Prop where
 len:rs.length<1000
 nod:((rs.filterMap rC).map (·.1)).Nodup
 nodo:((oT rs).map (·.1)).Nodup
 wd:∀p∈rs.filterMap rC,1<=p.2/\p.2<=8/\L p.1=p.2
 bg:∀x w b f,Row.mem x w b f∈rs->b<2^w
 fo:∀f∈rs.filterMap D3,Wf L f/\dep f<40/\Al (Pc L λx=>x∈(rs.filterMap rC).map (·.1)) f
 so:∀r∈rs,PyData.strOk (Oi r)=Se
section
variable {L E:Str->Nat} {rs:List Row} (h:Mach L rs)
include h
theorem Mach.mem_of{p:d9}(a:p∈iT E rs++(mT E rs).map (·.1)):(p.1,p.2.1)∈rs.filterMap rC/\p.2.2=E p.1:=by
 have:=(dH E rs).mem_iff.mp a;rw[nG] at this;obtain⟨q,b,rfl⟩:=Oy.mp this;show⟨b,rfl⟩
theorem Mach.to_mem(b:x∈(rs.filterMap rC).map (·.1)):(x,L x,E x)∈iT E rs++(mT E rs).map (·.1):=by
 show(dH E rs).mem_iff.mpr ?_;rw[nG];obtain⟨q,a,rfl⟩:=Oy.mp b;show Oy.mpr ⟨q,a,by rw[(h.wd q a).2.2]⟩
theorem Mach.nod3:((iT E rs++(mT E rs).map (·.1)).map (·.1)).Nodup:=by
 rw[((dH E rs).map (·.1)).nodup_iff,nG,OE];show h.nod
theorem Mach.sc(a:x∈(rs.filterMap rC).map (·.1)):Sc L E (zU E rs) x:=by
 obtain⟨j,b,f2⟩:=eO (h.to_mem a) h.nod3;show⟨_,_,_,_,j,rfl,b,by rw[Op,f2];rfl⟩
theorem Mach.kn(a:x∈(rs.filterMap rC).map (·.1)):Kn L E (kT E rs) x:=by
 obtain⟨j,b,f2⟩:=l8 (h.to_mem a) h.nod3;show⟨_,_,j,rfl,b,by rw[Op,f2];rfl⟩
theorem Mach.ok(n:∀x,E x<2^L x):Ng L E rs:=by
 let hm:∀m∈mT E rs,m.2.2∈rs.filterMap D3:=λm hm=>by
  obtain⟨r,d,e⟩:=OT.mp hm
  cases r with
  |inp x w=>cases e
  |out o f=>cases e
  |mem x w b f=>cases e;show OT.mpr ⟨_,d,rfl⟩
 let i:∀q∈oT rs,q.2∈rs.filterMap D3:=λq t=>by
  obtain⟨r,d,e⟩:=OT.mp t
  cases r with
  |inp x w=>cases e
  |mem x w b f=>cases e
  |out o f=>cases e;show OT.mpr ⟨_,d,rfl⟩
 let j:∀f∈rs.filterMap D3,Gd L E (zU E rs) f:=λf a=>⟨(h.fo f a).1,(h.fo f a).2.2.mono λg c=>⟨c.1,λx e=>h.sc (c.2 x e)⟩,(h.fo f a).2.1⟩;let l:∀f∈rs.filterMap D3,Gk L E (kT E rs) f:=λf a=>⟨(h.fo f a).1,(h.fo f a).2.2.mono λg c=>⟨c.1,λx e=>h.kn (c.2 x e)⟩,(h.fo f a).2.1⟩;show⟨⟨n,h.len,h.nod3,h.nodo,λm k=>j _ (hm m k),λq k=>j _ (i q k)⟩,λp s=>(h.wd _ (h.mem_of s).1).2.1,λm k=>l _ (hm m k),λq k=>l _ (i q k)⟩
end
noncomputable def KI:Row->Option hV
 |.inp x w=>Sb (x,w)
 |_=>Sd
noncomputable def t7:Row->Option hV
 |.mem x w _ _=>Sb (x,w)
 |_=>Sd
structure Tr(l:List hV)(t:List d9):Prop where
 eq:t.map (λp=>(p.1,p.2.1))=l
 lt:∀p∈t,p.2.2<2^p.2.1
theorem CT(E:Str->Nat):∀rs:List Row,iT E rs=(rs.filterMap KI).map λp=>(p.1,p.2,E p.1)
 |[]=>rfl
 |.inp x w::rs=>congrArg (List.cons _) (CT E rs)
 |.mem x w b f::rs=>CT E rs
 |.out o f::rs=>CT E rs
theorem Ag(E:Str->Nat):∀rs:List Row,(mT E rs).map (·.1)=(rs.filterMap t7).map λp=>(p.1,p.2,E p.1)
 |[]=>rfl
 |.inp x w::rs=>Ag E rs
 |.mem x w b f::rs=>congrArg (List.cons _) (Ag E rs)
 |.out o f::rs=>Ag E rs
section
variable {L:Str->Nat} {rs:List Row} {pn:Str} {ti tm:List d9} (h:Mach L rs) (hi:Tr (rs.filterMap KI) ti) (hm:Tr (rs.filterMap t7) tm)
include h hi hm
theorem CU:∃E:Str->Nat,(∀x,E x<2^L x)/\iT E rs=ti/\(mT E rs).map (·.1)=tm:=by
 let e1:∀E:Str->Nat,iT E rs=ti.map λp=>(p.1,p.2.1,E p.1):=λE=>by
  rw[CT,<- hi.eq,OE];rfl
 let e2:∀E:Str->Nat,(mT E rs).map (·.1)=tm.map λp=>(p.1,p.2.1,E p.1):=λE=>by
  rw[Ag,<- hm.eq,OE];rfl
 let hn:((ti++tm).map (·.1)).Nodup:=by
  have:=h.nod3 (E:=λ_=>0);rw[e1,e2,<- Oz,OE] at this;show this
 let b:∀{l:List d9},(∀p∈l,p∈ti++tm)->l.map (λp=>(p.1,p.2.1,Ex (ti++tm) p.1))=l:=λ{l} hl=>by
  show(PU λp a=>?_).trans (RV l);rw[(Af hn (hl p a)).2];rfl
 show⟨Ex (ti++tm),λx=>?_,(e1 _).trans (b λp a=>O5 _ a),(e2 _).trans (b λp a=>OB _ a)⟩
 let c:∀p∈ti++tm,p.2.2<2^p.2.1:=λp a=>by
  rcases OQ.mp a with a|a
  ·show hi.lt p a
  ·show hm.lt p a
 cases e:(ti++tm).find? λp=>decide (p.1=x) with
 |none=>
  unfold Ex;rw[e];show O4 _
 |some p=>
  let a:=List.mem_of_find?_eq_some e;let d:p.1=x:=by simpa using List.find?_some e
  subst d;rw[(Af hn a).2]
  have:=(h.wd (p.1,p.2.1) (by
   let f:(p.1,p.2.1,p.2.2)∈iT (Ex (ti++tm)) rs++(mT (Ex (ti++tm)) rs).map (·.1):=by
    rw[(e1 _).trans (b λp a=>O5 _ a),(e2 _).trans (b λp a=>OB _ a)];show a
   show(h.mem_of f).1)).2.2
  rw[this];show c p a
theorem xa:Kh [cH rs pn,ee rs pn od,.str pn,.lst (tm.map λp=>iD p.2.2),.lst (ti.map λp=>iD p.2.2)]=Sb (.sh,.bl Se):=by
 obtain⟨E,a,e1,e2⟩:=CU h hi hm;have:=Ae (pn:=pn) (od:=od) (h.ok a);rw[e1] at this;rw[<- e2,OE];show this
end
theorem Ah{rs:List Row}{i:Nat}(h:rs[i]?=Sb r):(rs.take (i+1)).filterMap t7=(rs.take i).filterMap t7++(t7 r).toList:=by
 rw[bQ h,Py]
 cases r<;>rfl
theorem Hw{rs:List Row}(h:Mach L rs)(c:Pt w ds){Q:Kd×D×List (Option iQ)->Prop}(q:∀tm a,Tr (rs.filterMap t7) tm->Pt w a->Q (.fr k0,.lst (tm.map λp=>iD p.2.2),[Sb (k0,df a),Sd,Sd])):Wp (Ll [(k0,df ds),(.fz,ee rs pn od),(.fz,.str pn)]) Q:=by
 unfold Ll;show qR rfl ?_;unfold MN;show aR rfl rfl (by decide) ?_;show cL (bW (l6 rfl rfl) rfl) (λi Y=>∃tm a s4,Tr ((rs.take i).filterMap t7) tm/\Pt w a/\Y=[aS a,fS (ee rs pn od),fS (.str pn),oS (.lst (tm.map λp=>iD p.2.2)),s4]) ⟨[],ds,Sd,⟨rfl,λp c=>by cases c⟩,c,rfl⟩ (λi d Y e A=>?_) λI A=>?_
 ·obtain⟨tm,a,s4,j,g,rfl⟩:=A;rw[Op] at e
  cases l:rs[i]? with
  |none=>rw[l] at e;cases e
  |some r=>
  rw[l] at e;cases e;show⟨[(4,rD r)],rfl,rfl,?_⟩
  let k:∀u z,Wp (aY Z_27 1000 (.cons (.ifs (.p (.cmp .Eq (.ix (.var 4) (nL 0)) (sL "rooms"))) (.cons .stk .nil) .nil) (.cons (.ifs (.p (.cmp .Eq (.ix (.var 4) (nL 0)) (sL "use"))) (.cons .stk .nil) .nil) .nil)) [0] [u,fS (ee rs pn od),fS (.str pn),z,fS (rD r)]) λx=>x=.nx [u,fS (ee rs pn od),fS (.str pn),z,fS (rD r)]:=λu z=>
   ab (b7 rfl (t5 r)) (ab (b7 rfl (vU r)) (aQ rfl))
  show ff (b7 rfl (z7 r)) (λn=>?_) λn=>?_
  ·cases r with
   |inp x w=>cases n
   |out o f=>cases n
   |mem x s b f=>
   let E:=h.wd (x,s) (OT.mpr ⟨_,OK l,rfl⟩)
   let C:tm.length<1000:=by
    have:=congrArg Pq j.eq;rw[On] at this;let F:=PQ t7 (rs.take i);let H:=h.len;rw[OP] at F
    lia
   show eL (tI rfl (j7 (m:=1 <<< s) rfl rfl g ?_ ?_ (jV (by decide) (by have:=E.2.1;dsimp only at this;lia) rfl (cv 2)) λv t B y=>⟨_,_,_,rfl,⟨OS _,rfl,by rw[On];lia⟩,?_⟩))
   ·rw[OY];show O4 _
   ·rw[OY];show PN (by decide) (by have:=E.2.1;dsimp only at this;lia)
   ·rw[OY] at B;show aQ (dz ((k _ _).mono λ_ e=>⟨_,.inl e,tm++[(x,s,v)],t,fS (rD (.mem x s b f)),⟨?_,?_⟩,y,?_⟩))
    ·rw[Oz,j.eq,Ah l];rfl
    ·intro p c;rcases OQ.mp c with c|c
     ·show j.lt p c
     ·rw[OV] at c;subst c;show B
    ·rw[Oz];rfl
  ·show aQ (dz ((k _ _).mono λ_ e=>⟨_,.inl e,tm,a,fS (rD r),⟨?_,j.lt⟩,g,rfl⟩));rw[j.eq,Ah l]
   cases r with
   |inp x w=>rw[show(t7 (.inp x w)).toList=[] from rfl,OZ]
   |out o f=>rw[show(t7 (.out o f)).toList=[] from rfl,OZ]
   |mem x w b f=>cases n
 ·obtain⟨tm,a,s4,j,g,rfl⟩:=A;rw[On,OR] at j;show cu (dW rfl ⟨rfl,f6 rfl (q tm a j g)⟩)
abbrev Ou:=Str×Nat×Fo
abbrev Me:=Str×Nat×Nat×Fo
noncomputable abbrev xb(o:Ou):Row:=.out o.1 o.2.2
noncomputable abbrev AB(m:Me):Row:=.mem m.1 m.2.1 m.2.2.1 m.2.2.2
noncomputable abbrev nH(os:List Ou):List d9:=os.map λo=>(o.1,0,o.2.1)
abbrev rE(k:Str×Nat×Nat):D:=.tup [.str k.1,iD k.2.1,iD k.2.2]
abbrev xc(nl:List (List Nat))(k:Nat):Str:=ef (nl.getD (2*k+1) [])
abbrev KJ(p n q O B wd W s8 s9 mf:Option Sl):Ro:=[p,n,q,O,fS (.lst []),B,wd,W,s8,s9,mf,Sd,Sd,Sd,Sd]
theorem o5{α:Type}{l:List α}{n:Nat}{d:α}(h:n<l.length):l.getD n d=l[n]:=by simp[List.getD,Ot h]
theorem Hx(l:List d9)(p:d9):D.nd (.dic 0 ((l.map λp=>.inl (.inr p.1))++[.inl (.inr p.1)])) ((l.map λp=>iD p.2.2)++[iD p.2.2])=kG (l++[p]):=by
 unfold kG;rw[Oz,Oz];rfl
section
variable {L:Str->Nat} {ls:List hV} {nl:List (List Nat)} {kept:List (Str×Nat×Nat)} (hL:∀p∈ls,L p.1=p.2) (hls:ls.length<=100) (hn:nl.Nodup) (hnl:nl.length=60) (hk:kept.length<=9) (hkw:∀k∈kept,1<=k.2.1/\k.2.1<=8)
omit hnl in
theorem kJ(hn:nl.Nodup)(hnl:nl.length=60){i:Nat}(hi:i<=9):((O9 i).map (xc nl)).Nodup:=by
 unfold List.Nodup;rw[Qw];show R7.imp_of_mem λ{a b} d f c e=>c ?_;let d:=P5.mp d;let f:=P5.mp f;let e:=vS e;rw[o5 (show 2*a+1<nl.length by lia),o5 (show 2*b+1<nl.length by lia)] at e;have:=(List.getElem?_inj (i:=2*a+1) (j:=2*b+1) (by lia) hn).mp (by rw[Ot (by lia),Ot (by lia),e])
 lia
structure Nh(L:Str->Nat)(ls:List hV)(nl:List (List Nat))(i:Nat)(os:List Ou):Prop where
 eq:os.map (·.1)=(O9 i).map (xc nl)
 ok:∀o∈os,Gw L ls o.2.1 3 o.2.2
structure Ni(L:Str->Nat)(ls:List hV)(kept:List (Str×Nat×Nat))(ms:List Me):Prop where
 eq:ms.map (λm=>(m.1,m.2.1,m.2.2.1))=kept
 ok:∀m∈ms,Gw L ls m.2.1 3 m.2.2.2
include hL hls in
theorem D4{Y:Ro}{wd:Nat}(h1:1<=wd)(h8:wd<=8)(i:Pt w ds)(h:Y[0]?=Sb (aS ds))(j:aa Z_17.fn a Y=Sb (.sh,mC ls))(l:aa Z_17.fn b Y=Sb (.sh,iD wd)){Q:Kd×D×Ro->Prop}(q:∀f c,Gw L ls wd 3 f->Pt w c->Q (.sh,dY f,Y.set 0 (aS c))):Wp (aO Z_17 (.io 17 (.ref 0 (.val (.p a) (.val (.p b) (.val (.p (nL 3)) .nil))))) Y) Q:=by
 show fZ rfl (de h (br (aN (wv j ⟨rfl,br (aN (wv l ⟨rfl,br (aN (a9 ⟨rfl,dc ⟨by simp[cg],[(k0,df ds),(.fz,mC ls),(.fz,iD wd),(.fz,iD 3)],?_,rg hL hls 3 40 (by decide) wd h1 h8 ds i _ λf g m e=>⟨rfl,rfl,q f g m e⟩⟩⟩))⟩))⟩))))
 change(match Y[0]?,Sb [(Ow.fz,mC ls),(Ow.fz,iD wd),(Ow.fz,iD 3)] with|some (Sb ⟨Sf,k,d⟩),Sb ks=>Sb ((k,d)::ks)|_,_=>Sd)=_
 rw[h]
include hL hls hn hnl hk hkw in
theorem Ai{w:Int}(U:0<=w){ds:List D}(O:Pt w ds){Q:Kd×D×List (Option iQ)->Prop}(q:∀i os ms R b,i<=9->Nh L ls nl i os->Ni L ls kept ms->Pt R b->Q (.sh,.tup [.lst ((os.map xb++ms.map AB).map rD),kG (nH os)],[Sb (k0,df b),Sd,Sd,Sd,Sd])):Wp (Ld [(k0,df ds),(.fz,jD nl),(.fz,mC ls),(.fz,.lst (kept.map rE)),(.fz,.lst [])]) Q:=by
 unfold Ld;show qR rfl ?_;unfold MF;show aR (x:=(.fr k0,.lst [])) rfl rfl (by decide) ?_;show aR rfl rfl (by decide) ?_;show vq (kA (fZ rfl (de rfl (br (aN (a9 ⟨rfl,dc ⟨by simp[cg],[(k0,df ds),(.fz,iD 3)],rfl,lj (by decide) U O λm E hm C=>⟨rfl,rfl,jA (dX (by decide) (by decide) (by change(-100000:Int)<=(m:Int);lia) (by change(m:Int)<=100000;lia) (by change(m:Int)-0<=100000;lia)) ⟨λi Y=>∃os b F s8,i<=m/\Nh L ls nl i os/\Pt (w-m) b/\Y=KJ (aS b) (fS (jD nl)) (fS (mC ls)) (fS (.lst (kept.map rE))) (oS (.lst ((os.map xb).map rD))) (oS (kG (nH os))) F s8 Sd Sd,⟨[],E,Sd,Sd,OS _,⟨rfl,λo g=>by cases g⟩,C,rfl⟩,λi d Y e t=>?_,λT t=>?_⟩⟩⟩⟩))))))
 ·obtain⟨os,b,F,s8,y,g,u,rfl⟩:=t;obtain⟨rfl,M⟩:=qP e;let P:i<9:=by lia
  rw[RN];let K:os.length=i:=by have:=congrArg Pq g.eq;simpa using this
  show⟨[(7,iD i)],rfl,rfl,?_⟩;change Wp (aY Z_17 1000 _ [0] (KJ (aS b) (fS (jD nl)) (fS (mC ls)) (fS (.lst (kept.map rE))) (oS (.lst ((os.map xb).map rD))) (oS (kG (nH os))) (fS (iD i)) s8 Sd Sd)) _
  let S:aa Z_17.fn (.bin .Add (.bin .Mult (nL 2) (.var 7)) (nL 1)) (KJ (aS b) (fS (jD nl)) (fS (mC ls)) (fS (.lst (kept.map rE))) (oS (.lst ((os.map xb).map rD))) (oS (kG (nH os))) (fS (iD i)) s8 Sd Sd)=Sb (.sh,.int ((2*i+1:Nat):Int)):=by
   rw[cG (nr ⟨nD (by decide) (by decide),nD (by lia) (by lia)⟩ rfl rfl) rfl];congr 3
  show aR (x:=(.sh,.str (xc nl i))) (dE (k:=.sh) rfl S (.inl rfl) rfl ?_) rfl (by decide) ?_
  ·rw[Op,Ot (show 2*i+1<nl.length by lia)];change Sb (D.str (ef nl[2*i+1]))=Sb (D.str (ef (nl.getD (2*i+1) [])));rw[o5 (show 2*i+1<nl.length by lia)]
  let v:xc nl i∉(nH os).map (·.1):=by
   rw[OE,show os.map ((λx:d9=>x.1)∘λo:Ou=>(o.1,0,o.2.1))=os.map (·.1) from rfl,g.eq];have:=kJ hn hnl (show i+1<=9 by lia);rw[Re,Oz,Qv] at this;intro hm;show this.2.2 _ hm _ (OV.mpr rfl) rfl
  show jS (gh (m:=8) rfl rfl u (by decide) (by decide) rfl rfl λr l W h=>qS rfl (wv rfl (f7 rfl rfl rfl (f8 (kF (gA v) ?_) ?_))))
  ·rw[On,On];lia
  change Wp (aY Z_17 1000 _ [0] (KJ (aS l) (fS (jD nl)) (fS (mC ls)) (fS (.lst (kept.map rE))) (oS (.lst ((os.map xb).map rD))) (oS (D.nd (.dic 0 (((nH os).map λp=>.inl (.inr p.1))++[.inl (.inr (xc nl i,0,1+r).1)])) (((nH os).map λp=>iD p.2.2)++[iD (xc nl i,0,1+r).2.2]))) (fS (iD i)) (fS (.str (xc nl i))) Sd Sd)) _;rw[Hx]
  let H:((nH os++[((xc nl i,0,1+r):d9)]).map (·.1)).Nodup:=by
   have:=kJ hn hnl (show i+1<=9 by lia);rw[Re,Oz,<- g.eq] at this;rw[Oz,OE];show this
  obtain⟨j,N,f2⟩:=eO (OB _ (OV.mpr rfl)) H;show eL (tI rfl (bX (au (aN (a9 ⟨rfl,au (aN (wv rfl ⟨rfl,aL (D4 hL hls (wd:=1+r) (by lia) (by lia) h rfl rfl (i5 (k:=.bo 6 k0) rfl rfl rfl rfl N (by rw[Op,f2];rfl)) λf n I s=>aG (bY rfl ⟨_,_,_,rfl,⟨OS _,rfl,by rw[On,On];lia⟩,?_⟩))⟩))⟩)))));show aQ ⟨_,.inl rfl,os++[(xc nl i,1+r,f)],n,fS (iD i),fS (.str (xc nl i)),by lia,⟨?_,?_⟩,s,?_⟩
  ·rw[Oz,g.eq,Re,Oz];rfl
  ·intro o a;rcases OQ.mp a with a|a
   ·show g.ok o a
   ·rw[OV] at a;subst a;show I
  ·rw[show nH (os++[(xc nl i,1+r,f)])=nH os++[(xc nl i,0,1+r)] from Oz,Oz,Oz];rfl
 ·obtain⟨os,b,F,s8,y,g,u,rfl⟩:=t;let A:(d8 0 (m:Int)).length=m:=by rw[eK];lia
  rw[show(([]:List Nat),d8 0 (m:Int)).2.length=m from A] at g y;let V:os.length=m:=by have:=congrArg Pq g.eq;simpa using this
  show cL (bW (k:=.sh) rfl rfl) (λi Y=>∃ms b s8 s9 mf,Ni L ls (kept.take i) ms/\Pt (w-m) b/\Y=KJ (aS b) (fS (jD nl)) (fS (mC ls)) (fS (.lst (kept.map rE))) (oS (.lst ((os.map xb++ms.map AB).map rD))) (oS (kG (nH os))) Sd s8 s9 mf) ⟨[],b,s8,Sd,Sd,⟨rfl,λm hm=>by cases hm⟩,u,by rw[Ql,OZ];rfl⟩ (λi d Y e t=>?_) λT t=>?_
  ·obtain⟨ms,l,s8,s9,mf,c,h,rfl⟩:=t;rw[Op] at e
   cases B:kept[i]? with
   |none=>rw[B] at e;cases e
   |some k=>
   rw[B] at e;cases e;let z:=hkw k (OK B)
   let A:ms.length<=9:=by
    have:=congrArg Pq c.eq;rw[On,OP] at this
    lia
   show⟨[(8,.str k.1),(9,iD k.2.1),(10,iD k.2.2)],rfl,rfl,?_⟩;show eL (tI rfl (bX (au (aN (a9 ⟨rfl,au (aN (wv rfl ⟨rfl,au (aN (wv rfl ⟨rfl,au (aN (wv rfl ⟨rfl,aL (D4 hL hls z.1 z.2 h rfl rfl rfl λf n I s=>aG (bY rfl ⟨_,_,_,rfl,⟨OS _,rfl,by rw[On,OF,On,On];lia⟩,?_⟩))⟩))⟩))⟩))⟩)))));show aQ ⟨_,.inl rfl,ms++[(k.1,k.2.1,k.2.2,f)],n,fS (.str k.1),fS (iD k.2.1),fS (iD k.2.2),⟨?_,?_⟩,s,?_⟩
   ·rw[Oz,c.eq,bQ B];rfl
   ·intro o a;rcases OQ.mp a with a|a
    ·show c.ok o a
    ·rw[OV] at a;subst a;show I
   ·rw[show(os.map xb++(ms++[(k.1,k.2.1,k.2.2,f)]).map AB).map rD=(os.map xb++ms.map AB).map rD++[rD (AB (k.1,k.2.1,k.2.2,f))] by simp only[Oz,P2,OI,Ql]];rfl
  ·obtain⟨ms,l,s8,s9,mf,c,h,rfl⟩:=t;rw[On,OR] at c;show oW (bW (k:=.sh) rfl rfl) ?_;show cu (bX (au (dW rfl ⟨rfl,aL (dW rfl (aG (bY rfl ⟨rfl,f6 rfl (q m os ms _ l (by lia) g c h)⟩)))⟩)))
end
noncomputable abbrev l9(p:hV):Row:=.inp p.1 p.2
theorem CV{a b:List (List Nat)}(h:a.Nodup)(e:a=b):(b.map ef).Nodup:=by
 subst e;unfold List.Nodup;rw[Qw];show h.imp λ{x y} c e=>c (vS e)
structure Nj(nl:List (List Nat))(ins:List hV):Prop where
 nn:ins.map (·.1)=(nl.take ins.length).map ef
 wd:∀p∈ins,1<=p.2/\p.2<=8
 le:ins.length<=9
section
variable {nl:List (List Nat)} (hn:nl.length=60)
include hn
theorem Aj{ds:List D}(c:Pt 24 ds){Y':Ro}{Q:Kd×D×Ro->Prop}(q:∀ins w k,0<=w->Nj nl ins->Pt w k->Q (.fr k0,.lst ((ins.map l9).map rD),aS k::fS (jD nl)::Y')) :
  Wp (aO Z_32 (.comp .fz [Sd,Sd,Sd,Sb 1,Sb 0] (.nm 1) (.rng (.io 15 (.ref 0 (.val (.p (nL 3)) .nil)))) .non (.tup .fz (.cons (.p (sL "in")) (.cons (.p (.ix (.var 3) (.var 1))) (.fin (.bin .Add (.cons (.p (nL 1)) (.fin (.io 13 (.ref 4 (.val (.p (nL 8)) .nil))) .nil))) .nil))))) (aS ds::fS (jD nl)::Y')) Q:=by
 show i4 (kA (fZ rfl (de rfl (br (aN (a9 ⟨rfl,dc ⟨by simp[cg],[(k0,df ds),(.fz,iD 3)],rfl,lj (by decide) (by decide) c λm o hm l=>⟨rfl,rfl,jA (dX (by decide) (by decide) (by change(-100000:Int)<=(m:Int);lia) (by change(m:Int)<=100000;lia) (by change(m:Int)-0<=100000;lia)) ⟨rfl,?_,?_⟩⟩⟩⟩))))))
 ·change(d8 0 (m:Int)).length<=_;rw[eK];lia
 let x:(d8 0 (m:Int)).length=m:=by rw[eK];lia
 show vt (λi v Y=>∃ins a,v=(ins.map l9).map rD/\ins.length=i/\i<=m/\ins.map (·.1)=(nl.take i).map ef/\(∀p∈ins,1<=p.2/\p.2<=8)/\Pt (24-m) a/\Y=[Sd,Sd,Sd,fS (jD nl),aS a]) ⟨[],o,rfl,rfl,OS _,rfl,λp h=>(by cases h),l,rfl⟩ (λi d v Y e u=>?_) λv Y u=>?_
 ·obtain⟨ins,a,rfl,hi,s,g,j,f,rfl⟩:=u;obtain⟨rfl,y⟩:=qP e;let b:i<nl.length:=by lia
  rw[RN];show oP rfl ⟨rfl,rfl⟩ rfl ?_;show bX (au (aN (a9 ⟨rfl,au (aN (wv (dE rfl rfl (.inl rfl) rfl (by rw[Op,Ot b];rfl)) ⟨rfl,aL (gh (m:=8) rfl rfl f (by decide) (by decide) rfl rfl λr n z t=>aG (bY rfl ⟨_,rfl,rfl,ins++[(ef nl[i],1+r)],n,?_,?_,by lia,?_,?_,t,rfl⟩))⟩))⟩)))
  ·rw[Oz,Oz];rfl
  ·rw[OF,hi];rfl
  ·rw[Oz,g,bQ (Ot b),Oz];rfl
  ·intro p c;rcases OQ.mp c with c|c
   ·show j p c
   ·rw[OV] at c;subst c;show⟨by change 1<=1+r;lia,by change 1+r<=8;lia⟩
 ·obtain⟨ins,a,rfl,hi,s,g,j,f,rfl⟩:=u;show⟨rfl,q ins _ a (by lia) ⟨by rw[g,hi],j,by lia⟩ f⟩
end
abbrev CW(p n kp sp q O W B ro:Option Sl):Ro:=[p,n,kp,fS (.lst []),sp,q,O,Sd,Sd,W,B,ro]
abbrev Nk:IS:=.fo [] (.nm 5) (.p (.e (.bin .Add (.var 4) (.var 9)))) (.cons (.exp (.mutMs "insert" 11 (.fin (.io 13 (.ref 0 (.val (.p (.bin .Add (.blt "len" (.cons (.var 11) .nil)) (nL 1))) .nil))) (.cons (.var 5) .nil)))) .nil)
theorem Ak{a b:List Row}(hl:a.length+b.length<=100)(s:Pt w ds)(q:∀(rs:List Row) (f:List D) (c:Option Sl),rs.Perm (a++b)->Pt w f->Wp (aY Z_32 1000 rest [0] (CW (aS f) n kp (oS (.lst (a.map rD))) c lv (fS (.lst (b.map rD))) wi (oS (.lst (rs.map rD))))) Q):Wp (aY Z_32 1000 (.cons Nk rest) [0] (CW (aS ds) n kp (oS (.lst (a.map rD))) c lv (fS (.lst (b.map rD))) wi (oS (.lst [])))) Q:=by
 show cL (ds:=(a++b).map rD) ((bW (vG ⟨rfl,rfl,by rw[On,On];lia⟩ rfl rfl) rfl).trans (by rw[Oz];rfl)) (λi Y=>∃(rs:List Row) (f:List D) (c:Option Sl),rs.Perm ((a++b).take i)/\Pt w f/\Y=CW (aS f) n kp (oS (.lst (a.map rD))) c lv (fS (.lst (b.map rD))) wi (oS (.lst (rs.map rD)))) ⟨[],ds,c,.nil,s,rfl⟩ (λi d Y e k=>?_) λu k=>?_
 ·obtain⟨rs,f,c,h,g,rfl⟩:=k;rw[Op] at e
  cases j:(a++b)[i]? with
  |none=>rw[j] at e;cases e
  |some r=>
  rw[j] at e;cases e;let t:rs.length<=100:=by rw[h.length_eq,OP,OF];lia
  show⟨[(5,rD r)],rfl,rfl,?_⟩;show eL (Ch rfl (aL (j7 (m:=rs.length+1) rfl rfl g (by lia) (by lia) ((cG (jT (d:=.lst (rs.map rD)) rfl (congrArg Sb (On _))) rfl).trans rfl) λz l p o=>wv (e1 rfl) ⟨_,_,_,_,_,_,_,rfl,rfl,⟨rfl,rfl,by lia,by lia,by rw[On];lia⟩,?_⟩)));show aQ ⟨_,.inl rfl,rs.take z++r::rs.drop z,l,fS (rD r),?_,o,?_⟩
  ·rw[bQ j];show R8.trans ?_;rw[P6];show(h.cons r).trans (List.perm_append_comm (l₁:=[r]))
  ·rw[Oz,OI,Rz,RB];rfl
 ·obtain⟨rs,f,c,h,g,rfl⟩:=k;rw[On,OR] at h;show q rs f c h g
noncomputable abbrev di(ins:List hV)(kept:List (Str×Nat×Nat)):List hV:=ins++kept.map λk=>(k.1,k.2.1)
abbrev Hy(ins:List hV)(os:List Ou)(ms:List Me):List Row:=ins.map l9++(os.map xb++ms.map AB)
theorem D5:∀ins:List hV,(ins.map l9).filterMap rC=ins
 |[]=>rfl
 |_::l=>congrArg (List.cons _) (D5 l)
theorem D6:∀os:List Ou,(os.map xb).filterMap rC=[]
 |[]=>rfl
 |_::l=>D6 l
theorem D7:∀ms:List Me,(ms.map AB).filterMap rC=ms.map λm=>(m.1,m.2.1)
 |[]=>rfl
 |_::l=>congrArg (List.cons _) (D7 l)
theorem D8:∀ins:List hV,(ins.map l9).filterMap CA=[]
 |[]=>rfl
 |_::l=>D8 l
theorem D9:∀os:List Ou,(os.map xb).filterMap CA=os.map λo=>(o.1,o.2.2)
 |[]=>rfl
 |_::l=>congrArg (List.cons _) (D9 l)
theorem Ea:∀ms:List Me,(ms.map AB).filterMap CA=[]
 |[]=>rfl
 |_::l=>Ea l
section
variable {ins:List hV} {kept:List (Str×Nat×Nat)} {nl:List (List Nat)} {i:Nat} {os:List Ou} {ms:List Me} {rs:List Row}
theorem Hz(hm:ms.map (λm=>(m.1,m.2.1,m.2.2.1))=kept):(Hy ins os ms).filterMap rC=di ins kept:=by
 unfold Hy di;rw[Py,Py,D5,D6,D7,Qd,<- hm,OE];rfl
theorem Am:(Hy ins os ms).filterMap CA=os.map λo=>(o.1,o.2.2):=by
 unfold Hy;rw[Py,Py,D8,D9,Ea,Qd,OZ]
theorem HA(h:f∈(Hy ins os ms).filterMap D3):(∃o∈os,o.2.2=f)\/∃m∈ms,m.2.2.2=f:=by
 obtain⟨r,a,e⟩:=OT.mp h;rcases OQ.mp a with a|a
 ·obtain⟨p,_,rfl⟩:=Oy.mp a;cases e
 ·rcases OQ.mp a with a|a
  ·obtain⟨o,b,rfl⟩:=Oy.mp a;cases e;show .inl ⟨o,b,rfl⟩
  ·obtain⟨m,hm,rfl⟩:=Oy.mp a;cases e;show .inr ⟨m,hm,rfl⟩
theorem CY(hn:nl.Nodup)(hnl:nl.length=60)(hi:i<=9)(D:ins.length<=9)(F:kept.length<=9)(h:((di ins kept).map (·.1)).Nodup)(s:∀p∈di ins kept,1<=p.2/\p.2<=8)(t:Nh (Li (di ins kept)) (di ins kept) nl i os)(hm:Ni (Li (di ins kept)) (di ins kept) kept ms)(n:rs.Perm (Hy ins os ms))(B:∀k∈kept,k.2.2<2^k.2.1)(y:∀p∈di ins kept,PyData.strOk p.1=Se)(I:∀l∈nl,Sg l):Mach (Li (di ins kept)) rs:=by
 let j:(rs.filterMap rC).Perm (di ins kept):=by
  have:=n.filterMap rC;rw[Hz hm.eq] at this;show this
 let u:(oT rs).Perm (os.map λo=>(o.1,o.2.2)):=by
  have:=n.filterMap CA;rw[Am] at this;show this
 let E:os.length=i:=by have:=congrArg Pq t.eq;simpa using this
 let C:ms.length=kept.length:=by have:=congrArg Pq hm.eq;simpa using this
 show⟨?_,?_,?_,?_,?_,?_,?_⟩
 ·rw[n.length_eq];simp only[Hy,OF,On]
  lia
 ·rw[(j.map _).nodup_iff];show h
 ·rw[(u.map _).nodup_iff,OE,show os.map ((λx:Str×Fo=>x.1)∘λo:Ou=>(o.1,o.2.2))=os.map (·.1) from rfl,t.eq];show kJ hn hnl hi
 ·intro p v;have:=j.mem_iff.mp v;show⟨(s p this).1,(s p this).2,D2 h this⟩
 ·intro x w b f c;rcases OQ.mp (n.mem_iff.mp c) with c|c
  ·obtain⟨p,_,e⟩:=Oy.mp c;cases e
  ·rcases OQ.mp c with c|c
   ·obtain⟨o,_,e⟩:=Oy.mp c;cases e
   ·obtain⟨m,d,e⟩:=Oy.mp c;cases e;show B (m.1,m.2.1,m.2.2.1) (by rw[<- hm.eq];show Oy.mpr ⟨m,d,rfl⟩)
 ·intro f H;let q:∀{A:Nat},Gw (Li (di ins kept)) (di ins kept) A 3 f->Wf (Li (di ins kept)) f/\dep f<40/\Al (Pc (Li (di ins kept)) λx=>x∈(rs.filterMap rC).map (·.1)) f:=λg=>⟨g.wf,by have:=g.dep;lia,g.al.mono λa z=>⟨z.1,λx e=>((j.map _).mem_iff).mpr (z.2 x e)⟩⟩;rcases HA ((n.filterMap D3).mem_iff.mp H) with⟨o,d,rfl⟩|⟨m,d,rfl⟩
  ·show q (t.ok o d)
  ·show q (hm.ok m d)
 ·intro r c;rcases OQ.mp (n.mem_iff.mp c) with c|c
  ·obtain⟨p,d,rfl⟩:=Oy.mp c;show y p (O5 _ d)
  ·rcases OQ.mp c with c|c
   ·obtain⟨o,d,rfl⟩:=Oy.mp c;have:o.1∈(O9 i).map (xc nl):=by rw[<- t.eq];show Oy.mpr ⟨o,d,rfl⟩
    obtain⟨k,_,e⟩:=Oy.mp this;change PyData.strOk o.1=Se;rw[<- e];show(Sg.getD I _).ok
   ·obtain⟨m,d,rfl⟩:=Oy.mp c;show y (m.1,m.2.1) (OB _ (by rw[<- hm.eq,OE];show Oy.mpr ⟨m,d,rfl⟩))
end
section
variable {ins:List hV} {kept:List (Str×Nat×Nat)} {nl:List (List Nat)} {os:List Ou} {rs:List Row}
theorem xd(b:ins.length<=9)(g:kept.length<=9):aa Z_32.fn (.bin .Add (.comp .fz [Sd,Sd] (.nm 1) (.e (.var 4)) .non (.tup .fz (.cons (.tup .fz (.cons (sL "name") (.cons (.ix (.var 1) (nL 1)) .nil))) (.cons (.ix (.var 1) (nL 2)) .nil)))) (.comp .fz [Sd,Sd] (.nm 1) (.e (.var 2)) .non (.tup .fz (.cons (.tup .fz (.cons (sL "name") (.cons (.ix (.var 1) (nL 0)) .nil))) (.cons (.ix (.var 1) (nL 1)) .nil))))) (CW p n (fS (.lst (kept.map rE))) (oS (.lst ((ins.map l9).map rD))) Sd Sd Sd Sd Sd)=Sb (.fr k0,mC (di ins kept)):=by
 let c1:=GZ (Z:=Z_32.fn) (Y:=CW p n (fS (.lst (kept.map rE))) (oS (.lst ((ins.map l9).map rD))) Sd Sd Sd Sd Sd) (f:=λp=>rD (l9 p)) (r:=.fz) (cap:=[Sd,Sd]) (it:=.e (.var 4)) (elt:=.tup .fz (.cons (.tup .fz (.cons (sL "name") (.cons (.ix (.var 1) (nL 1)) .nil))) (.cons (.ix (.var 1) (nL 2)) .nil))) ((bW rfl rfl).trans (by rw[OE];rfl)) (by lia) λp d=>zD rfl (wv (ck (ck rfl (cv 1)) (cv 2)) ⟨.sh,rfl,rfl⟩);let c:=Lo (Z:=Z_32.fn) (Y:=CW p n (fS (.lst (kept.map rE))) (oS (.lst ((ins.map l9).map rD))) Sd Sd Sd Sd Sd) (r:=.fz) (cap:=[Sd,Sd]) (a:=.var 2) (elt:=.tup .fz (.cons (.tup .fz (.cons (sL "name") (.cons (.ix (.var 1) (nL 0)) .nil))) (.cons (.ix (.var 1) (nL 1)) .nil))) (.inl rfl) rfl rfl (by lia) λp d=>zD rfl (wv (ck (ck rfl (cv 0)) (cv 1)) ⟨.sh,rfl,rfl⟩);rw[vG ⟨rfl,rfl,by rw[On,On];lia⟩ c1 c];unfold mC di;rw[Oz,OE];rfl
theorem CZ(hl:rs.length<1000)(a:((nH os).map (·.1)).Nodup)(d:∀q∈oT rs,q.1∈(nH os).map (·.1)):∃od,aa Z_32.fn (.comp .fz [Sd,Sd,Sb 10] (.nm 1) (.e (.var 11)) (.som (.cmp .Eq (.ix (.var 1) (nL 0)) (sL "out"))) (.tup .fz (.cons (.ix (.var 1) (nL 1)) (.cons (.ix (.var 2) (.ix (.var 1) (nL 1))) .nil)))) (CW p n kp sp row lv mo (fS (kG (nH os))) (fS (.lst (rs.map rD))))=Sb (.fr k0,od):=by
 show⟨.lst ((oT rs).map λq=>.tup [.str q.1,iD (Ex (nH os) q.1)]),?_⟩;show aE (e7 (tH (wv rfl (jB rfl ⟨by rw[On];lia,wv (Aa rs λr h=>?_) rfl⟩))))
 cases r with
 |inp x w=>show .inr ⟨rfl,o3 rfl (b7 (r:=.inp x w) rfl (by nofun:aq .Eq (.str "in") (.str "out")=Sb Sf))⟩
 |mem x w b f=>show .inr ⟨rfl,o3 rfl (b7 (r:=.mem x w b f) rfl (by nofun:aq .Eq (.str "memory") (.str "out")=Sb Sf))⟩
 |out o f=>
  obtain⟨p,c,e⟩:=Oy.mp (d (o,f) (OT.mpr ⟨_,h,rfl⟩));let g:Ex (nH os) o=p.2.2:=by rw[<- show p.1=o from e];show(Af a c).2
  show .inl ⟨(o,f),.sh,rfl,vW rfl (b7 (r:=.out o f) rfl (by nofun:aq .Eq (.str "out") (.str "out")=Sb Se)) (ck (cv 1) ?_),rfl⟩;rw[g];show DP c a rfl (by rw[show p.1=o from e];show cv 1)
end
section
variable {kept:List (Str×Nat×Nat)} {nl:List (List Nat)}
structure Lr(nl:List (List Nat))(kept:List (Str×Nat×Nat)):Prop where
 le:kept.length<=9
 nn:kept.map (·.1)=((nl.drop 9).take kept.length).map ef
 wd:∀k∈kept,1<=k.2.1/\k.2.1<=8/\k.2.2<2^k.2.1
theorem HB(hn:nl.Nodup)(hi:Nj nl ins)(hk:Lr nl kept):((di ins kept).map (·.1)).Nodup:=by
 let e:(di ins kept).map (·.1)=(nl.take ins.length++(nl.drop 9).take kept.length).map ef:=by
  unfold di;rw[Oz,OE,Oz,<- hk.nn,hi.nn];rfl
 rw[e];show CV ?_ rfl;let a:(nl.take 9++nl.drop 9).Nodup:=by rw[P6];show hn
 show a.sublist (List.Sublist.append ?_ (Qs _ _));have:=hi.le;rw[<- Qe this,<- List.take_take];show Qs _ _
theorem KL(c:∀l∈nl,Sg l)(hi:Nj nl ins)(hk:Lr nl kept):∀p∈di ins kept,PyData.strOk p.1=Se:=by
 intro p a;rcases OQ.mp a with a|a
 ·have:p.1∈(nl.take ins.length).map ef:=by rw[<- hi.nn];show Oy.mpr ⟨p,a,rfl⟩
  obtain⟨l,b,e⟩:=Oy.mp this;rw[<- e];show(c l (Rv b)).ok
 ·obtain⟨k,b,rfl⟩:=Oy.mp a;have:k.1∈((nl.drop 9).take kept.length).map ef:=by rw[<- hk.nn];show Oy.mpr ⟨k,b,rfl⟩
  obtain⟨l,b,e⟩:=Oy.mp this;rw[<- e];show(c l (List.mem_of_mem_drop (Rv b))).ok
theorem Ao(I:∀l∈nl,Sg l)(hn:nl.Nodup)(hnl:nl.length=60){pn:List Nat}(r:nl[20]?=Sb pn)(hk:Lr nl kept){ds:List D}(d:Pt 24 ds){Q:Kd×D×List (Option iQ)->Prop}(q:∀L rs od w n,Mach L rs->Pt w n->Q (.sh,.tup [sD pn,ee rs (ef pn) od],[Sb (k0,df n),Sd,Sd,Sd])):Wp (Ln [(k0,df ds),(.fz,jD nl),(.fz,.lst (kept.map rE)),(.fz,.lst [])]) Q:=by
 unfold Ln;show qR rfl ?_;unfold MS;show bU (Aj hnl d λb w t M hi s=>⟨⟨rfl,by decide⟩,?_⟩);show aR (xd hi.le hk.le) rfl (by decide) ?_;show oW (bW (k:=.sh) rfl rfl) ?_;let hls:=HB hn hi hk
 let E:∀p∈di b kept,1<=p.2/\p.2<=8:=λp d=>by
  rcases OQ.mp d with d|d
  ·show hi.wd p d
  ·obtain⟨k,a,rfl⟩:=Oy.mp d;show⟨(hk.wd k a).1,(hk.wd k a).2.1⟩
 let j:(di b kept).length<=100:=by
  have:=hi.le;have:=hk.le;simp only[di,OF,On];lia
 show oN (fZ rfl (de rfl (br (aN (wv rfl ⟨rfl,br (dW rfl ⟨rfl,br (aN (wv rfl ⟨rfl,br (aN (wv rfl ⟨rfl,dc ⟨by simp[cg],[(k0,df t),(.fz,jD nl),(.fz,mC (di b kept)),(.fz,.lst (kept.map rE)),(.fz,.lst [])],rfl,Ai (λp d=>D2 hls d) j hn hnl hk.le (λk a=>⟨(hk.wd k a).1,(hk.wd k a).2.1⟩) M s λi c A S N g v hm y=>⟨rfl,rfl,_,_,_,rfl,rfl,⟨rfl,by decide⟩,?_⟩⟩⟩))⟩))⟩)⟩)))));show aR rfl rfl (by decide) ?_;let O:c.length=i:=by have:=congrArg Pq v.eq;simpa using this
 let K:A.length=kept.length:=by have:=congrArg Pq hm.eq;simpa using this
 show Ak (by have:=hi.le;have:=hk.le;simp only[OF,On];lia) y λrs e f H u=>?_;let F:=CY hn hnl g hi.le hk.le hls E v hm H (λk h=>(hk.wd k h).2.2) (KL I hi hk) I;show vT ?_;change Wp (aY Z_32 1000 _ [0] (CW (aS e) (fS (jD nl)) (fS (.lst (kept.map rE))) (oS (.lst ((b.map l9).map rD))) f Sd (fS (.lst ((c.map xb++A.map AB).map rD))) (fS (kG (nH c))) (fS (.lst (rs.map rD))))) _
 let z:((nH c).map (·.1)).Nodup:=by
  rw[OE,show c.map ((λx:d9=>x.1)∘λo:Ou=>(o.1,0,o.2.1))=c.map (·.1) from rfl,v.eq];show kJ hn hnl g
 let C:∀q∈oT rs,q.1∈(nH c).map (·.1):=λq P=>by
  have:=(H.filterMap CA).mem_iff.mp P;rw[Am] at this;obtain⟨o,R,rfl⟩:=Oy.mp this;show Oy.mpr ⟨_,Oy.mpr ⟨o,R,rfl⟩,rfl⟩
 obtain⟨od,B⟩:=CZ F.len z C;let m:aa Z_32.fn (.ix (.var 1) (nL 20)) (CW (aS e) (fS (jD nl)) (fS (.lst (kept.map rE))) (oS (.lst ((b.map l9).map rD))) f Sd (fS (.lst ((c.map xb++A.map AB).map rD))) (fS (kG (nH c))) (fS (.lst (rs.map rD))))=Sb (.sh,sD pn):=dE (k:=.sh) rfl rfl (.inl rfl) rfl (by rw[Op,r];rfl);show bP (x:=(.sh,.tup [sD pn,ee rs (ef pn) od])) ?_ rfl (f6 rfl (q _ rs od _ e F u))
 rw[iM,e2 m (by
  rw[yx,m,iM,e2 rfl B];rfl)]
 rfl
end
theorem C0{w:Int}{ds:List D}(h:Pt w ds){s0:Option Sl}{Y':Ro}{Q:Kd×D×Ro->Prop}(q:∀(n:Nat) a,1<=n->n<=9->Pt w a->Q (.sh,iD n,s0::aS a::Y')):Wp (aO Z_33 (.bin .Add (.cons (.p (nL 1)) (.fin (.io 13 (.ref 1 (.val (.ix (.cons (.p (.lst (.own [] .fz) (.cons (nL 4) (.cons (nL 9) .nil)))) (.fin (.blt "int" (.fin (.cmp .Eq (.fin (.io 13 (.ref 1 (.val (.p (nL 8)) .nil))) (.cons (nL 0) .nil))) .nil)) .nil))) .nil))) .nil))) (s0::aS ds::Y')) Q:=by
 show oM (au (aN (a9 ⟨rfl,aL (fZ rfl (de rfl (br (vo (au (aN (wv rfl ⟨rfl,aL (oK (aL (zO (aL (j7 rfl rfl h (by decide) (by decide) rfl λb c _ j=>aX (a9 (aG ⟨_,_,decide ((b:Int)=0),rfl,?_,aG ?_⟩)))))))⟩)))))))⟩)))
 ·show mh (qM rfl)
 show wv (tU _) (aG ⟨_,_,rfl,?_⟩)
 obtain⟨g,i,l,f⟩:∃g:Nat,1<=g/\g<=9/\sB (Sb (Kd.fr k0,D.lst [iD 4,iD 9])) (Sb (Kd.sh,bD (decide ((b:Int)=0))))=Sb (.sh,iD g):=by
  cases decide ((b:Int)=0)
  ·show⟨4,by decide,by decide,rfl⟩
  ·show⟨9,by decide,by decide,rfl⟩
 show wv f ⟨rfl,dc ⟨by simp[cg],[(k0,df c),(.fz,iD g)],rfl,vR (by lia) (by lia) j λr d k e=>⟨rfl,rfl,aG ⟨_,_,rfl,oI ?_⟩⟩⟩⟩;have:=q (1+r) d (by lia) (by lia) e;rw[show((1:Int)+(r:Int))=((1+r:Nat):Int) by lia];show this
theorem Ap{w:Int}{ds:List D}(f:Pt w ds){n:Nat}(hn:n<=9){s0 s2:Option Sl}{Y':Ro}{Q:Kd×D×Ro->Prop}(q:∀(b:List Nat) k,b.length=n->(∀x∈b,1<=x/\x<=8)->Pt w k->Q (.fr k0,.lst (b.map iD),s0::aS k::s2::fS (iD n)::Y')):Wp (aO Z_33 (.comp .fz [Sd,Sd,Sd,Sb 1] (.nm 1) (.p (.rng (nL 0) (.var 3))) .non (.bin .Add (.cons (.p (nL 1)) (.fin (.io 13 (.ref 3 (.val (.p (nL 8)) .nil))) .nil)))) (s0::aS ds::s2::fS (iD n)::Y')) Q:=by
 let j:(d8 0 (n:Int)).length=n:=by rw[eK];lia
 show i4 (lS (wv (mh (oH (a9 (wv rfl (jA (dX (by decide) (by decide) (by change(-100000:Int)<=(n:Int);lia) (by change(n:Int)<=100000;lia) (by change(n:Int)-0<=100000;lia)) rfl))))) ⟨rfl,by change(d8 0 (n:Int)).length<=_;lia,?_⟩));show vt (λi s Y=>∃b a,s=b.map iD/\b.length=i/\(∀x∈b,1<=x/\x<=8)/\Pt w a/\Y=[Sd,Sd,Sd,aS a]) ⟨[],ds,rfl,rfl,λp h=>(by cases h),f,rfl⟩ (λi d s Y e l=>?_) λs Y l=>?_
 ·obtain⟨b,a,rfl,hi,g,c,rfl⟩:=l;show oP rfl ⟨rfl,rfl⟩ rfl ?_;show gh (m:=8) rfl rfl c (by decide) (by decide) rfl rfl λr o u t=>⟨_,rfl,rfl,b++[1+r],o,?_,?_,?_,t,rfl⟩
  ·rw[Oz];rfl
  ·rw[OF,hi];rfl
  ·intro p f;rcases OQ.mp f with f|f
   ·show g p f
   ·rw[OV] at f
    lia
 ·obtain⟨b,a,rfl,hi,g,c,rfl⟩:=l;show⟨rfl,q b a (by rw[hi];show j) g c⟩
theorem Aq{nl:List (List Nat)}(hnl:nl.length=60){w:Int}{ds:List D}(C:Pt w ds){f:List Nat}(hl:f.length<=9)(F:∀x∈f,1<=x/\x<=8){s0 s3:Option Sl}{Y':Ro}{Q:Kd×D×Ro->Prop}(q:∀kept l,Lr nl kept->Pt w l->Q (.fr k0,.lst (kept.map rE),s0::aS l::oS (jD nl)::s3::fS (.lst (f.map iD))::Y')):Wp (aO Z_33 (.comp .fz [Sd,Sd,Sd,Sd,Sb 2,Sb 1] (.tp [(.nm 1),(.nm 2)]) (.p (.enm (.var 4))) .non (.tup .fz (.cons (.p (.ix (.var 4) (.bin .Add (nL 9) (.var 1)))) (.cons (.p (.var 2)) (.fin (.io 13 (.ref 5 (.val (.p (.bin .LShift (nL 1) (.var 2))) .nil))) .nil))))) (s0::aS ds::oS (jD nl)::s3::fS (.lst (f.map iD))::Y')) Q:=by
 show i4 (lS (wv (DR rfl rfl) ⟨rfl,by rw[RQ,On];lia,?_⟩));show vt (λi s Y=>∃b a,s=b.map rE/\b.length=i/\b.map (·.1)=((nl.drop 9).take i).map ef/\(∀k∈b,1<=k.2.1/\k.2.1<=8/\k.2.2<2^k.2.1)/\Pt w a/\Y=[Sd,Sd,Sd,Sd,oS (jD nl),aS a]) ⟨[],ds,rfl,rfl,rfl,λp h=>(by cases h),C,rfl⟩ (λi d s Y e r=>?_) λs Y r=>?_
 ·obtain⟨b,a,rfl,hi,g,j,c,rfl⟩:=r;rw[Rr,Op] at e
  cases m:f[i]? with
  |none=>rw[m] at e;cases e
  |some x=>
  rw[m] at e;cases e;let A:=F x (OK m);let E:i<9:=by have:=(OA.mp m).1;lia
  let u:9+i<nl.length:=by lia
  let B:(nl.drop 9)[i]?=Sb nl[9+i]:=by rw[RL,Ot u]
  show oP rfl ⟨rfl,rfl⟩ rfl ?_;let t:aa Z_33.fn (.bin .Add (nL 9) (.var 1)) [Sd,fS (iD i),fS (iD x),Sd,oS (jD nl),aS a]=Sb (.sh,.int ((9+i:Nat):Int)):=(cG rfl rfl).trans (by congr 3);show bX (au (aN (wv (dE (k:=.bo 4 k0) rfl t (.inl rfl) rfl (by rw[Op,Ot u];rfl)) ⟨rfl,au (aN (wv rfl ⟨rfl,aL (j7 rfl rfl c ?_ ?_ (jV (by decide) (by lia) rfl rfl) λv n y o=>aG (bY rfl ⟨_,rfl,rfl,b++[(ef nl[9+i],x,v)],n,?_,?_,?_,?_,o,rfl⟩))⟩))⟩)))
  ·rw[OY];show O4 _
  ·rw[OY];show PN (by decide) (by lia)
  ·rw[Oz];rfl
  ·rw[OF,hi];rfl
  ·rw[Oz,g,bQ B,Oz];rfl
  ·intro k hk;rcases OQ.mp hk with hk|hk
   ·show j k hk
   ·rw[OV] at hk;subst hk;rw[OY] at y;show⟨A.1,A.2,y⟩
 ·obtain⟨b,a,rfl,hi,g,j,c,rfl⟩:=r;let z:b.length=f.length:=by rw[hi];change((f.map iD).mapIdx _).length=_;rw[RQ,On]
  show⟨rfl,q b a ⟨by lia,by rw[g,hi],j⟩ c⟩
abbrev rF(t:List d9):D:=.lst (t.map λp=>iD p.2.2)
theorem Ar{L:Str->Nat}{rs:List Row}{pn:Str}{od:D}(h:Mach L rs){w:Int}{ds:List D}(x:Pt w ds){s0 s2 s3 s4 s5:Option Sl}{Y':Ro}{Q:Kd×D×Ro->Prop}(q:∀(c:List (List d9)) g,c.length<=4->(∀t∈c,Tr (rs.filterMap t7) t)->Pt w g->Q (.fr k0,.lst (c.map rF),s0::aS g::s2::s3::s4::s5::fS (.str pn)::fS (ee rs pn od)::Y')):Wp (aO Z_33 (.comp .fz [Sd,Sd,Sd,Sb 6,Sb 7,Sb 1] (.nm 1) (.rng (.bin .Add (.cons (.p (nL 1)) (.fin (.io 13 (.ref 1 (.val (.p (nL 4)) .nil))) .nil)))) .non (.io 28 (.ref 5 (.val (.p (.var 4)) (.val (.p (.var 3)) .nil))))) (s0::aS ds::s2::s3::s4::s5::fS (.str pn)::fS (ee rs pn od)::Y')) Q:=by
 show i4 (kA (gh (m:=4) rfl rfl x (by decide) (by decide) rfl rfl λm l hm j=>jA (dX (by decide) (by decide) (by change(-100000:Int)<=((1+m:Nat):Int);lia) (by change((1+m:Nat):Int)<=100000;lia) (by change((1+m:Nat):Int)-0<=100000;lia)) ⟨rfl,?_,?_⟩))
 ·change(d8 0 ((1+m:Nat):Int)).length<=_;rw[eK];lia
 let v:(d8 0 ((1+m:Nat):Int)).length=1+m:=by rw[eK];lia
 show vt (λi s Y=>∃c b,s=c.map rF/\c.length=i/\(∀t∈c,Tr (rs.filterMap t7) t)/\Pt w b/\Y=[Sd,Sd,Sd,fS (.str pn),fS (ee rs pn od),aS b]) ⟨[],l,rfl,rfl,λp h=>(by cases h),j,rfl⟩ (λi d s Y e r=>?_) λs Y r=>?_
 ·obtain⟨c,b,rfl,hi,u,f,rfl⟩:=r;show oP rfl ⟨rfl,rfl⟩ rfl ?_;show fZ rfl (de rfl (br (aN (wv rfl ⟨rfl,br (aN (wv rfl ⟨rfl,dc ⟨by simp[cg],[(k0,df b),(.fz,ee rs pn od),(.fz,.str pn)],rfl,Hw h f λy k o n=>⟨rfl,rfl,_,rfl,rfl,c++[y],k,?_,?_,?_,n,rfl⟩⟩⟩))⟩))))
  ·rw[Oz];rfl
  ·rw[OF,hi];rfl
  ·intro t a;rcases OQ.mp a with a|a
   ·show u t a
   ·rw[OV] at a;subst a;show o
 ·obtain⟨c,b,rfl,hi,u,f,rfl⟩:=r;show⟨rfl,q c b (by rw[hi];change(d8 0 ((1+m:Nat):Int)).length<=4;lia) u f⟩
theorem map_cons{f:D->Ro->Option (Option KD×Ro)}{Q:List D×Ro->Prop}(h:Wp (f d Y) λo=>(∃kd,o.1=Sb kd/\bE r kd=Se/\Wp (az r f ds o.2) λp=>Q (kd.2::p.1,p.2))\/(o.1=Sd/\Wp (az r f ds o.2) Q)):Wp (az r f (d::ds) Y) Q:=by
 obtain⟨⟨o,c⟩,e,h⟩:=h;rcases h with⟨kd,a,b,⟨i,g⟩,e2,q⟩|⟨a,p,e2,q⟩
 ·dsimp only at a;subst a;show⟨_,by rw[az,e];dsimp only;rw[if_pos b,e2],q⟩
 ·dsimp only at a;subst a;show⟨p,by rw[az,e];show e2,q⟩
abbrev Oj:D->Ro->Option (Option KD×Ro):=eX [Sd,Sd,Sd,Sb 1] (.nm 1) (mx Z_33 (.som (.p (.cmp .Eq (.ix (.var 1) (nL 0)) (sL "in"))))) (aO Z_33 (.io 13 (.ref 3 (.val (.p (.bin .LShift (nL 1) (.ix (.var 1) (nL 2)))) .nil))))
theorem kK:∀(rs:List Row),(∀p∈rs.filterMap KI,1<=p.2/\p.2<=8)->∀{ds:List D},Pt w ds->∀{Q:List D×Ro->Prop},(∀ti c,Tr (rs.filterMap KI) ti->Pt w c->Q (ti.map (λp=>iD p.2.2),[Sd,Sd,Sd,aS c]))->Wp (az .fz Oj (rs.map rD) [Sd,Sd,Sd,aS ds]) Q
 |[],_,ds,a,Q,q=>⟨_,rfl,q [] ds ⟨rfl,λp h=>by cases h⟩ a⟩
 |.inp x wd::rs,hw,ds,a,Q,q=>by
  let j:=hw (x,wd) OL;show map_cons (oO rfl ⟨rfl,rfl⟩ ⟨(Se,[Sd,fS (rD (.inp x wd)),Sd,aS ds]),?_,λ_=>?_,λe=>by cases e⟩)
  ·show mh (nk (wv (b7 (r:=.inp x wd) rfl (by nofun:aq .Eq (.str "in") (.str "in")=Sb Se)) rfl))
  show j7 (m:=1 <<< wd) rfl rfl a ?_ ?_ (jV (by decide) (by have:=j.2;dsimp only at this;lia) rfl (cv 2)) λv n l g=>.inl ⟨_,rfl,rfl,kK rs (λp h=>hw p (OH _ h)) g λti i k d=>q ((x,wd,v)::ti) i ⟨?_,?_⟩ d⟩
  ·rw[OY];show O4 _
  ·rw[OY];show PN (by decide) (by have:=j.2;dsimp only at this;lia)
  ·rw[OI,k.eq];rfl
  ·intro p a;rw[OY] at l;rcases OD.mp a with rfl|a
   ·show l
   ·show k.lt p a
 |.mem x wd b f::rs,hw,ds,a,Q,q=>by
  show map_cons (oO rfl ⟨rfl,rfl⟩ ⟨(Sf,[Sd,fS (rD (.mem x wd b f)),Sd,aS ds]),?_,(λe=>by cases e),λ_=>.inr ⟨rfl,kK rs hw a q⟩⟩);show mh (nk (wv (b7 (r:=.mem x wd b f) rfl (by nofun:aq .Eq (.str "memory") (.str "in")=Sb Sf)) rfl))
 |.out o f::rs,hw,ds,a,Q,q=>by
  show map_cons (oO rfl ⟨rfl,rfl⟩ ⟨(Sf,[Sd,fS (rD (.out o f)),Sd,aS ds]),?_,(λe=>by cases e),λ_=>.inr ⟨rfl,kK rs hw a q⟩⟩);show mh (nk (wv (b7 (r:=.out o f) rfl (by nofun:aq .Eq (.str "out") (.str "in")=Sb Sf)) rfl))
noncomputable abbrev E0:Str->Nat:=λ_=>0
abbrev j9(rs:List Row):List d9:=(mT E0 rs).map λm=>(m.1.1,m.1.2.1,m.2.1)
theorem t8(rs:List Row):D.lst ((mT E0 rs).map λm=>iD m.2.1)=rF (j9 rs):=by
 unfold rF j9;rw[OE];rfl
theorem HC{rs:List Row}(h:Mach L rs):Tr (rs.filterMap t7) (j9 rs):=by
 show⟨?_,λp d=>?_⟩
 ·let a:∀rs:List Row,((mT E0 rs).map λm=>((m.1.1,m.1.2.1):hV))=rs.filterMap t7:=λrs=>by
   have:=congrArg (QH λp:d9=>((p.1,p.2.1):hV)) (Ag E0 rs);rw[OE,OE] at this;show this.trans ((PU λp _=>rfl).trans (RV _))
  rw[OE];show a rs
 ·obtain⟨m,hm,rfl⟩:=Oy.mp d;obtain⟨r,c,e⟩:=OT.mp hm
  cases r with
  |inp x w=>cases e
  |out o f=>cases e
  |mem x w b f=>cases e;show h.bg x w b f c
theorem xf{L:Str->Nat}{rs:List Row}{pn:Str}(h:Mach L rs){w:Int}{ds:List D}(d:Pt w ds){s0 s2 s3 s4 s5 s6 g:Option Sl}{Y':Ro}{Q:Kd×D×Ro->Prop}(q:∀ti a,Tr (rs.filterMap KI) ti->Pt w a->Q (.fr k0,rF ti,s0::aS a::s2::s3::s4::s5::s6::g::fS (cH rs pn)::Y')):Wp (aO Z_33 (.comp .fz [Sd,Sd,Sd,Sb 1] (.nm 1) (.p (.e (.ix (.ix (.var 8) (nL 0)) (nL 1)))) (.som (.p (.cmp .Eq (.ix (.var 1) (nL 0)) (sL "in")))) (.io 13 (.ref 3 (.val (.p (.bin .LShift (nL 1) (.ix (.var 1) (nL 2)))) .nil)))) (s0::aS ds::s2::s3::s4::s5::s6::g::fS (cH rs pn)::Y')) Q:=by
 show i4 (lS (wv (bW (cv 1 (dE (k:=.sh) rfl rfl (.inl rfl) rfl rfl)) rfl) ⟨rfl,by rw[On];have:=h.len;lia,?_⟩));show kK rs (λp d=>?_) d λti a i c=>⟨rfl,q ti a i c⟩;obtain⟨r,j,e⟩:=OT.mp d
 cases r with
 |inp x w=>cases e;have:=h.wd (x,w) (OT.mpr ⟨_,j,rfl⟩);show⟨this.1,this.2.1⟩
 |mem x w b f=>cases e
 |out o f=>cases e
theorem Nl:[("in":Str),"memory","out","name","number","not","and","or","xor","plus","minus","if","join","less","same","cut"].all PyData.strOk=Se:=by nofun
theorem ma{x:Str}(h:x∈[("in":Str),"memory","out","name","number","not","and","or","xor","plus","minus","if","join","less","same","cut"]):PyData.strOk x=Se:=Pw.mp Nl x h
theorem pk2{n:Nat}(x:cC n a=Se)(y:cC n b=Se):cC (n+1) (.tup [a,b])=Se:=by
 simp[D.tup,cC,gC,x,y]
theorem HX{n:Nat}(x:cC n a=Se)(y:cC n b=Se)(z:cC n c=Se):cC (n+1) (.tup [a,b,c])=Se:=by
 simp[D.tup,cC,gC,x,y,z]
theorem pe{n:Nat}(x:cC n a=Se)(y:cC n b=Se)(z:cC n c=Se)(w:cC n d=Se):cC (n+1) (.tup [a,b,c,d])=Se:=by
 simp[D.tup,cC,gC,x,y,z,w]
theorem dq{X:Str->Prop}(b:∀x,X x->PyData.strOk x=Se):∀(f:Fo) (n:Nat),dep f<n->Al (Pc L X) f->cC n (dY f)=Se
 |_,0,h,_=>absurd h (Qf _)
 |.name x,n+1,_,a=>pk2 (ma (by simp)) (b x (a.2 x rfl))
 |.num w v,n+1,_,a=>HX (ma (by simp)) rfl rfl
 |.not x,n+1,h,a=>pk2 (ma (by simp)) (dq b x n (by simp only[dep] at h;lia) a.2)
 |.two o x y,n+1,h,a=>HX (ma (by cases o<;>simp[DF])) (dq b x n (by simp only[dep] at h;lia) a.2.1) (dq b y n (by simp only[dep] at h;lia) a.2.2)
 |.ite c x y,n+1,h,a=>pe (ma (by simp)) (dq b c n (by simp only[dep] at h;lia) a.2.1) (dq b x n (by simp only[dep] at h;lia) a.2.2.1) (dq b y n (by simp only[dep] at h;lia) a.2.2.2)
 |.join x y,n+1,h,a=>HX (ma (by simp)) (dq b x n (by simp only[dep] at h;lia) a.2.1) (dq b y n (by simp only[dep] at h;lia) a.2.2)
 |.cmp l x y,n+1,h,a=>HX (ma (by cases l<;>simp)) (dq b x n (by simp only[dep] at h;lia) a.2.1) (dq b y n (by simp only[dep] at h;lia) a.2.2)
 |.cut x lo w,n+1,h,a=>pe (ma (by simp)) (dq b x n (by simp only[dep] at h;lia) a.2) rfl rfl
theorem C4{rs:List Row}(h:Mach L rs)(c:r∈rs):cC 87 (rD r)=Se:=by
 let j:∀x,x∈(rs.filterMap rC).map (·.1)->PyData.strOk x=Se:=λx i=>by
  obtain⟨p,k,rfl⟩:=Oy.mp i;obtain⟨r,c,e⟩:=OT.mp k;have:=h.so r c
  cases r with
  |inp x w=>cases e;show this
  |mem x w b f=>cases e;show this
  |out o f=>cases e
 let d:∀f,D3 r=Sb f->cC 86 (dY f)=Se:=λf e=>by
  obtain⟨_,l,g⟩:=h.fo f (OT.mpr ⟨r,c,e⟩);show dq j f 86 (by lia) g
 let a:=h.so r c
 cases r with
 |inp x w=>show HX (ma (by simp)) a rfl
 |mem x w b f=>
  let hm:PyData.strOk "memory" = Se:=ma (by simp);let a:PyData.strOk x=Se:=a;simp[rD,D.tup,cC,gC,hm,a,d f rfl]
 |out x f=>show HX (ma (by simp)) a (d f rfl)
theorem As(h:Mach L rs)(b:PyData.strOk x=Se):cC 90 (cH rs x)=Se:=by
 let hl:gC 87 (rs.map rD)=Se:=kB λd a=>by
  obtain⟨r,c,rfl⟩:=Oy.mp a;show C4 h c
 change(Se&&((Se&&((PyData.strOk x)&&((Se&&gC 87 (rs.map rD))&&Se)))&&Se))=Se;rw[hl,b];rfl
theorem e5(g:aa Z a Y=Sb p)(h:aa Z b Y=Sb q)(f:aa Z c Y=Sb u)(hd:aa Z d Y=Sb t)(i:aa Z e Y=Sb v):aP Z (.cons a (.cons b (.cons c (.cons d (.cons e .nil))))) Y=Sb [p,q,u,t,v]:=mh (aX (wv g (aX (wv h (aX (wv f (aX (wv hd (aX (wv i (aG rfl)))))))))))
abbrev Ol(q:List Int)(ds:List D)(s2 s3 s4 s5 s6 B s8 s9 mf Ay Az:Option Sl):Ro:=[fS (.scr q),aS ds,s2,s3,s4,s5,s6,B,s8,s9,mf,Ay,Az]
theorem Au(C:List Int)(hl:C.length<=63):Ki [.scr C]=Sb (.sh,.bl Se):=by
 unfold Ki;show c6 rfl ?_;unfold MU;show bU (aN (zk rfl (wv (e1 rfl) (qN ((Hr hl λI hp=>⟨rfl,.inl rfl,⟨rfl,by decide⟩,?_⟩))))));show bU (fZ rfl (de rfl (dc ⟨by simp[cg],[(k0,df I)],rfl,zT hp λV hb hn hnl W v=>⟨rfl,rfl,⟨rfl,by decide⟩,?_⟩⟩)));obtain⟨b,j⟩:∃b,V[20]?=Sb b:=⟨_,Ot (by lia)⟩;show bU (C0 v λn hf he M S=>⟨⟨rfl,by decide⟩,?_⟩);show bU (Ap S M λws ha X A B=>⟨⟨rfl,by decide⟩,?_⟩);show vT ?_;show bU (Aq hnl B (by lia) A λl F hk N=>⟨⟨rfl,by decide⟩,?_⟩);show oN (fZ rfl (de rfl (br (dW rfl ⟨rfl,br (dW rfl ⟨rfl,br (aN (wv rfl ⟨rfl,dc ⟨by simp[cg],[(k0,df F),(.fz,jD V),(.fz,.lst (l.map rE)),(.fz,.lst [])],rfl,Ao W hn hnl j hk N λL a Z w hc c y=>⟨rfl,rfl,_,_,_,rfl,rfl,⟨rfl,by decide⟩,?_⟩⟩⟩))⟩)⟩))));let q:(mT E0 a).length<1000:=hJ c.len;show aR (x:=(.fr k0,cH a (ef b))) ?_ rfl (by decide) ?_
 ·rw[kj,e1 (by rw[iM,e2 rfl (nw (e1 (l6 rfl rfl)) (aE (oJ rfl rfl)))];rfl)];rfl
 show bU (zr rfl (aL (vn rfl (wv (e1 rfl) (wv (Ac (rn (E:=E0) c.len) rfl rfl rfl) ⟨⟨rfl,by decide⟩,?_⟩)))));show ab (jJ (x:=Se) (Cq (lV rfl (e2 rfl (bM rfl (e2 rfl rfl) rfl rfl (rq c.len) rfl)) rfl rfl (kI _ q) rfl))) ?_;show eL (i6 rfl rfl rfl (by rw[On];lia) ?_);show bU (oM (au (aN (wv (r:=(.fr k0,.lst [rF (j9 a)])) ?_ ⟨rfl,aL (Ar c y λQ u hd ht z=>aG ⟨_,_,rfl,zo ⟨rfl,rfl,by rw[On];change 1+_<=_;lia⟩ ⟨⟨rfl,by decide⟩,?_⟩⟩)⟩))))
 ·rw[kj,e1 (p:=(.fr k0,rF (j9 a))) (by rw[<- t8];show bM rfl (e2 rfl rfl) rfl rfl (rq c.len) rfl)];rfl
 let s:∀t∈j9 a::Q,Tr (a.filterMap t7) t:=λt h=>by
  rcases OD.mp h with rfl|h
  ·show HC c
  ·show ht t h
 show let R:List D->Option Sl->Option Sl->Option Sl->Ro:=λI mf Ay Az=>Ol C I Sd (fS (iD n)) (fS (.lst (ws.map iD))) Sd (fS (sD b)) (fS (ee a (ef b) Z)) (fS (cH a (ef b))) (oS (.lst (((mT E0 a).map λm=>iD m.2.1)++[iD 3]))) mf Ay Az;?_;change Wp (aY Z_33 1000 _ [] (R u (oS (.lst ((j9 a::Q).map rF))) Sd Sd)) _;show vq (lS (wv (bW (k:=.bo 10 k0) rfl rfl) ⟨λ_ Y=>∃f Ay Az,Pt w f/\Y=R f Sd Ay Az,⟨u,Sd,Sd,z,rfl⟩,λi d Y e P=>?_,λY' P=>?_⟩))
 ·obtain⟨f,Ay,Az,o,rfl⟩:=P;obtain⟨t,O,rfl⟩:=Oy.mp (OK e);show⟨[(11,rF t)],rfl,rfl,?_⟩;show bU (xf c o λti T U K=>⟨⟨rfl,show 12∉[10] by decide⟩,?_⟩);show ab (jJ (x:=Se) (Cq (lV rfl (e5 rfl rfl rfl rfl rfl) rfl rfl (xa c U (s t O)) rfl))) (aQ ⟨_,.inl rfl,T,fS (rF t),oS (rF ti),K,rfl⟩)
 ·obtain⟨f,Ay,Az,o,rfl⟩:=P;let g:cC 90 (cH a (ef b))=Se:=As c (W b (OK j)).ok;show vT ?_;show bP (x:=(.sh,.bl Se)) ?_ rfl (gR rfl rfl);show qX (k:=.sh) (x:=Se) ?_ λ_=>vH (gW (fH (k':=.fr k0) (d':=cH a (ef b)) rfl ?_ ?_))
  ·let H:∀Y:Ro,Y[10]?=Sb (oS (.lst ((j9 a::Q).map rF)))->aa Z_33.fn (.ix (.var 10) (nL 0)) Y=Sb (o9 (.bo 10 k0) 0,rF (j9 a)):=λY h=>dE (by rw[uD,h];rfl) rfl (.inl rfl) rfl rfl;let f1:ψ1 [cH a (ef b),.str (ef b)]=Sb (.fr k0,rF (j9 a)):=by rw[<- t8];show rn c.len
   let s1:sm 10 [rF (j9 a),rF (j9 a)]=Sb (.sh,.bl Se):=by rw[<- t8];show kI _ q
   show lV rfl (e2 (bM rfl (e2 rfl rfl) rfl rfl f1 rfl) (H _ rfl)) rfl rfl s1 rfl
  ·rw[kj,e1 (by rw[iM,e2 rfl (l6 rfl rfl)];rfl)];rfl
  ·show(if_pos ⟨g,g⟩).trans (by rw[qT g])
abbrev HD:Pos:=match zv with|.FunctionDef _ _ _ _ _ _ _ _ _ p=>p|_=>⟨0,0,0,0⟩
noncomputable abbrev sv(x:String)(t:Tok):Sh:=.str (Str.ofString x) t
noncomputable abbrev E(P:Params)(x:String)(t:Tok)(v:Sh):DictEntry:=⟨PyData.keyHash P (Str.ofString x),.str (Str.ofString x) t,v⟩
abbrev fO(x:String)(st:Su)(m:Sh)(c:Sj):Obj:=⟨.type "function",Sd,.func (Pl (Str.ofString x) (Str.ofString x) (cz st) (aU st) (ai st) .none .none .none m Sd (.ref c) .none),#[]⟩
abbrev fQ(x y:String)(st:Su)(m:Sh)(c:Sj):Obj:=⟨.type "function",Sd,.func (Pl (Str.ofString x) (Str.ofString y) (cz st) (aU st) (ai st) .none .none .none m Sd (.ref c) .none),#[]⟩
abbrev mL:Sh:=sv "law_gatepapers_k28_memories" 319
abbrev cO(x:String)(t:Nat)(l n:Int)(r:Sj)(b:Bool)(q:Sj)(A B C:Sh)(s:Sj)(u:Nat):Obj:=⟨.type "code",Sd,.fields #[sv x t,sv x (t+1),sv "/claim/cut.py" (t+2),.int l 0,.int n 0,.int 0 0,.int 0 0,.int 3 0,.ref r,.bool b,.int 181 0,.ref q,A,B,C,.ref s,.int u 0,.int l 0,sv "/claim/cut.py" (u+1)],#[]⟩
abbrev me:Sh:=sv "gatepapers.turns" 195
def KK(P:Params):Om:=[(3,⟨(.type "dict"),Sd,(.dict #[E P "__name__" 165 mL,E P "__doc__" 166 .none,E P "__package__" 167 .none,E P "__loader__" 168 (.builtin "__main__.__loader__#opaque"),E P "__spec__" 169 .none,E P "__annotations__" 170 (.ref 6),E P "__builtins__" 171 (.ref 4),E P "__file__" 173 (sv "/claim/cut.py" 172),E P "__cached__" 174 .none,E P "rows_of" 194 (.ref 19),E P "first_state" 204 (.ref 26),E P "turn" 210 (.ref 31),E P "Scene" 240 (.ref 48),E P "stateful" 246 (.ref 57),E P "state_ahead" 256 (.ref 64),E P "part_turn" 262 (.ref 69),E P "scene_of" 268 (.ref 74),E P "next_room" 279 (.ref 81),E P "valued" 292 (.ref 88),E P "ones" 299 (.ref 95),E P "compared" 309 (.ref 102),E P "reckoned" 318 (.ref 109),E P "_law_pot" 326 (.ref 114),E P "_law_next" 336 (.ref 121),E P "_law_names" 342 (.ref 126),E P "_law_few" 352 (.ref 133),E P "_law_leaf" 358 (.ref 138),E P "_law_grown" 373 (.ref 145),E P "_law_ended" 394 (.ref 152),E P "_law_bits" 400 (.ref 157),E P "_law_number" 406 (.ref 162),E P "_law_summed" 418 (.ref 169),E P "_law_two" 424 (.ref 174),E P "_law_worth" 430 (.ref 179),E P "_law_begun" 440 (.ref 186),E P "_law_known" 446 (.ref 191),E P "_law_next_room" 452 (.ref 196),E P "_law_turned" 458 (.ref 201),E P "_law_any_state" 469 (.ref 208),E P "_law_whole" 476 (.ref 215),E P "_law_same" 482 (.ref 220),E P "_law_copy" 488 (.ref 225),E P "_law_asked" 505 (.ref 232),E P "_law_alone" 511 (.ref 237),E P "law" 517 (.ref 242)] 45),#[]⟩),
 (19,fO "rows_of" s0 (sv "gatepapers.kinds" 187) 18),
 (18,cO "rows_of" 189 2 2 15 Se 16 .none .none .none 17 192),
 (26,fO "first_state" s1 me 25),
 (25,cO "first_state" 197 5 2 20 Se 21 .none (.ref 22) (.ref 23) 24 202),
 (31,fO "turn" s2 me 30),
 (30,cO "turn" 205 7 4 27 Se 28 .none .none .none 29 208),
 (57,fO "stateful" s3 me 56),
 (56,cO "stateful" 241 16 1 53 Se 54 .none .none .none 55 244),
 (64,fO "state_ahead" s4 me 63),
 (63,cO "state_ahead" 247 18 2 58 Se 59 .none (.ref 60) (.ref 61) 62 254),
 (69,fO "part_turn" s5 me 68),
 (68,cO "part_turn" 257 28 4 65 Se 66 .none .none .none 67 260),
 (74,fO "scene_of" s6 me 73),
 (73,cO "scene_of" 263 48 3 70 Se 71 .none .none .none 72 266),
 (88,fO "valued" s8 me 87),
 (87,cO "valued" 280 62 2 82 Se 83 .none (.ref 84) (.ref 85) 86 290),
 (95,fO "ones" s9 me 94),
 (94,cO "ones" 293 85 1 89 Se 90 .none (.ref 91) (.ref 92) 93 297),
 (102,fO "compared" mf me 101),
 (101,cO "compared" 300 87 3 96 Se 97 .none (.ref 98) (.ref 99) 100 307),
 (109,fO "reckoned" Ay me 108),
 (108,cO "reckoned" 310 90 3 103 Se 104 .none (.ref 105) (.ref 106) 107 316),
 (114,fO "_law_pot" Az mL 113),
 (113,cO "_law_pot" 321 101 1 110 Se 111 .none .none .none 112 324),
 (121,fO "_law_next" NC mL 120),
 (120,cO "_law_next" 327 108 2 115 Se 116 .none (.ref 117) (.ref 118) 119 334),
 (126,fO "_law_names" ND mL 125),
 (125,cO "_law_names" 337 119 1 122 Se 123 .none .none .none 124 340),
 (133,fO "_law_few" NE mL 132),
 (132,cO "_law_few" 343 130 2 127 Se 128 .none (.ref 129) (.ref 130) 131 350),
 (138,fO "_law_leaf" NF mL 137),
 (137,cO "_law_leaf" 353 137 3 134 Se 135 .none .none .none 136 356),
 (145,fO "_law_grown" NG mL 144),
 (144,cO "_law_grown" 359 143 4 139 Se 140 .none (.ref 141) (.ref 142) 143 371),
 (152,fO "_law_ended" NH mL 151),
 (151,cO "_law_ended" 374 168 5 146 Se 147 .none (.ref 148) (.ref 149) 150 392),
 (157,fO "_law_bits" NI mL 156),
 (156,cO "_law_bits" 395 184 2 153 Se 154 .none .none .none 155 398),
 (162,fO "_law_number" NJ mL 161),
 (161,cO "_law_number" 401 186 1 158 Se 159 .none .none .none 160 404),
 (169,fO "_law_summed" NK mL 168),
 (168,cO "_law_summed" 407 188 3 163 Se 164 .none (.ref 165) (.ref 166) 167 416),
 (174,fO "_law_two" NL mL 173),
 (173,cO "_law_two" 419 194 3 170 Se 171 .none .none .none 172 422),
 (179,fO "_law_worth" sQ mL 178),
 (178,cO "_law_worth" 425 210 2 175 Se 176 .none .none .none 177 428),
 (186,fO "_law_begun" HJ mL 185),
 (185,cO "_law_begun" 431 224 2 180 Se 181 .none (.ref 182) (.ref 183) 184 438),
 (191,fO "_law_known" HR mL 190),
 (190,cO "_law_known" 441 234 3 187 Se 188 .none .none .none 189 444),
 (201,fO "_law_turned" NM mL 200),
 (200,cO "_law_turned" 453 255 4 197 Se 198 .none .none .none 199 456),
 (208,fO "_law_any_state" NN mL 207),
 (207,cO "_law_any_state" 459 275 3 202 Se 203 .none (.ref 204) (.ref 205) 206 467),
 (215,fO "_law_whole" NO mL 214),
 (214,cO "_law_whole" 470 285 1 209 Se 210 .none (.ref 211) (.ref 212) 213 474),
 (220,fO "_law_same" NP mL 219),
 (219,cO "_law_same" 477 287 2 216 Se 217 .none .none .none 218 480),
 (225,fO "_law_copy" NQ mL 224),
 (224,cO "_law_copy" 483 293 1 221 Se 222 .none .none .none 223 486),
 (232,fO "_law_asked" NR mL 231),
 (231,cO "_law_asked" 489 295 5 226 Se 227 .none (.ref 228) (.ref 229) 230 503),
 (237,fO "_law_alone" NS mL 236),
 (236,cO "_law_alone" 506 311 4 233 Se 234 .none .none .none 235 509),
 (242,fO "law" zv mL 241),
 (241,cO "law" 512 321 1 238 Se 239 .none .none .none 240 515),
 (48,⟨.type "type",Sd,.cls ⟨Str.ofString "Scene",[.type "object"],[.ref 48,.type "object"],47,Str.ofString "Scene",Se,[],[],Sf,Sd,Sf⟩,#[Sd,Sd,(Sb (sv "Scene" 211)),(Sb (sv "Scene" 219)),(Sb (.builtin "object.__new__")),(Sb (.bool Se))]⟩),
 (47,⟨(.type "dict"),Sd,(.dict #[E P "__module__" 218 me,E P "__firstlineno__" 222 (.int 10 221),E P "__init__" 229 (.ref 45),E P "__static_attributes__" 233 (.ref 46),E P "__dict__" 235 (.ref 49),E P "__weakref__" 237 (.ref 50),E P "__doc__" 238 .none] 4),#[]⟩),
 (45,fQ "__init__" "Scene.__init__" Kc me 44),
 (44,⟨(.type "code"),Sd,(.fields #[(sv "__init__" 223),(sv "Scene.__init__" 224),(sv "/claim/cut.py" 225),(.int 12 0),(.int 1 0),(.int 0 0),(.int 0 0),(.int 3 0),(.ref 39),(.bool Se),(.int 181 0),(.ref 40),.none,(.ref 41),(.ref 42),(.ref 43),(.int 227 0),(.int 12 0),(sv "/claim/cut.py" 228)]),#[]⟩)]
def HH:PySem.W.Hook:=PySem.W.kHook KK [3,19,18,26,25,31,30,57,56,64,63,69,68,74,73,88,87,95,94,102,101,109,108,114,113,121,120,126,125,133,132,138,137,145,144,152,151,157,156,162,161,169,168,174,173,179,178,186,185,191,190,201,200,208,207,215,214,220,219,225,224,232,231,237,236,242,241,48,47,45,44] (λ_=>rfl)
noncomputable def qv:Sr:=PySem.W.view PySem.Challenge.pw_gatepapers_k28_memories [38]
noncomputable def lo:List Str:=(["__name__","rows_of","first_state","turn","Scene","stateful","state_ahead","part_turn","scene_of","next_room","valued","ones","compared","reckoned","_law_pot","_law_next","_law_names","_law_few","_law_leaf","_law_grown","_law_ended","_law_bits","_law_number","_law_summed","_law_two","_law_worth","_law_begun","_law_known","_law_next_room","_law_turned","_law_any_state","_law_whole","_law_same","_law_copy","_law_asked","_law_alone"]:List String).map Str.ofString
theorem left:PySem.W.LeftO (PySem.Challenge.rw_gatepapers_k28_memories).row.toRowW.prog qv lo (λs=>PySem.W.xlAt qv [] s&&PySem.W.recOk (PySem.W.RowW.records (PySem.Challenge.rw_gatepapers_k28_memories).row.toRowW) s) (PySem.W.Hook.obs HH) (PySem.W.Hook.val HH) 20000:=λw=>by kernel_rfl
theorem Av{P:Params}{h:Sw}{mg:Str->Option Sh}(X:(KK P).In h)(G:h.Ns Sz mg){x:Str}{v:Sh}(e:Ps (KK P) Sz x=Sb (Sb v)):mg x=Sb v:=PySem.W.mg_of X G e
theorem fm{P:Params}(x:String)(st:Su)(f:Sj)(m:Sh)(c:Sj)(h:(KK P).lookup f=Sb (fO x st m c):=by kernel_rfl)(k:Qn (KK P) (.ref c) (Str.ofString x)=Se:=by kernel_rfl)(j:Pg (KK P) (.ref f)=Se:=by kernel_rfl):Fun (KK P) (Str.ofString x) (Str.ofString x) st f (Pl (Str.ofString x) (Str.ofString x) (cz st) (aU st) (ai st) .none .none .none m Sd (.ref c) .none):=xK h k j
abbrev Pk(P:Params)(mg:Str->Option Sh)(i:Nat)(x:Str)(st:Su)(f:Sj)(fd:SG)(N:List Str)(n:Nat)(b:bC):Prop:=Fun (KK P) x x st f fd/\bc N (N.take n) (ai st)/\mg x=Sb (.ref f)/\Binds (KK P) fd (N.take n) []/\(x==("__debug__":Str))=Sf/\fns.fns[i]?=Sb x/\lP fns an 60 N st=Sb b
section
variable {P:Params} {mg:Str->Option Sh}
theorem pk{h:Sw}(X:(KK P).In h)(G:h.Ns Sz mg)(i:Nat)(x:String)(st:Su)(f c:Sj)(m:Sh)(N:List Str)(n:Nat)(b:bC)(h1:(KK P).lookup f=Sb (fO x st m c):=by kernel_rfl)(h2:Qn (KK P) (.ref c) (Str.ofString x)=Se:=by kernel_rfl)(d:Pg (KK P) (.ref f)=Se:=by kernel_rfl)(g:Ps (KK P) Sz (Str.ofString x)=Sb (Sb (.ref f)):=by kernel_rfl)(j:∀(kV a k:Sh) (an:Option Sj) (cdv l:Sh) (us:List Sh),us.length=(N.take n).length->bindArgs (Pl (Str.ofString x) (Str.ofString x) (cz st) (aU st) (ai st) .none kV a k an cdv l) ⟨us,[]⟩=pure ((N.take n).zip us):=by walk_at "bnd")(S:bc N (N.take n) (ai st):=by walk_at "fsc")(e:lP fns an 60 N st=Sb b:=by rfl)(hd:(Str.ofString x==("__debug__":Str))=Sf:=by rfl)(hi:fns.fns[i]?=Sb (Str.ofString x):=by rfl):Pk P mg i (Str.ofString x) st f (Pl (Str.ofString x) (Str.ofString x) (cz st) (aU st) (ai st) .none .none .none m Sd (.ref c) .none) N n b:=⟨fm x st f m c h1 h2 d,S,Av X G g,(fm x st f m c h1 h2 d).binds j,hd,hi,e⟩
variable {l:PySem.W.OpenLaw} {w:Ss} {base:Sw} {Z:GG} {k i n:Nat} {x:Str} {st:Su} {f:Sj} {fd:SG} {N:List Str} {b:bC} (T:TabF l.prog w (KK P) mg base (bB fns Z) k)
include T
theorem aI(ψ:Fn)(q:Pk P mg i x st f fd N n b)(e:∀ds,Le (ψ ds) (ci Z 1000 (N.take n).length N.length b ds):=by show λ_=>Le.refl _):TabF l.prog w (KK P) mg base (bB fns (Z.addI i ψ)) (k+1):=T.addI q.1 q.2.1 q.2.2.1 q.2.2.2.1 q.2.2.2.2.1 q.2.2.2.2.2.1 q.2.2.2.2.2.2 e
theorem aM(ψ:Fm)(q:Pk P mg i x st f fd N n b)(e:∀ds,Le (ψ ds) (fY Z 1000 (N.take n).length N.length [0] b ds):=by show λ_=>Le.refl _):TabF l.prog w (KK P) mg base (bB fns (Z.addM i ψ)) (k+1):=T.addM q.1 q.2.1 q.2.2.1 q.2.2.2.1 q.2.2.2.2.1 q.2.2.2.2.2.1 q.2.2.2.2.2.2 e
theorem rI(e:Nat)(q:Pk P mg i x st f fd N n b):TabF l.prog w (KK P) mg base (bB fns (Z.addI i (J.recI Z i 1000 (N.take n).length N.length b e))) (k+1+e):=T.recI q.1 q.2.1 q.2.2.1 q.2.2.2.1 q.2.2.2.2.1 q.2.2.2.2.2.1 q.2.2.2.2.2.2 e
theorem rM(e:Nat)(q:Pk P mg i x st f fd N n b):TabF l.prog w (KK P) mg base (bB fns (Z.addM i (J.recM Z i 1000 (N.take n).length N.length [0] b e))) (k+1+e):=T.recM q.1 q.2.1 q.2.2.1 q.2.2.2.1 q.2.2.2.2.1 q.2.2.2.2.2.1 q.2.2.2.2.2.2 e
end
theorem HE{l:PySem.W.OpenLaw}{w:Ss}{P:Params}{h:Sw}{mg:Str->Option Sh}{fa:Sj}(X:(KK P).In h)(G:h.Ns Sz mg)(N:mg "law" = Sb (.ref fa)):∃fd:SG,(∀(s:Sk) (v:Sh),BindsTo s fd ⟨[v],[]⟩ [("_law_script",v)])/\∀base:Sw,(KK P).In base->base.Ns Sz mg->FnOk l.prog w (KK P) mg base rz 175 fa fd ["_law_script"] (wy (KK P) Ki):=by
 let e:=N.symm.trans (Av X G (v:=.ref 242) (by kernel_rfl));cases e;let F2:=fm (P:=P) "turn" s2 31 me 30;let B2:=F2.binds (ps:=["program","name","state","ins"]) λ_ _ _ _ _ _=>K1 (λ_ _ _ _=>rfl);let F5:=fm (P:=P) "part_turn" s5 69 me 68;let B5:=F5.binds (ps:=["parts","name","state","ins"]) λ_ _ _ _ _ _=>K1 (λ_ _ _ _=>rfl);let j:=fm (P:=P) "law" zv 242 mL 241;let hh:=j.binds (ps:=["_law_script"]) λ_ _ _ _ _ _=>J6 (λ_=>rfl);let g:=xK (K:=KK P) (x:="__init__") (qual:="Scene.__init__") (st:=Kc) (f:=45) (show(KK P).lookup 45=Sb (fQ "__init__" "Scene.__init__" Kc me 44) by kernel_rfl) (by kernel_rfl) (by kernel_rfl);let y:=g.binds (ps:=["self"]) λ_ _ _ _ _ _=>J6 (λ_=>rfl);show⟨Pl "law" "law" (cz zv) (aU zv) (ai zv) .none .none .none mL Sd (.ref 241) .none,λs v=>.of_eq rfl,λbase _ _=>?_⟩;let cl:Cls (KK P) 48:=⟨by kernel_rfl,by kernel_rfl,by kernel_rfl,by kernel_rfl⟩;let hC:Ps (KK P) Sz "Scene" = Sb (Sb (.ref 48)):=by kernel_rfl
 let cf:∀c fs C,([("Scene",["names","rooms","outs"])]:List (Str×List Str)).lookup c=Sb fs->Ps (KK P) Sz c=Sb (Sb (.ref C))->Cls (KK P) C/\∀a∈fs,NoAttr (KK P) C a:=λc fs C k h=>by
  simp only[PK] at k;split at k
  ·ext e;let e:=eq_of_beq e;subst e;cases k;cases hC.symm.trans h;show⟨cl,λa ha=>by (simp only[OD,O0,or_false] at ha;rcases ha with rfl|rfl|rfl<;>(change PF (KK P) (.ref 48) _=Sb Sd;kernel_rfl))⟩
  ·cases k
 let T0:TabF l.prog w (KK P) mg base (bB fns Z0) 0:=⟨λx B b=>by (have b:(bm x fns.fns).bind Z0.fn=Sb B:=b;cases q:bm x fns.fns<;>rw[q] at b<;>cases b),cf,λx B b=>by (have b:(bm x fns.fns).bind (λi=>(Z0.fm i).map λB=>λK=>BE K B)=Sb B:=b;cases q:bm x fns.fns<;>rw[q] at b<;>cases b),(λx b=>by
  simp only[aA,OD,O0,or_false] at b;rcases b with rfl|rfl|rfl|rfl|rfl|rfl|rfl|rfl|rfl|rfl|rfl|rfl|rfl|rfl|rfl|rfl|rfl|rfl|rfl|rfl|rfl
  all_goals show PySem.W.mg_none_of X G (by kernel_rfl)),λx d b=>by
  let b:Sd=Sb d:=b;cases b⟩
 let T1:=aI T0 ψ0 (pk X G 0 "rows_of" s0 19 18 (sv "gatepapers.kinds" 187) ["rows","word"] 2 b0);let T2:=aI T1 ψ3 (pk X G 3 "stateful" s3 57 56 me ["rows"] 1 b3);let T3:=aI T2 ψ4 (pk X G 4 "state_ahead" s4 64 63 me ["parts","name","state","row"] 2 b4);let T4:=aI T3 ψ1 (pk X G 1 "first_state" s1 26 25 me ["program","name"] 2 b1);let T5:=T4.addC (i:=35) (ψ:=MZ) (pn:=[0]) (es:=[]) (r0:=.own [] .fz) g MY ⟨by kernel_rfl,by kernel_rfl,by kernel_rfl,by kernel_rfl⟩ cl hC (Av X G (v:=.ref 48) (by kernel_rfl)) y rfl rfl MX λ_=>Le.refl _;let T6:=aI T5 ψ6 (pk X G 6 "scene_of" s6 74 73 me ["rows","before","ins","scene","row","value"] 3 b6);let T7:=aI T6 ψ9 (pk X G 9 "ones" s9 95 94 me ["width"] 1 b9);let T8:=aI T7 K3 (pk X G 10 "compared" mf 102 101 me ["word","value","other","holds"] 3 MA);let T9:=aI T8 K4 (pk X G 11 "reckoned" Ay 109 108 me ["word","value","other"] 3 MB);let V:=rI T9 40 (pk X G 8 "valued" s8 88 87 me ["expression","scene","word","value","width","other","above"] 2 b8);let t:=V.addB (i:=5) (ψ:=ψ5) F5 Ob (Av X G (v:=.ref 69) (by kernel_rfl)) B5 rfl rfl (λX O U=>zw X O U) λ_=>Le.refl _;let hg:=t.addB (i:=2) (ψ:=ψ2) F2 Oa (Av X G (v:=.ref 31) (by kernel_rfl)) B2 rfl rfl (λX O U=>zx X O U) λ_=>Le.refl _;let hf:=aI hg K9 (pk X G 12 "_law_pot" Az 114 113 mL ["_law_script","_law_seed","_law_cell","_law_cells","_law_odd"] 1 MC);let L:=aM hf Ci (pk X G 13 "_law_next" NC 121 120 mL ["_law_pot_here","_law_many","_law_digit","_law_twice"] 2 J8);let hd:=aM L La (pk X G 14 "_law_names" ND 126 125 mL ["_law_pot_here","_law_size","_law_at","_law_names_here","_law_fill","_law_first","_law_stride"] 1 J9);let m:=aM hd Lb (pk X G 15 "_law_few" NE 133 132 mL ["_law_pot_here","_law_most","_law_great","_law_many"] 2 HS);let R:=aM m Lc (pk X G 16 "_law_leaf" NF 138 137 mL ["_law_pot_here","_law_leaves","_law_width","_law_some","_law_at"] 3 MD);let o:=rM R 40 (pk X G 17 "_law_grown" NG 145 144 mL ["_law_pot_here","_law_leaves","_law_width","_law_deep","_law_way","_law_one","_law_first","_law_low","_law_wide"] 4 GJ);let T:=aM o Ld (pk X G 18 "_law_ended" NH 152 151 mL ["_law_pot_here","_law_names_here","_law_leaves","_law_kept","_law_machines","_law_rows","_law_wide","_law_k","_law_name","_law_width","_law_begin","_law_machine","_law_rooms","_law_one","_law_other"] 5 MF);let F:=aI T Lf (pk X G 19 "_law_bits" NI 157 156 mL ["_law_number_here","_law_width"] 2 MG);let M:=aI F Kg (pk X G 20 "_law_number" NJ 162 161 mL ["_law_bits_here"] 1 MH);let p:=aI M Lg (pk X G 21 "_law_summed" NK 169 168 mL ["_law_one","_law_other","_law_carry","_law_found","_law_a","_law_b"] 3 MJ);let A:=aI p AA (pk X G 22 "_law_two" NL 174 173 mL ["_law_word","_law_one","_law_other"] 3 Ka);let hb:=rI A 40 (pk X G 23 "_law_worth" sQ 179 178 mL ["_law_formula","_law_known_here","_law_word","_law_one"] 2 zu);let u:=aI hb Lh (pk X G 24 "_law_begun" HJ 186 185 mL ["_law_parts","_law_name","_law_state","_law_row"] 2 MK);let Z:=aI u Lj (pk X G 25 "_law_known" HR 191 190 mL ["_law_rows","_law_ins","_law_state","_law_known_here","_law_states","_law_row","_law_number_here","_law_thing","_law_k","_law_room"] 3 ML);let D:=aI Z Lk (pk X G 27 "_law_turned" NM 201 200 mL ["_law_parts","_law_name","_law_state","_law_ins","_law_rows","_law_known_here","_law_states","_law_row","_law_numbers","_law_outs","_law_pair","_law_number_here","_law_later"] 4 MM);let z:=aM D Ll (pk X G 28 "_law_any_state" NN 208 207 mL ["_law_pot_here","_law_parts","_law_name","_law_state","_law_row"] 3 MN);let I:=aI z Lm (pk X G 29 "_law_whole" NO 215 214 mL ["_law_found"] 1 MP);let Y:=rI I 10 (pk X G 30 "_law_same" NP 220 219 mL ["_law_found","_law_due"] 2 HU);let r:=rI Y 10 (pk X G 31 "_law_copy" NQ 225 224 mL ["_law_state"] 1 K2);let S:=aI r Kh (pk X G 32 "_law_asked" NR 232 231 mL ["_law_program","_law_parts","_law_name","_law_state","_law_ins","_law_due","_law_handed","_law_numbers","_law_again","_law_found","_law_thing"] 5 MQ);let he:=aM S Ln (pk X G 33 "_law_alone" NS 237 236 mL ["_law_pot_here","_law_names_here","_law_kept","_law_machines","_law_spare","_law_row","_law_leaves","_law_machine","_law_rooms","_law_more","_law_wide","_law_rows"] 4 MS);show(Cc (n:=60) (an:=an) j MW he MV).imp λvs H Q E s=>tB (λ_=>Le.refl _) s
theorem Nm{l:PySem.W.OpenLaw}{YP:Ss->Sw->Prop}{d:DefRec}{K:Params->Om}(hn:l.most=Sb 63)(b:d.params.defaults=[])(c:∀(w:Ss) (h:Sw),YP w h->(K w.params).In h)(F:∀(w:Ss) (mg:Str->Option Sh) (e:Sj) (h:Sw),(K w.params).In h->h.Ns Sz mg->mg d.name=Sb (.ref e)->
   ∃fd:SG,(∀(s:Sk) (u:Sh),BindsTo s fd ⟨[u],[]⟩ [("_law_script",u)])/\∀base:Sw,(K w.params).In base->base.Ns Sz mg->FnOk l.prog w (K w.params) mg base rz 175 e fd ["_law_script"] (wy (K w.params) Ki)) :
  PySem.W.WalkO q loose XP YP l.row.toRowW d [] (λf i=>PySem.call f i):=
 L2.AX (n:=63) (k:=175) (x:="_law_script") (CX:=λ_=>rz) (sp:=λw=>wy (K w.params) Ki) hn (by decide) b ⟨rfl,by decide,by decide,rfl⟩ c F (λ_ _ a g hl _ j=>Gs j (Au g hl)) λ_ _ _ _ _ z=>z
end K28
open PySem PySem.W PyProof.Rows
set_option maxRecDepth 100000 in
set_option maxHeartbeats 0 in
theorem PySem.Challenge.cw_gatepapers_k28_memories_holds : PySem.Challenge.rw_gatepapers_k28_memories.Holds := by
 show holds_law W0w λsaid=>?_;show holds_open (d:=⟨"law",L2.cz K28.zv,L2.aU K28.zv,L2.ai K28.zv,K28.HD⟩) (kwd:=[]) (q:=K28.qv) (loose:=K28.lo) (XP:=XL K28.qv []) (YP:=Hook.says K28.HH) K28.left (Hook.of K28.HH) (Hook.keeps K28.HH) (λs e=>xl_of s (Rx.mp e).1) XL.keeps (by kernel_rfl) (by kernel_rfl) (by kernel_rfl) (λs e=>recFacts_of (Rx.mp e).2) (by kernel_rfl) said (by kernel_rfl) ⟨rfl,rfl,rfl,rfl,rfl,by kernel_rfl⟩ ?hw ?hc
 case hw=>w_witness2
 case hc=>
  show K28.Nm (l:=PySem.Challenge.rw_gatepapers_k28_memories) rfl rfl (λw h Yq=>PySem.W.kIn_of Yq) ?F;intro w mg fa h KX G hmg;show K28.HE KX G hmg
end
