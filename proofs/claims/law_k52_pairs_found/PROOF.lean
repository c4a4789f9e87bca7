import PyProof.Rows.All
import Wide.All
import OpenK.AllK
import Wide.FinOn
import PyProof.TupleKey
import Lean
import PyProof.EqAt
import PyProof.EqKinds
import PyProof.TupleCall
import KE.KRevSl
import KE.KUnpack
import PyProof.SumAny
import PyProof.WalksS
import PyProof.NeKinds
import PyProof.ZipIter
import PyProof.WalkInts
import PyProof.AttrMissHeap
import KE.KDictOf
import PyProof.ListRange
import PyProof.StrWalks
import PyProof.StrOps2
import PyProof.Rows.SetFrom
import PyProof.P3Eq
import PyProof.NeData
import PyProof.P3In
import KE.KEqDict
import PyProof.IsRules
import PyProof.ReprRoads
import PyProof.ReprBulk
import PyProof.ReprRoom
import PyProof.CallFns
import PyProof.Rows.SeqRoads
import PyProof.ListOps
import PyProof.CollectWalk
import PyProof.Rows.SortShell
import PyProof.CollectStr
import PyProof.Rows.SortWalk
import KE.KRevIter
import PyProof.ListNew
import PyProof.SeqI3
import KE.BitLaws
import PySem.Challenge.RW_gatepapers_k52_pairs_found
set_option Elab.async false
set_option linter.all false
set_option maxRecDepth 100000
set_option autoImplicit true
set_option relaxedAutoImplicit true
set_option genInjectivity false
set_option genSizeOf false
set_option genSizeOfSpec false
set_option maxHeartbeats 4000000
noncomputable section
open PySem.W renaming Frag->Lh,kia_one->L5,keepIn->L8,kitOne->Mb,fnOf->Mm,findIn->Mw,nsIn->MP,codeIn->M0,methodObj->M8,instObj->Ni,cellsFrom_some->Nm,lookIn->Nr,specialIn->NH,kitx_list->NI,kitx_dict->NJ,plainGet->NP,isFn->NV
open List renaming length_map->Li,getElem?_eq_some_iff->Lk,getElem?_map->Ll,getElem?_eq_getElem->Lm,range->Ln,mem_cons->Lq,mem_cons_of_mem->Lu,size_toArray->Lv,map_append->Lw,getElem?_set_ne->Lx,getElem?_set_self->Ly,length_range->Lz,mem_append_right->LA,getD_eq_getElem?_getD->LB,mem_cons_self->LC,mem_of_getElem?->LD,lookup_cons->LH,all_eq_true->LI,map_cons->LJ,filterMap_cons->LK,map_map->LO,getElem?_append_left->LP,getElem?_range->LQ,getElem?_append_right->LS,length_take->LU,nodup_cons->LV,length_cons->LW,mem_map->LX,getElem?_eq_none->LY,length_append->LZ,findIdx?_cons->L0,all_cons->L3,map->L4,mem_singleton->L6,not_mem_nil->L7,take_add_one->L9,take_length->Ma,mem_append->Md,getElem?_mapIdx->Me,map_congr_left->Mg,getElem_mem->Mi,find?_cons->Mn,mem_append_left->Mp,mem_range->Mq,cons_append->Ms,findIdx?_map->Mv,mem_iff_getElem?->Mx,length_set->MA,range_succ->MB,drop_eq_getElem_cons->MC,mem_or_eq_of_mem_set->MF,reverse_cons->MJ,any_cons->ML,append_nil->MM,map_nil->MN,mem_map_of_mem->MY,mem_filterMap->M3,length_mapIdx->M4,foldl_append->Nc,getElem?_replicate->Ng,length_eq_zero_iff->Nh,of_mem_zip->Nj,length_nil->Nk,length->Nn,lookup->Np,take_of_length_le->Nq,length_replicate->Nt,take_append_drop->Nw,findIdx?_isSome->Nx,set_cons_succ->NC,any_eq_false->NG,take_sublist->NK,ext_getElem?->NM,nodup_append->NN,getElem?_inj->NO,length_drop->NQ,getElem_map->NS,mem_filter->NT,forIn_cons->NU
open Bool renaming and_eq_true->Lj,false_ne_true->Mj,false_eq_true->Ml,or_eq_true->Mu,and_eq_true_iff->MS,not_true->M6,not_eq_true'->Nb,true->NY,false->NZ
open Nat renaming le_refl->Lo,lt_of_lt_of_le->Lr,zero_le->LF,ne_of_lt->LG,le_trans->LM,pow_le_pow_right->LR,lt_of_le_of_lt->Mc,le_add_right->Mh,lt_irrefl->Mo,ne_of_gt->Mr,sub_self->Mt,lt_succ_self->My,le_succ->Mz,two_pow_pos->MD,lt_trans->MG,add_assoc->MK,add_le_add_right->MU,pow_succ->MV,not_lt_zero->MW,add_le_add_left->MZ,le_of_succ_le->M9,lt_succ_of_lt->Na,le_of_lt->Nd,mul_assoc->Ny,xor_lt_two_pow->ND,lt_of_not_le->NR
open PySem.Heap renaming lt_size->Lp,get?_push_of_some->Ls,get?_push_size->LL,size_push->MH,get?_update_other->No,get?_update_self->Nu
open Int renaming toNat_natCast->LN,emod_lt_of_pos->M5,fdiv_eq_ediv_of_nonneg->M7,emod_nonneg->Nl,sub_zero->NB,zero_add->NE,natAbs_natCast->NF
open Option renaming bind_some->L1,bind_eq_some_iff->Mf,map_some->MQ,getD_none->Nf,isSome_some->NA,isSome_map->NL,some->NW,none->NX
open Array renaming length_toList->MX,forIn_toList->Nz
open PySem renaming Expr->N0,Value->N1,Addr->N2,Shared->N3,wpAny_bind->N4,wpAny->N5,model->N6,wpAny_pure->N7,Program->N8,Stmt->N9,World->Oa,starEach->Ob,Heap->Oc,Around->Od,Operator->Oe,Scope->Of,cellsFrom->Og,mainGlobals->Oh,assignEach->Oi,behindInMarks->Oj,NameKind->Ol,CmpOp->Om,FuncData->On,wpAny_truthy_bool->Oo,wpAny_passesOwn->Op,wpAny_holding->Oq,wpAny_newObj_type->Os,wpAny_call_entry->Ot,rawInt->Ou
namespace PySem
open Sem (wp)
section
variable {prog:N8} {w:Oa} {K:Type} [DecidableEq K] (knd:KeyKind prog w K)
inductive Its2 (h:Heap):Nat->List (K ⊕ List K)->List Value->Prop
 |nil {m:Nat}:Its2 h m [] []
 |key {m:Nat} {k:K} {v:N1} {xs:List (K ⊕ List K)} {vs:List N1}:m%2=0->knd.is k v=NY->Its2 h (m / 2) xs vs->Its2 h m (.inl k::xs) (v::vs)
 |tup {m:Nat} {ks:List K} {b:N2} {xs:List (K ⊕ List K)} {vs:List N1}:m%2=1->IsTupleKey knd h ks b->Its2 h (m / 2) xs vs->Its2 h m (.inr ks::xs) (.ref b::vs)
noncomputable def IsDeep(m:Nat)(h:Oc)(xs:List (K ⊕ List K))(a:N2):Prop:=∃o items n,h.get? a=NW o/\o.cls=.type "tuple"/\o.data=.seq items n/\Its2 knd h m xs items.toList
noncomputable def dC:K ⊕ List K->Int
 |.inl k=>knd.hash k
 |.inr ks=>tupleKeyHash knd ks
noncomputable def cH:K ⊕ List K->Nat
 |.inl _=>1
 |.inr ks=>ks.length+1
noncomputable def jE(xs:List (K ⊕ List K)):Int:=reduceHash (Builtin.Tuple.tupleHashOf (xs.map (dC knd)))
variable {knd}
theorem Its2.inj{m:Nat}(hx:Its2 knd h m x vs)(hy:Its2 knd h m y vs):x=y:=by
 induction hx generalizing y with
 |nil=>cases hy;rfl
 |key e h1 _ ih=>
  cases hy with
  |key _ h2 t2=>rw[knd.inj _ _ _ h1 h2,ih t2]
  |tup e2 _ _=>lia
 |tup e h1 _ ih=>
  cases hy with
  |key e2 _ _=>lia
  |tup _ h2 t2=>rw[h1.inj h2,ih t2]
theorem Its2.keeps{m:Nat}(k:∀ks b,IsTupleKey knd h ks b->IsTupleKey knd h' ks b)(hx:Its2 knd h m x vs):Its2 knd h' m x vs:=by
 induction hx with
 |nil=>exact .nil
 |key e h1 _ ih=>exact .key e h1 ih
 |tup e h1 _ ih=>exact .tup e (k _ _ h1) ih
theorem IsDeep.ty{s:N3}{m:Nat}(x:IsDeep knd m s.heap xs a):s.TypeIs (.ref a) "tuple":=by
 unfold IsDeep at x;rcases x with⟨o,_,_,g,c,_⟩;exact⟨o,g,c⟩
theorem IsDeep.one{m:Nat}(p:IsDeep knd m h x a)(q:IsDeep knd m h y a):x=y:=by
 unfold IsDeep at p q;rcases p with⟨o,i,n,g,_,d,r⟩;rcases q with⟨o2,i2,n2,g2,_,d2,r2⟩;cases g.symm.trans g2;cases d.symm.trans d2;exact r.inj r2
theorem IsDeep.stay{h h':Oc}{m:Nat}{o:Obj}{es ep}(x:IsDeep knd m h xs a)(g:h.get? d=NW o)(e:o.data=.dict es ep)(q:Heap.SameBut d h h'):IsDeep knd m h' xs a:=by
 unfold IsDeep at x⊢;rcases x with⟨o2,i,n,g2,c,d2,r⟩;refine⟨o2,i,n,?_,c,d2,r.keeps λks b z=>z.keeps g e q⟩;refine(q.2 a λz=>?_).trans g2;rw[z,g] at g2;cases g2;rw[e] at d2;cases d2
variable {A:Od} {E:N1->N3->Prop} {s:N3}
theorem gK{m:Nat}{xs:List (K ⊕ List K)}{Q:Int->N3->Prop}(hu:A.units+8<cLine)(hk:IsDeep knd m s.heap xs a)(h:Q (jE knd xs) { s with toks:=s.toks+((xs.map cH).sum+1) }) :
  N5 (N6 prog w) A (pyHash (.ref a)) Q E s:=by
 have ty:=hk.ty;have lk:=F.slot_tuple_hash.lookup;rcases hk with⟨o,its,n,g,c,d,r⟩
 have turn:∀(rest:List N1) (b:Array Int) (z:N3) (v:N1),(∃done left m',xs=done++left/\Its2 knd s.heap m' left (v::rest)/\b.toList=done.map (dC knd)/\z={ s with toks:=s.toks+(done.map cH).sum })->
   ∃i k,(∀(A:Od) (R:Int->N3->Prop),A.units<cLine->R i { z with toks:=z.toks+k }->N5 (N6 prog w) A (pyHash v) R E z)/\∃done left m',xs=done++left/\Its2 knd s.heap m' left rest/\(b.push i).toList=done.map (dC knd)/\{ z with toks:=z.toks+k }={ s with toks:=s.toks+(done.map cH).sum }:=by
  rintro rest b z v ⟨done,left,m',e,it,eb,rfl⟩
  cases it with
  |@key _ k _ left' _ _ h1 it'=>
   exact⟨knd.hash k,1,λA R _ q=>knd.pyHash h1 q,done++[.inl k],left',m' / 2,by simp[e],it',by simp[eb,dC],by simp[cH,MK]⟩
  |@tup _ ks _ left' _ _ h1 it'=>
   exact⟨tupleKeyHash knd ks,ks.length+1,λA R u q=>wpAny_pyHash_tuple (knd:=knd) u h1 q,done++[.inr ks],left',m' / 2,by simp[e],it',by simp[eb,dC],by simp[cH,MK]⟩
 unfold pyHash
 first|unfold pyHashByItsType|skip
 first|refine N4 (wpAny_cRoomFor_or (.inr (by lia)) ?_)|skip
 refine N4 (wpAny_specialOf ty lk ((if_neg (show ¬(NW (Value.builtin "tuple.__hash__")==NW Value.none)=NY by rw[beq_builtin_none];exact Mj)).symm▸N4 (wpAny_specialOf ty lk (N4 (wpAny_callSpecialIfBoundUnlessNone?_slot ty F.slot_tuple_hash (Ot F.slot_tuple_hash ty F.entry_tuple_hash (show N5 _ _ (Builtin.Tuple.tupleItemsOf (.ref a) >>= _) _ _ s from N4 (wpAny_tupleItemsOf g d (N4 ?_))) (F.args_tuple_hash_1 _)))))));rw[<- Nz];refine wpAny_forIn_list _ (λrest (b:Array Int) z=>∃done left m',xs=done++left/\Its2 knd s.heap m' left rest/\b.toList=done.map (dC knd)/\z={ s with toks:=s.toks+(done.map cH).sum }) _ (λv rest b z hz=>?_) (λb z hz=>?_) _ _ ⟨[],xs,m,rfl,r,rfl,rfl⟩
 ·obtain⟨i,k,run,nxt⟩:=turn rest b z v hz
  exact N4 (run _ _ (by first|lia|(show _+1<_;lia)) (by first|exact N7 nxt|exact N4 (N7 (N7 nxt))))
 ·obtain⟨done,left,m',e,it,eb,rfl⟩:=hz;cases it;have e':done=xs:=by rw[e,MM]
  subst e';show N5 _ _ (retInt (Builtin.Tuple.tupleHashOf b.toList)) _ _ _;rw[eb];refine wpAny_ret_mkInt ?_;unfold jE reduceHash at h;generalize Builtin.Tuple.tupleHashOf (done.map (dC knd))=y at h⊢
  show N5 _ _ (if(decide (-(2:Int)^63<=y)&&decide (y<2^63))=NY then _ else _) Q E _
  split
  ·rename_i hr;rw[if_pos hr] at h;exact N7 (by simpa[MK] using h)
  ·rename_i hr;rw[if_neg hr] at h;exact N4 (wpAny_rule (N7 (by simpa[MK] using h)))
theorem Its2.two{h:Oc}{m:Nat}{us vs:List N1}(p:Its2 knd h m x us)(q:Its2 knd h m y vs)(z:(u,v)::rest=us.zip vs) :
  ∃(i j:K ⊕ List K) (x2 y2:List (K ⊕ List K)) (us2 vs2:List N1),x=i::x2/\y=j::y2/\us=u::us2/\vs=v::vs2/\Its2 knd h (m / 2) x2 us2/\Its2 knd h (m / 2) y2 vs2/\rest=us2.zip vs2/\
   ∀(A:Od) (E:N1->N3->Prop) (s:N3) (Q:Bool->N3->Prop),s.heap=h->A.units<cLine->Q (decide (i=j)) s->N5 (N6 prog w) A (eqBool u v) Q E s:=by
 cases p with
 |nil=>cases z
 |@key _ k1 u' x2 us2 e h1 p2=>
  cases q with
  |nil=>cases z
  |@key _ k2 v' y2 vs2 e2 h2 q2=>
   cases z;exact⟨_,_,_,_,_,_,rfl,rfl,rfl,rfl,p2,q2,rfl,λA E s Q es u qq=>knd.eqBool h1 h2 (by simpa using qq)⟩
  |tup e2 _ _=>lia
 |@tup _ k1 b1 x2 us2 e h1 p2=>
  cases q with
  |nil=>cases z
  |key e2 _ _=>lia
  |@tup _ k2 b2 y2 vs2 e2 h2 q2=>
   cases z;exact⟨_,_,_,_,_,_,rfl,rfl,rfl,rfl,p2,q2,rfl,λA E s Q es u qq=>wpAny_eqBool_tuple u (es▸h1) (es▸h2) (by simpa using qq)⟩
theorem Its2.ends{m:Nat}{us vs:List N1}(p:Its2 knd h m x us)(q:Its2 knd h m y vs)(z:us.zip vs=[]):(us.length==vs.length)=decide (x=y):=by
 cases p<;>cases q<;>first|rfl|(simp at z;done)|simp
theorem l4{m:Nat}{P:Fin->N3->Prop}(hu:A.units+4<cLine)(hx:IsDeep knd m s.heap x a)(hy:IsDeep knd m s.heap y b)(h:P (.done (.ret (.bool (decide (x=y))))) s) :
  N5 (N6 prog w) A (Builtin.«tuple.__eq__» ⟨[.ref a,.ref b],[]⟩) P E s:=by
 have ty:=hy.ty;rcases hx with⟨o,us,n,g,c,d,p⟩;rcases hy with⟨o2,vs,n2,g2,c2,d2,q⟩;refine(show N5 _ _ (isInstance (.ref b) (.type "tuple") >>= _) _ _ s from N4 (wpAny_isInstance ty isSubtype_tuple_tuple ?_));simp only[M6,Ml,if_false];refine N4 (wpAny_tupleItemsOf g d (N4 (wpAny_tupleItemsOf g2 d2 (N4 ?_))));refine wpAny_forIn_list _ (λrest r z=>r.1=NX/\z=s/\∃m' x' y' us' vs',rest=List.zip us' vs'/\Its2 knd s.heap m' x' us'/\Its2 knd s.heap m' y' vs'/\decide (x'=y')=decide (x=y)/\(us'.length==vs'.length)=(us.size==vs.size))
  _ (λuv rest r z hz=>?_) (λr z hz=>?_) _ _ ⟨rfl,rfl,m,x,y,us.toList,vs.toList,rfl,p,q,rfl,by simp⟩
 ·obtain⟨u,v⟩:=uv;obtain⟨hr,rfl,m',x',y',us',vs',e,p',q',hd,hl⟩:=hz;obtain⟨i,j,x2,y2,us2,vs2,rfl,rfl,rfl,rfl,p2,q2,rfl,run⟩:=p'.two q' e;refine N4 (run _ _ _ _ rfl (by lia) ?_)
  cases hk:decide (i=j) with
  |true=>
   have hk:=of_decide_eq_true hk;subst hk;simp only[M6,Ml,if_false];exact N7 ⟨rfl,rfl,m' / 2,x2,y2,us2,vs2,rfl,p2,q2,hd▸by simp,by simpa using hl⟩
  |false=>
   have hk:=of_decide_eq_false hk;simp only[Bool.not_false,if_true];have hf:decide (x=y)=NZ:=hd▸by simp[hk]
   exact N4 (N7 (N7 (N7 (hf▸h))))
 ·obtain⟨r1,r2⟩:=r;obtain⟨hr,rfl,m',x',y',us',vs',e,p',q',hd,hl⟩:=hz;cases(show r1=NX from hr);refine N7 ?_;show P (.done (.ret (.bool (us.size==vs.size)))) z;rw[<- hl,p'.ends q' e.symm,hd];exact h
theorem gM{m:Nat}{Q:Bool->N3->Prop}(hu:A.units+8<cLine)(hx:IsDeep knd m s.heap x a)(hy:IsDeep knd m s.heap y b)(h:Q (decide (x=y)) s) :
  N5 (N6 prog w) A (eqBool (.ref a) (.ref b)) Q E s:=by
 unfold eqBool
 try with_reducible refine Oq ?_
 refine(show N5 _ _ (if(Value.ref a==Value.ref b)=NY then _ else _) Q E s from ?_)
 split
 ·rename_i hab;cases eq_of_beq hab;cases hx.one hy;exact N4 (wpAny_rule (N7 (by simpa using h)))
 ·have tree:=l4 (E:=E) (A:=A.in1) (P:=λfin s'=>∃v,fin=Fin.done (Flow.ret v)/\v≠.notImplemented/\N5 (N6 prog w) A (truthOfDropped v) Q E s') (by show A.units+1+4<cLine;lia) hx hy ⟨_,rfl,(λe=>nomatch e),Oo h⟩
  exact N4 (wpAny_richCompare_same_room (op:=.Eq) hx.ty hy.ty F.slot_tuple_eq (Ot F.slot_tuple_eq hx.ty F.entry_tuple_eq tree (F.args_tuple_eq_2 _ _)) (by lia))
theorem nv{n:Nat}{o:Obj}{its:Array N1}{ep:Nat}{Q:Bool->N3->Prop}(g:s.heap.get? a=NW o)(c:o.cls=.type "tuple")(d:o.data=.seq its ep)(hi:∀v∈its.toList,∀R:Bool->N3->Prop,R NY s->N5 (N6 prog w) A (eqIsQuiet n v) R E s)(q:Q NY s) :
  N5 (N6 prog w) A (eqIsQuiet (n+1) (.ref a)) Q E s:=by
 have ty:s.TypeIs (.ref a) "tuple":=⟨o,g,c⟩;unfold eqIsQuiet;refine N4 (wpAny_specialOf ty F.slot_tuple_eq.lookup (show N5 _ _ (isInstance (.ref a) (.type "tuple") >>= _) _ _ s from N4 (wpAny_isInstance ty isSubtype_tuple_tuple ?_)));simp only[M6,Ml,if_false];refine N4 (wpAny_seqItems g d (N4 (show N5 _ _ (forIn its _ _) _ _ s from ?_)));rw[<- Nz];refine wpAny_forIn_list _ (λrest r z=>r.1=NX/\z=s/\∀v∈rest,v∈its.toList) _ (λv rest r z hz=>?_) (λr z hz=>?_) _ _ ⟨rfl,rfl,λv hv=>hv⟩
 ·obtain⟨hr,rfl,hm⟩:=hz;refine N4 (hi v (hm v LC) _ ?_);simp only[M6,Ml,if_false];exact N7 ⟨rfl,rfl,λu hu=>hm u (Lu _ hu)⟩
 ·obtain⟨r1,r2⟩:=r;obtain⟨hr,rfl,_⟩:=hz;cases(show r1=NX from hr);exact N7 q
theorem Its2.items{m:Nat}{vs:List N1}(p:Its2 knd h m x vs):∀v∈vs,(∃k,knd.is k v=NY)\/∃ks b,v=.ref b/\IsTupleKey knd h ks b:=by
 induction p with
 |nil=>intro v hv;cases hv
 |key _ h1 _ ih=>intro v hv;exact(Lq.mp hv).elim (λe=>.inl ⟨_,e▸h1⟩) (ih v)
 |tup _ h1 _ ih=>intro v hv;exact(Lq.mp hv).elim (λe=>.inr ⟨_,_,e,h1⟩) (ih v)
theorem oZ{m:Nat}{Q:Bool->N3->Prop}(hk:IsDeep knd m s.heap xs a)(h:Q NY s):N5 (N6 prog w) A (eqIsQuiet 8 (.ref a)) Q E s:=by
 rcases hk with⟨o,its,n,g,c,d,r⟩;refine nv (n:=7) g c d (λv hv R q=>?_) h;rcases r.items v hv with⟨k,e⟩|⟨ks,b,rfl,o2,its2,n2,g2,c2,d2,r2⟩
 ·rw[eqIsQuiet_byValue _ (knd.byValue _ _ e)];exact N7 q
 ·refine nv (n:=6) g2 c2 d2 (λv hv R q=>?_) q;rw[eqIsQuiet_byValue _ (r2.byValue v hv)];exact N7 q
end
noncomputable def dD{prog:N8}{w:Oa}{K:Type}[DecidableEq K](m:Nat)(knd:KeyKind prog w K):HeapKind prog w (List (K ⊕ List K)) where
 is:=IsDeep knd m
 hash:=jE knd
 draws:=λxs=>(xs.map cH).sum+1
 room:=λA=>A.units+8<cLine
 inj:=λp q=>p.one q
 keeps:=λx g e q=>x.stay g e q
 pyHash:=λhu hk h=>gK hu hk h
 eqBool:=λhu hx hy h=>gM hu hx hy h
 quiet:=λhk h=>oZ hk h
end PySem
namespace L2
open PySem PySem.Spec PyProof.Rows
noncomputable abbrev aV:=Sum Int Str
noncomputable def ld:aV->N1->Bool
 |.inl k,v=>Value.isInt k v
 |.inr x,v=>Value.isStrOf x v
noncomputable def Hw(w:Oa):aV->Int
 |.inl k=>hashInt k
 |.inr x=>hashStr w x
theorem bz:∀{k:aV} {v:N1},ld k v=NY->(∃i t,k=Sum.inl i/\v=Value.int i t)\/(∃x t,k=Sum.inr x/\v=Value.str x t)
 |.inl i,v,h=>by
  obtain⟨t,e⟩:=Value.isInt_shape (k:=i) (v:=v) h;exact .inl ⟨i,t,rfl,e⟩
 |.inr x,v,h=>by
  obtain⟨t,e⟩:=Value.isStrOf_shape (x:=x) (v:=v) h;exact .inr ⟨x,t,rfl,e⟩
theorem sE(i:Int)(t:Tok):ld (.inl i) (.int i t)=NY:=by simp[ld,Value.isInt]
theorem sG(x:Str)(t:Tok):ld (.inr x) (.str x t)=NY:=by simp[ld,Value.isStrOf]
theorem AV(a b:Int):decide ((Sum.inl a:aV)=Sum.inl b)=(a==b):=by
 by_cases e:a=b
 ·subst e;simp
 ·have h:¬(Sum.inl a:aV)=Sum.inl b:=λq=>e (Sum.inl.inj q);rw[decide_eq_false h];exact(beq_eq_false_iff_ne.mpr e).symm
theorem AW(a b:Str):decide ((Sum.inr a:aV)=Sum.inr b)=decide (a=b):=by
 by_cases e:a=b
 ·subst e;simp
 ·have h:¬(Sum.inr a:aV)=Sum.inr b:=λq=>e (Sum.inr.inj q);rw[decide_eq_false h,decide_eq_false e]
theorem AX(a:Int)(b:Str):decide ((Sum.inl a:aV)=Sum.inr b)=NZ:=decide_eq_false (λq=>nomatch q)
theorem AY(a:Str)(b:Int):decide ((Sum.inr a:aV)=Sum.inl b)=NZ:=decide_eq_false (λq=>nomatch q)
noncomputable def bu(prog:N8)(w:Oa):PySem.KeyKind prog w aV where
 is:=ld
 hash:=Hw w
 inj:=λv a b ha hb=>by
  rcases bz ha with⟨i,t,rfl,rfl⟩|⟨x,t,rfl,rfl⟩
  ·rcases bz hb with⟨j,u,rfl,e⟩|⟨y,u,rfl,e⟩
   ·injection e with e1 _;rw[e1]
   ·exact nomatch e
  ·rcases bz hb with⟨j,u,rfl,e⟩|⟨y,u,rfl,e⟩
   ·exact nomatch e
   ·injection e with e1 _;rw[e1]
 byValue:=λk v h=>by
  rcases bz h with⟨i,t,rfl,rfl⟩|⟨x,t,rfl,rfl⟩<;>rfl
 pyHash:=λhv h=>by
  rcases bz hv with⟨i,t,rfl,rfl⟩|⟨x,t,rfl,rfl⟩
  ·exact wpAny_pyHash_int h
  ·exact wpAny_pyHash_str h
 eqBool:=λhu hv h=>by
  rcases bz hu with⟨i,t,rfl,rfl⟩|⟨x,t,rfl,rfl⟩
  ·rcases bz hv with⟨j,u,rfl,rfl⟩|⟨y,u,rfl,rfl⟩
   ·rw[AV] at h;exact wpAny_eqBool_int h
   ·rw[AX] at h;exact SeqAt.EqAt.int_str i t y u _ _ _ _ h
  ·rcases bz hv with⟨j,u,rfl,rfl⟩|⟨y,u,rfl,rfl⟩
   ·rw[AY] at h;exact SeqAt.EqAt.str_int x t j u _ _ _ _ h
   ·rw[AW] at h;exact wpAny_eqBool_str h
 «strs»:=λk x t v h=>by
  rcases bz h with⟨i,u,rfl,e⟩|⟨y,u,rfl,e⟩
  ·exact nomatch e
  ·injection e with e1 _;subst e1
   cases v<;>rfl
theorem nw(prog:N8)(w:Oa)(i:Int)(t:Tok):(bu prog w).is (.inl i) (.int i t)=NY:=sE i t
theorem ny(prog:N8)(w:Oa)(x:Str)(t:Tok):(bu prog w).is (.inr x) (.str x t)=NY:=sG x t
end L2
namespace L2
open PySem PySem.Spec PyProof.Rows
inductive V where
 |non|bl (b:Bool)|int (i:Int)|str (x:Str)|byt (b:Array UInt8)|flt (b:UInt64)|ref (a:N2)|ty (n:String)
 deriving DecidableEq
noncomputable def RelV:V->N1->Prop
 |.non,u=>u=Value.none
 |.bl b,u=>u=Value.bool b
 |.int i,u=>∃t,u=Value.int i t
 |.str x,u=>∃t,u=Value.str x t
 |.byt b,u=>∃t,u=Value.bytes b t
 |.flt b,u=>∃t,u=Value.float b t
 |.ref a,u=>u=Value.ref a
 |.ty n,u=>u=Value.type n
noncomputable abbrev Vals:List V->List N1->Prop:=Paired RelV
theorem Vals.length{xs:List V}{us:List N1}(r:Vals xs us):xs.length=us.length:=Paired.length r
theorem Vals.get:∀{xs:List V} {us:List N1} {i:Nat} {x:V},Vals xs us->xs[i]?=NW x->∃u,us[i]?=NW u/\RelV x u
 |_,_,_,_,.nil,e=>by simp at e
 |_,_,0,_,.cons r _,e=>by simp at e;subst e;exact⟨_,rfl,r⟩
 |_,_,i+1,x,.cons _ t,e=>by
  obtain⟨u,h1,h2⟩:=Vals.get (i:=i) (x:=x) t (by simpa using e);exact⟨u,by simpa using h1,h2⟩
theorem Vals.set(r:RelV x u):∀{xs:List V} {us:List N1} (i:Nat),Vals xs us->Vals (xs.set i x) (us.set i u)
 |_,_,_,.nil=>.nil
 |_,_,0,.cons _ t=>.cons r t
 |_,_,i+1,.cons q t=>.cons q (Vals.set r i t)
theorem Vals.append:∀{xs ys:List V} {us ws:List N1},Vals xs us->Vals ys ws->Vals (xs++ys) (us++ws)
 |_,_,_,_,.nil,s=>s
 |_,_,_,_,.cons r t,s=>.cons r (Vals.append t s)
theorem Vals.take:∀{xs:List V} {us:List N1} (n:Nat),Vals xs us->Vals (xs.take n) (us.take n)
 |_,_,0,_=>.nil
 |_,_,_+1,.nil=>.nil
 |_,_,n+1,.cons r t=>.cons r (Vals.take n t)
theorem Vals.drop:∀{xs:List V} {us:List N1} (n:Nat),Vals xs us->Vals (xs.drop n) (us.drop n)
 |_,_,0,r=>r
 |_,_,_+1,.nil=>.nil
 |_,_,n+1,.cons _ t=>Vals.drop n t
noncomputable def RelO:Option V->Option N1->Prop
 |some v,NW u=>RelV v u
 |none,NX=>True
 |_,_=>False
noncomputable def KV{κ:Type}:List (κ×V)->List (κ×N1)->Prop:=Paired λ(p:κ×V) (q:κ×N1)=>p.1=q.1/\RelV p.2 q.2
noncomputable def kV:aV->V
 |.inl i=>.int i
 |.inr x=>.str x
inductive HO where
 |lst (xs:List V)
 |tup (xs:List V)
 |dK (kvs:List (aV×V))|dT (m ep:Nat) (kvs:List (List (aV ⊕ List aV)×V))
 |set (S:Int->Bool) (n:Nat)
 |ins (C dx:N2) (fs:List (Str×V))
 |own (x:N2)
 |xd (fs:List (Str×V))
 |met (f x:N2)
 |rng (lo hi:Int)
 |frz (o:Obj) (u:HO)
 |tbl (ps:Array N1)
 |ext (φ:Oc->Prop)
noncomputable abbrev Hp:=N2->Option HO
noncomputable def upd(H:Hp)(a:N2)(o:HO):Hp:=λb=>if b=a then NW o else H b
theorem aG:upd H a o a=NW o:=by unfold upd;rw[if_pos rfl]
theorem al{H:Hp}(h:b≠a):upd H a o b=H b:=by unfold upd;rw[if_neg h]
theorem Aa{H:Hp}{a b:N2}{o u:HO}(h:H a=NW o)(h':H b=NW u)(d:o≠u):a≠b:=by
 intro e;subst e;rw[h] at h';exact d (Option.some.inj h')
theorem aD{H:Hp}{a b:N2}{o:HO}(h:H a=NW o)(h':H b=NX):a≠b:=by
 intro e;subst e;rw[h] at h';cases h'
noncomputable def TkIts(H:Hp):Nat->List (aV ⊕ List aV)->List V->Prop
 |_,[],vs=>vs=[]
 |m,.inl k::xs,vs=>∃r,vs=kV k::r/\m%2=0/\TkIts H (m / 2) xs r
 |m,.inr ks::xs,vs=>∃b r,vs=.ref b::r/\m%2=1/\H b=NW (.tup (ks.map kV))/\TkIts H (m / 2) xs r
noncomputable def TkAt(H:Hp)(m:Nat)(ks:List (aV ⊕ List aV))(b:N2):Prop:=∃vs,H b=NW (.tup vs)/\TkIts H m ks vs
theorem TkIts.keep{H H':Hp}(ht:∀b xs,H b=NW (.tup xs)->H' b=NW (.tup xs)):∀{m:Nat} {ks:List (aV ⊕ List aV)} {vs:List V},TkIts H m ks vs->TkIts H' m ks vs
 |_,[],_,h=>h
 |m,.inl k::xs,vs,h=>by obtain⟨r,e,z,t⟩:=h;exact⟨r,e,z,t.keep ht⟩
 |m,.inr ks::xs,vs,h=>by obtain⟨b,r,e,z,g,t⟩:=h;exact⟨b,r,e,z,ht _ _ g,t.keep ht⟩
theorem TkAt.keep{H H':Hp}{m:Nat}{b:N2}(x:TkAt H m ks b)(ht:∀b xs,H b=NW (.tup xs)->H' b=NW (.tup xs)):TkAt H' m ks b:=by
 obtain⟨vs,g,r⟩:=x;exact⟨vs,ht _ _ g,r.keep ht⟩
section
variable (P:N8) (w:Oa)
noncomputable def ObjOk(H:Hp)(h:Oc)(a:N2):HO->Prop
 |.lst xs=>xs.length<=sizeLine/\∃(its:List N1) (n:Nat),Vals xs its/\h.get? a=NW { cls:=.type "list",data:=.seq its.toArray n }
 |.tup xs=>xs.length<=sizeLine/\∃its:List N1,Vals xs its/\IsTup h a its.toArray
 |.dK kvs=>kvs.length<=sizeLine/\(a==sysModules)=NZ/\∃vs,KV kvs vs/\h.DictOf (bu P w) a vs
 |.dT m ep kvs=>kvs.length<=sizeLine/\(a==sysModules)=NZ/\∃xs:List (List (aV ⊕ List aV)×N2×N1),
   Paired (λ(p:List (aV ⊕ List aV)×V) (q:List (aV ⊕ List aV)×N2×N1)=>p.1=q.1/\TkAt H m p.1 q.2.1/\RelV p.2 q.2.2) kvs xs/\
   ∃o es,h.get? a=NW o/\o.ExactDict/\o.data=.dict es ep/\es.toList=xs.map (entryOfKey (dD m (bu P w)))/\(xs.map (·.1)).Nodup
 |.set S n=>h.SetOf (intKind P w) a S n
 |.ins C dx fs=>H dx=NW (.own a)/\fs.length<=1000/\dx≠a/\h.get? a=NW (Ni C dx)/\
   ∃mA,h.Ns1 dx mA/\(∀f,RelO (fs.lookup f) (mA f))/\PySem.Within mA (fs.map (·.1))
 |.own _=>∃o,h.get? a=NW o
 |.xd fs=>∃mA,h.Ns1 a mA/\∀f,RelO (fs.lookup f) (mA f)
 |.rng lo hi=>∃t u v,h.get? a=NW { cls:=.type "range",data:=.fields #[.int lo t,.int hi u,.int 1 v] }
 |.frz o u=>h.get? a=NW o/\ObjOk H h a u
 |.tbl ps=>h.get? a=NW { cls:=.none,data:=.fields ps }
 |.met f x=>h.get? a=NW (M8 (.ref f) (.ref x))
 |.ext φ=>φ h/\(∃o,h.get? a=NW o)/\∀h1 h2:Oc,φ h1->(∀o,h1.get? a=NW o->h2.get? a=NW o)->φ h2
noncomputable def HOk(H:Hp)(h:Oc):Prop:=∀a o,H a=NW o->ObjOk P w H h a o
end
section
variable {P:N8} {w:Oa} {H H':Hp} {h h':Oc} {a:N2} {o:HO}
theorem ObjOk.lt(x:ObjOk P w H h a o):a<h.objs.size:=by
 cases o with
 |lst xs=>obtain⟨_,_,_,_,e⟩:=x;exact Lp e
 |tup xs=>obtain⟨_,_,_,p⟩:=x;exact p.lt
 |dK kvs=>obtain⟨_,_,_,_,o,_,_,e,_⟩:=x;exact Lp e
 |dT m ep kvs=>obtain⟨_,_,_,_,o,_,e,_⟩:=x;exact Lp e
 |set S n=>obtain⟨o,_,_,_,e,_⟩:=x;exact Lp e
 |ins C dx fs=>obtain⟨_,_,_,e,_⟩:=x;exact Lp e
 |own y=>obtain⟨_,e⟩:=x;exact Lp e
 |xd fs=>obtain⟨_,⟨_,_,_,e,_⟩,_⟩:=x;exact Lp e
 |rng lo hi=>obtain⟨_,_,_,e⟩:=x;exact Lp e
 |frz ob u=>obtain⟨e,_⟩:=x;exact Lp e
 |tbl ps=>exact Lp (show h.get? a=NW _ from x)
 |met f y=>exact Lp (show h.get? a=NW _ from x)
 |ext φ=>obtain⟨_,⟨_,e⟩,_⟩:=x;exact Lp e
theorem Paired.mapP{α β:Type}{F G:α->β->Prop}:∀{l₁:List α} {l₂:List β},Paired F l₁ l₂->(∀a b,F a b->G a b)->Paired G l₁ l₂
 |_,_,.nil,_=>.nil
 |_,_,.cons r t,f=>.cons (f _ _ r) (Paired.mapP t f)
theorem ObjOk.stay(x:ObjOk P w H h a o)(k:∀b u,(b=a\/H b=NW (.own a))->h.get? b=NW u->h'.get? b=NW u)
  (ho:∀b,H b=NW (.own a)->H' b=NW (.own a)) (ht:∀b xs,H b=NW (.tup xs)->H' b=NW (.tup xs)):ObjOk P w H' h' a o:=by
 induction o with
 |lst xs=>obtain⟨z,its,n,r,e⟩:=x;exact⟨z,its,n,r,k _ _ (.inl rfl) e⟩
 |tup xs=>obtain⟨z,its,r,ob,e,c⟩:=x;exact⟨z,its,r,ob,k _ _ (.inl rfl) e,c⟩
 |dK kvs=>obtain⟨z,y,vs,r,ob,es,ep,e,c⟩:=x;exact⟨z,y,vs,r,ob,es,ep,k _ _ (.inl rfl) e,c⟩
 |dT m ep kvs=>
  obtain⟨z,y,xs,r,ob,es,e,c⟩:=x;exact⟨z,y,xs,Paired.mapP r λp q z=>⟨z.1,z.2.1.keep ht,z.2.2⟩,ob,es,k _ _ (.inl rfl) e,c⟩
 |set S n=>obtain⟨ob,es,ep,t,e,c⟩:=x;exact⟨ob,es,ep,t,k _ _ (.inl rfl) e,c⟩
 |ins C dx fs=>
  obtain⟨d,z,ne,e,mA,⟨od,es,ep,e2,c⟩,r⟩:=x;exact⟨ho _ d,z,ne,k _ _ (.inl rfl) e,mA,⟨od,es,ep,k _ _ (.inr d) e2,c⟩,r⟩
 |own y=>obtain⟨ob,e⟩:=x;exact⟨ob,k _ _ (.inl rfl) e⟩
 |xd fs=>obtain⟨mA,⟨od,es,ep,e,c⟩,r⟩:=x;exact⟨mA,⟨od,es,ep,k _ _ (.inl rfl) e,c⟩,r⟩
 |rng lo hi=>obtain⟨t,u,v,e⟩:=x;exact⟨t,u,v,k _ _ (.inl rfl) e⟩
 |frz ob u ih=>obtain⟨e,q⟩:=x;exact⟨k _ _ (.inl rfl) e,ih q⟩
 |tbl ps=>
  have e:h.get? a=NW { cls:=.none,data:=.fields ps }:=x;show h'.get? a=NW { cls:=.none,data:=.fields ps };exact k a _ (.inl rfl) e
 |met f y=>
  have e:h.get? a=NW (M8 (.ref f) (.ref y)):=x;show h'.get? a=NW (M8 (.ref f) (.ref y));exact k a _ (.inl rfl) e
 |ext φ=>obtain⟨p,⟨o,e⟩,st⟩:=x;exact⟨st _ _ p λo q=>k _ _ (.inl rfl) q,⟨o,k _ _ (.inl rfl) e⟩,st⟩
theorem HOk.lt(x:HOk P w H h)(e:H a=NW o):a<h.objs.size:=(x a o e).lt
theorem HOk.fresh(x:HOk P w H h)(e:h.objs.size<=a):H a=NX:=by
 cases q:H a with
 |none=>rfl
 |some u=>exact absurd (Lr (x.lt q) e) (Mo _)
theorem HOk.kept(x:HOk P w H h)(k:∀b u,h.get? b=NW u->h'.get? b=NW u):HOk P w H h':=λa o e=>
 (x a o e).stay (λb u _ q=>k b u q) (λ_ q=>q) λ_ _ q=>q
theorem HOk.laid(x:HOk P w H h)(k:∀b u,h.get? b=NW u->h'.get? b=NW u)(hp:h.objs.size<=a)(new:ObjOk P w (upd H a o) h' a o):HOk P w (upd H a o) h':=λb u e=>by
 have hn:=x.fresh hp;by_cases hb:b=a
 ·subst hb;rw[aG] at e;cases e;exact new
 ·rw[al hb] at e;exact(x b u e).stay (λc v _ q=>k c v q) (λc q=>by rw[al (aD q hn)];exact q) λc xs q=>by rw[al (aD q hn)];exact q
end
noncomputable def Rd(H:Hp)(a:N2)(u:HO):Prop:=H a=NW u\/∃o,H a=NW (.frz o u)
theorem Rd.ok(r:Rd H a u)(x:HOk P w H h):ObjOk P w H h a u:=by
 rcases r with r|⟨o,r⟩
 ·exact x a u r
 ·obtain⟨_,q⟩:=x a _ r;exact q
noncomputable def D7:Option HO->Prop
 |some (.lst _)=>True
 |some (.dK _)=>True
 |some (.dT _ _ _)=>True
 |some (.set _ _)=>True
 |some (.ins _ _ _)=>True
 |some (.ext _)=>True
 |_=>False
section
variable {P:N8} {w:Oa} {H:Hp} {h h':Oc} {x e:N2} {o':HO}
theorem HOk.write(ok:HOk P w H h)(mu:D7 (H x))(he:e=x\/H e=NW (.own x))(k:∀b u,b≠e->h.get? b=NW u->h'.get? b=NW u)(heo:∃u,h'.get? e=NW u)
  (new:ObjOk P w (upd H x o') h' x o'):HOk P w (upd H x o') h':=λb u q=>by
 have nown:∀c y,H c=NW (.own y)->c≠x:=λc y r z=>by subst z;rw[r] at mu;exact mu
 have ntup:∀c xs,H c=NW (.tup xs)->c≠x:=λc xs r z=>by subst z;rw[r] at mu;exact mu
 by_cases hb:b=x
 ·subst hb;rw[aG] at q;cases q;exact new
 ·rw[al hb] at q;by_cases hbe:b=e
  ·have q':H b=NW (.own x):=by
    rcases he with z|z
    ·exact absurd (hbe.trans z) hb
    ·rw[hbe];exact z
   rw[q] at q';cases q';obtain⟨v,hv⟩:=heo;exact⟨v,by rw[hbe];exact hv⟩
  ·refine(ok b u q).stay (λc v hc r=>k c v ?_ r) (λc r=>by rw[al (nown c b r)];exact r) λc xs r=>by rw[al (ntup c xs r)];exact r
   rcases hc with rfl|hc
   ·exact hbe
   ·rintro rfl
    rcases he with z|z
    ·exact nown c b hc z
    ·rw[hc] at z;cases z;exact hb rfl
end
structure Un(fs ex:List Addr)(H H':Hp)(h h':Heap):Prop where
 keep:∀b o,h.get? b=NW o->H b=NX->b∉fs->b∉ex->h'.get? b=NW o
 slot:∀b o,h.get? b=NW o->H b=NX->b∈fs->b∉ex->∃sl,h'.get? b=NW { o with slots:=sl }
 free:∀b o,h.get? b=NW o->H b=NX->b∉ex->H' b=NX
 there:∀b o,h.get? b=NW o->b∉ex->∃o',h'.get? b=NW o'
 tups:∀b xs,H b=NW (.tup xs)->H' b=NW (.tup xs)
 frzs:∀b o u,H b=NW (.frz o u)->H' b=NW (.frz o u)
 tbls:∀b ps,H b=NW (.tbl ps)->∃more,H' b=NW (.tbl (ps++more))
section
variable {fs fs' ex ex':List N2} {H H1 H2:Hp} {h h1 h2 h':Oc} {a x e:N2} {o:HO}
theorem Un.any(u:Un fs ex H H1 h h1){b:N2}{ob:Obj}(q:h.get? b=NW ob)(n:H b=NX)(hx:b∉ex):∃sl,h1.get? b=NW { ob with slots:=sl }:=by
 by_cases hb:b∈fs
 ·exact u.slot b ob q n hb hx
 ·exact⟨ob.slots,u.keep b ob q n hb hx⟩
theorem Un.kept(k:∀b u,h.get? b=NW u->h'.get? b=NW u):Un fs ex H H h h':=
 ⟨λb ob q _ _ _=>k b ob q,λb ob q _ _ _=>⟨ob.slots,k b ob q⟩,λ_ _ _ n _=>n,λb ob q _=>⟨ob,k b ob q⟩,λ_ _ q=>q,λ_ _ _ q=>q,λ_ ps q=>⟨#[],by rw[q];simp⟩⟩
theorem Un.refl:Un fs ex H H h h:=Un.kept λ_ _ q=>q
theorem Un.laid(k:∀b u,h.get? b=NW u->h'.get? b=NW u)(hp:h.objs.size<=a)(hn:H a=NX):Un fs ex H (upd H a o) h h' where
 keep:=λb u q _ _ _=>k b u q
 slot:=λb u q _ _ _=>⟨u.slots,k b u q⟩
 free:=λb u q n _=>by rw[al (LG (Lr (Lp q) hp))];exact n
 there:=λb u q _=>⟨u,k b u q⟩
 tups:=λb xs q=>by rw[al (aD q hn)];exact q
 frzs:=λb u xs q=>by rw[al (aD q hn)];exact q
 tbls:=λb ps q=>⟨#[],by rw[al (aD q hn),q];simp⟩
theorem Un.write(mu:D7 (H x))(he:e=x\/H e=NW (.own x))(k:∀b u,b≠e->h.get? b=NW u->h'.get? b=NW u)(heo:∃u,h'.get? e=NW u):Un fs ex H (upd H x o) h h':=by
 have hx:∀b,H b=NX->b≠x:=λb n z=>by subst z;rw[n] at mu;exact mu
 have hb:∀b,H b=NX->b≠e:=λb n z=>by
  subst z;rcases he with r|r
  ·exact hx b n r
  ·rw[n] at r;cases r
 have hm:∀b u,H b=NW u->¬D7 (NW u)->b≠x:=λb u q nm z=>by subst z;rw[q] at mu;exact nm mu
 refine⟨λb u q n _ _=>k b u (hb b n) q,λb u q n _ _=>⟨u.slots,k b u (hb b n) q⟩,λb u q n _=>by rw[al (hx b n)];exact n,λb u q _=>?_,
  λb xs q=>by rw[al (hm b _ q λz=>z)];exact q,λb u xs q=>by rw[al (hm b _ q λz=>z)];exact q,λb ps q=>⟨#[],by rw[al (hm b _ q λz=>z),q];simp⟩⟩
 by_cases hbe:b=e
 ·subst hbe;exact heo
 ·exact⟨u,k b u hbe q⟩
end
noncomputable def G4(h:Oc)(H:Hp):List N2:=(Ln h.objs.size).filter λa=>(H a).isSome
noncomputable def l5(h:Oc)(H:Hp):Oc:=PySem.W.hideAll h (G4 h H)
theorem sH(h:Oc)(H:Hp):(l5 h H).objs.size=h.objs.size:=PySem.W.hideAll_size _ _
theorem uf{h:Oc}{H:Hp}(e:h.get? b=NW o)(n:H b=NX):(l5 h H).get? b=NW o:=
 PySem.W.hideAll_get _ e λhm=>by
  have q:(H b).isSome=NY:=(NT.mp hm).2;rw[n] at q;simp at q
theorem xA{h:Oc}{H:Hp}(e:(l5 h H).get? b=NW o):h.get? b=NW o/\H b=NX:=by
 have e':h.get? b=NW o:=PySem.W.of_hideAll (G4 h H) e;refine⟨e',?_⟩
 cases q:H b with
 |none=>rfl
 |some x=>
  have hm:b∈G4 h H:=NT.mpr ⟨Mq.mpr (Lp e'),by simp[q]⟩;have z:(l5 h H).get? b=NX:=PySem.W.hideAll_none (G4 h H) hm;rw[z] at e;cases e
noncomputable def xB(g h:Oc)(L:N2):List (N2×Obj):=(Ln h.objs.size).filterMap λa=>if a=L\/(g.get? a).isSome=NY then NX else(h.get? a).map λo=>(a,o)
noncomputable def rest(g h:Oc)(L d:N2):List (N2×Obj):=(xB g h L).filter λp=>decide (p.1≠d)
end L2
namespace L2
open PySem PySem.Spec PyProof.Rows
structure Mod(K:Lh)(mg:Str->Option Value)(base:Heap):Prop where
 kin:K.In base
 glob:base.Ns Oh mg
 blt:∃mb,base.Ns builtinsNs mb/\∀x:Str,x≠"__name__"->mb x=bootBuiltins x
 nolimit:base.NoLimit
structure Cx where
 prog:N8
 w:Oa
 K:Lh
 mg:Str->Option N1
 base:Oc
 A:Od
 N:List Str
 s₀:N3
 H₀:Hp
 env:Env
 outer:List Env
 stack:List Env
 ex:List N2
 fn:Str->Bool
 calm:Bool
 pn:List (N2×Obj)
 xe:N1->N3->Prop
noncomputable def t9(l:List Env):List N2:=l.filterMap (·.frame)
noncomputable abbrev Cx.fs(X:Cx):List N2:=t9 X.outer
noncomputable def D8(sc:Of)(x:Str):Prop:=sc.names.lookup x=NW .local\/sc.names.lookup x=NW .cell\/sc.names.lookup x=NW .free
noncomputable def AZ(sc:Of)(x:Str):Prop:=sc.names.lookup x=NW .local\/sc.names.lookup x=NW .cell
noncomputable def Hx(env:Env)(h:Oc)(m:Str->Option N1)(x:Str)(u:N1):Prop:=
 (env.kindOf x=NW .local/\m x=NW u)\/((env.kindOf x=NW .cell\/env.kindOf x=NW .free)/\∃c,env.cells.lookup x=NW c/\h.IsCell c (NW u))
structure Cx.Ok(X:Cx):Prop where
 mod:Mod X.K X.mg X.base
 kind:X.env.scope.kind=.function
 glob:X.env.globals=Oh
 blt:X.env.builtins=builtinsNs
 above:X.s₀.heap.objs.size<=X.env.locals
 inj:∀x y c,X.env.cells.lookup x=NW c->X.env.cells.lookup y=NW c->x=y
 has:∀x,(X.env.kindOf x=NW .cell\/X.env.kindOf x=NW .free)->∃c,X.env.cells.lookup x=NW c
 cab:∀x c,X.fn x=NY->X.env.cells.lookup x=NW c->X.s₀.heap.objs.size<=c
 hd:X.calm=NY->X.A.handled=NX
 frames:X.A.frames=NW X.stack
 stk:X.stack=X.outer\/(X.stack=X.env::X.outer/\X.env.frame=NW X.env.locals)
 exf:∀b∈X.ex,b≠X.env.locals/\∀x c,X.env.cells.lookup x=NW c->c≠b
 bs:∀b o,X.base.get? b=NW o->X.s₀.heap.get? b=NW o/\X.H₀ b=NX
 bsz:X.base.objs.size<=X.s₀.heap.objs.size
 noex:∀b o,X.base.get? b=NW o->b∉X.ex
 exfs:∀b∈X.ex,b∉X.fs
 funs:X.s₀.heap.FunFrames X.base X.outer
 frf:∀b∈X.fs,X.H₀ b=NX
structure Inv(X:Cx)(pins:List (Addr×Obj))(σ:List (Option V))(H:Hp)(s:Shared):Prop where
 ok:X.Ok
 os:s.os=X.s₀.os
 bare:AllBare s.gens
 base:Un X.fs X.ex X.H₀ H X.s₀.heap s.heap
 loc:∃m,s.heap.Ns X.env.locals m/\∀(i:Nat) (x:Str) (v:V),X.N[i]?=NW x->σ[i]?=NW (NW v)->D8 X.env.scope x->∃u,RelV v u/\Hx X.env s.heap m x u
 cell:∀x c,X.env.cells.lookup x=NW c->∃v,s.heap.IsCell c v
 free:H X.env.locals=NX
 freeC:∀x c,X.env.cells.lookup x=NW c->H c=NX
 pin:∀p∈X.pn++pins,s.heap.get? p.1=NW p.2/\H p.1=NX/\p.1≠X.env.locals/\p.1∉X.fs/\∀v,p.2.data≠.cell v
 hok:HOk X.prog X.w H s.heap
 len:σ.length=X.N.length
section
variable {X:Cx} {pins:List (N2×Obj)} {σ:List (Option V)} {H H':Hp} {s:N3} {h':Oc}
theorem Cx.Ok.nofr(ok:X.Ok){b:N2}{o:Obj}(e:X.base.get? b=NW o):b∉X.fs:=λhb=>by
 have:=(ok.funs.mem hb).1;rw[e] at this;cases this
theorem Inv.bs(I:Inv X pins σ H s):∀b o,X.base.get? b=NW o->s.heap.get? b=NW o/\H b=NX:=λb o e=>
 ⟨I.base.keep b o (I.ok.bs b o e).1 (I.ok.bs b o e).2 (I.ok.nofr e) (I.ok.noex b o e),I.base.free b o (I.ok.bs b o e).1 (I.ok.bs b o e).2 (I.ok.noex b o e)⟩
theorem Inv.bk(I:Inv X pins σ H s):∀b o,X.base.get? b=NW o->s.heap.get? b=NW o:=λb o e=>(I.bs b o e).1
theorem Inv.mod(I:Inv X pins σ H s):Mod X.K X.mg X.base:=I.ok.mod
theorem Inv.kIn(I:Inv X pins σ H s):X.K.In s.heap:=I.ok.mod.kin.keeps I.bk
theorem Inv.lt(I:Inv X pins σ H s):X.env.locals<s.heap.objs.size:=let ⟨_,hn,_⟩:=I.loc;hn.lt
theorem Inv.sz(I:Inv X pins σ H s):X.s₀.heap.objs.size<=s.heap.objs.size:=LM I.ok.above (Nd I.lt)
theorem Inv.nofs(I:Inv X pins σ H s){a:N2}(h:s.heap.objs.size<=a):a∉X.fs:=λhb=>by
 obtain⟨_,o,ho,_⟩:=I.ok.funs.mem hb;exact absurd (Lr (Lp ho) (LM I.sz h)) (Mo _)
theorem Inv.cne(I:Inv X pins σ H s):∀x c,X.env.cells.lookup x=NW c->c≠X.env.locals:=λx c e z=>by
 obtain⟨v,o,ho,hd⟩:=I.cell x c e;obtain⟨m,⟨o',es,ep,ho',hd',_⟩,_⟩:=I.loc;rw[z,ho'] at ho;cases ho;rw[hd'] at hd;cases hd
theorem Inv.funs(I:Inv X pins σ H s):s.heap.FunFrames X.base X.outer:=by
 have all:∀(l:List Env),(∀b∈t9 l,b∈X.fs)->X.s₀.heap.FunFrames X.base l->s.heap.FunFrames X.base l:=by
  intro l
  induction l with
  |nil=>intro _ _;trivial
  |cons env r ih=>
   intro hs hl;obtain⟨hk,⟨L,o,hf,hn,ho,hd⟩,hr⟩:=hl;have hL:L∈X.fs:=hs L (by unfold t9;rw[LK,hf];exact LC);obtain⟨sl,e⟩:=I.base.slot L o ho (I.ok.frf L hL) hL λz=>I.ok.exfs L z hL;exact⟨hk,⟨L,_,hf,hn,e,hd⟩,ih (λb hb=>hs b (by unfold t9;rw[LK,hf];exact Lu _ hb)) hr⟩
 exact all X.outer (λ_ hb=>hb) I.ok.funs
theorem Inv.stack(I:Inv X pins σ H s):s.heap.FunFrames X.base X.stack:=by
 rcases I.ok.stk with e|⟨e,hf⟩
 ·rw[e];exact I.funs
 ·rw[e];obtain⟨m,hn,_⟩:=I.loc;refine .cons (by rw[I.ok.kind];decide) hf hn ?_ I.funs;exact Heap.get?_none_of_le (LM I.ok.bsz I.ok.above)
theorem Inv.stkSub(I:Inv X pins σ H s):∀b∈t9 X.stack,b∈X.env.locals::X.fs:=λb hb=>by
 rcases I.ok.stk with e|⟨e,hf⟩
 ·rw[e] at hb;exact Lu _ hb
 ·rw[e] at hb;unfold t9 at hb;rw[LK,hf] at hb;exact hb
theorem Inv.stkFree(I:Inv X pins σ H s):∀b∈t9 X.stack,H b=NX:=λb hb=>by
 rcases Lq.mp (I.stkSub b hb) with e|hb
 ·rw[e];exact I.free
 ·obtain⟨_,o,ho,_⟩:=I.ok.funs.mem hb;exact I.base.free b o ho (I.ok.frf b hb) λz=>I.ok.exfs b z hb
theorem Inv.step{t':Nat}{ch:List N2}(I:Inv X pins σ H s)(hch:∀b∈ch,(b∈X.ex\/X.s₀.heap.objs.size<=b)/\b≠X.env.locals/\(∀x c,X.env.cells.lookup x=NW c->c≠b)/\∀p∈X.pn++pins,p.1≠b)(keep:∀b o,b≠X.env.locals->b∉X.fs->b∉ch->s.heap.get? b=NW o->H b=NX->h'.get? b=NW o)(slot:∀b o,b≠X.env.locals->b∈X.fs->b∉ch->s.heap.get? b=NW o->H b=NX->∃sl,h'.get? b=NW { o with slots:=sl })(free:∀b o,b∉ch->s.heap.get? b=NW o->H b=NX->H' b=NX)(there:∀b o,b∉ch->s.heap.get? b=NW o->∃o',h'.get? b=NW o')(tups:∀b xs,H b=NW (.tup xs)->H' b=NW (.tup xs))(frzs:∀b o u,H b=NW (.frz o u)->H' b=NW (.frz o u))(tbls:∀b ps,H b=NW (.tbl ps)->∃more,H' b=NW (.tbl (ps++more)))(ns:∀m,s.heap.Ns X.env.locals m->h'.Ns X.env.locals m)(hok:HOk X.prog X.w H' h')(hg:AllBare g') :
  Inv X pins σ H' { s with heap:=h',gens:=g',drawn:=d',toks:=t' }:=by
 have neL:∀b o,X.s₀.heap.get? b=NW o->b≠X.env.locals:=λb o e=>LG (Lr (Lp e) I.ok.above)
 have neC:∀b o,X.s₀.heap.get? b=NW o->b∉X.ex->b∉ch:=λb o e hx hb=>by
  rcases(hch b hb).1 with z|z
  ·exact hx z
  ·exact absurd (Lr (Lp e) z) (Mo _)
 have cellK:∀x c,X.env.cells.lookup x=NW c->∀v,s.heap.IsCell c v->h'.IsCell c v:=λx c e v ⟨o,ho,hd⟩=>by
  have nch:c∉ch:=λz=>(hch c z).2.2.1 x c e rfl;by_cases hc:c∈X.fs
  ·obtain⟨sl,q⟩:=slot c o (I.cne x c e) hc nch ho (I.freeC x c e);exact⟨_,q,hd⟩
  ·exact⟨o,keep c o (I.cne x c e) hc nch ho (I.freeC x c e),hd⟩
 refine⟨I.ok,I.os,hg,⟨λb o e n hb hx=>?_,λb o e n hb hx=>?_,λb o e n hx=>?_,λb o e hx=>?_,λb xs e=>tups b xs (I.base.tups b xs e),λb o xs e=>frzs b o xs (I.base.frzs b o xs e),λb ps e=>?_⟩,?_,λx c e=>?_,?_,λx c e=>?_,λp hp=>?_,hok,I.len⟩
 ·exact keep b o (neL b o e) hb (neC b o e hx) (I.base.keep b o e n hb hx) (I.base.free b o e n hx)
 ·obtain⟨sl,e1⟩:=I.base.slot b o e n hb hx;obtain⟨sl',e2⟩:=slot b _ (neL b o e) hb (neC b o e hx) e1 (I.base.free b o e n hx);exact⟨sl',e2⟩
 ·obtain⟨o',e1⟩:=I.base.there b o e hx;exact free b o' (neC b o e hx) e1 (I.base.free b o e n hx)
 ·obtain⟨o',e1⟩:=I.base.there b o e hx;exact there b o' (neC b o e hx) e1
 ·obtain⟨m1,e1⟩:=I.base.tbls b ps e;obtain⟨m2,e2⟩:=tbls b _ e1;exact⟨m1++m2,by rw[e2,Array.append_assoc]⟩
 ·obtain⟨m,hn,hl⟩:=I.loc;refine⟨m,ns m hn,λi x v e1 e2 e3=>?_⟩;obtain⟨u,r,l⟩:=hl i x v e1 e2 e3;refine⟨u,r,?_⟩;rcases l with l|⟨k,c,e,z⟩
  ·exact .inl l
  ·exact .inr ⟨k,c,e,cellK x c e _ z⟩
 ·obtain⟨v,z⟩:=I.cell x c e;exact⟨v,cellK x c e v z⟩
 ·obtain⟨m,⟨o,_,_,ho,_⟩,_⟩:=I.loc;exact free _ o (λz=>(hch _ z).2.1 rfl) ho I.free
 ·obtain⟨v,o,ho,hd⟩:=I.cell x c e;exact free c o (λz=>(hch c z).2.2.1 x c e rfl) ho (I.freeC x c e)
 ·obtain⟨e,n,ne,nf,d⟩:=I.pin p hp;have nch:p.1∉ch:=λz=>(hch p.1 z).2.2.2 p hp rfl;exact⟨keep p.1 p.2 ne nf nch e n,free p.1 p.2 nch e n,ne,nf,d⟩
theorem Inv.un{t':Nat}(I:Inv X pins σ H s)(u:Un X.fs [] H H' s.heap h')(hok:HOk X.prog X.w H' h'):Inv X pins σ H' { s with heap:=h',toks:=t' }:=by
 obtain⟨m,⟨o,es,ep,ho,r⟩,_⟩:=id I.loc;obtain⟨sl,hL⟩:=u.any ho I.free (by simp)
 exact I.step (g':=s.gens) (d':=s.drawn) (ch:=[]) (λ_ z=>nomatch z) (λb o _ hb _ e n=>u.keep b o e n hb (by simp)) (λb o _ hb _ e n=>u.slot b o e n hb (by simp)) (λb o _ e n=>u.free b o e n (by simp)) (λb o _ e=>u.there b o e (by simp)) u.tups u.frzs u.tbls (λm' hm=>by
  obtain⟨o',es',ep',ho',r'⟩:=hm;rw[ho] at ho';cases ho';exact⟨_,es',ep',hL,r'⟩) hok I.bare
theorem Inv.call{t':Nat}{ch:List N2}(I:Inv X pins σ H s)(u:Un (t9 X.stack) ch H H' s.heap h')(hok:HOk X.prog X.w H' h')(hg:AllBare g')(hch:∀b∈ch,(b∈X.ex\/X.s₀.heap.objs.size<=b)/\b≠X.env.locals/\(∀x c,X.env.cells.lookup x=NW c->c≠b)/\∀p∈X.pn++pins,p.1≠b) :
  Inv X pins σ H' { s with heap:=h',gens:=g',drawn:=d',toks:=t' }:=by
 obtain⟨m,⟨o,es,ep,ho,r⟩,_⟩:=id I.loc;obtain⟨sl,hL⟩:=u.any ho I.free λz=>(hch _ z).2.1 rfl
 exact I.step (ch:=ch) hch (λb o hL hb hc e n=>u.keep b o e n (λz=>(Lq.mp (I.stkSub b z)).elim hL hb) hc) (λb o _ _ hc e n=>u.any e n hc) (λb o hc e n=>u.free b o e n hc) (λb o hc e=>u.there b o e hc) u.tups u.frzs u.tbls (λm' hm=>by
  obtain⟨o',es',ep',ho',r'⟩:=hm;rw[ho] at ho';cases ho';exact⟨_,es',ep',hL,r'⟩) hok hg
theorem Inv.turned{t':Nat}{it:N2}(I:Inv X pins σ H s)(k:∀b o,b≠it->s.heap.get? b=NW o->h'.get? b=NW o)(hn:H it=NX)(hL:it≠X.env.locals)
  (h1:it∈X.ex\/X.s₀.heap.objs.size<=it) (h2:∀x c,X.env.cells.lookup x=NW c->c≠it) (h3:∀p∈X.pn++pins,p.1≠it):Inv X pins σ H { s with heap:=h',toks:=t' }:=by
 have nit:∀b u,H b=NW u->b≠it:=λb u e z=>by rw[z,hn] at e;cases e
 refine I.step (g':=s.gens) (d':=s.drawn) (ch:=[it]) (λb hb=>?_) (λb o _ _ hc e _=>k b o (λz=>hc (by simp[z])) e) (λb o _ _ hc e _=>⟨o.slots,k b o (λz=>hc (by simp[z])) e⟩) (λ_ _ _ _ n=>n)
  (λb o hc e=>⟨o,k b o (λz=>hc (by simp[z])) e⟩) (λ_ _ e=>e) (λ_ _ _ e=>e) (λb ps e=>⟨#[],by rw[e];simp⟩) (λm hm=>?_) (λb u e=>?_) I.bare
 ·have e:b=it:=by simpa using hb
  subst e;exact⟨h1,hL,h2,h3⟩
 ·obtain⟨o,es,ep,ho,r⟩:=hm;exact⟨o,es,ep,k _ o (Ne.symm hL) ho,r⟩
 ·refine(I.hok b u e).stay (λc v hc q=>k c v ?_ q) (λ_ q=>q) λ_ _ q=>q;rcases hc with z|z
  ·rw[z];exact nit b u e
  ·exact nit c _ z
theorem Inv.tok(I:Inv X pins σ H s)(t:Nat):Inv X pins σ H { s with toks:=t }:=I.un (h':=s.heap) (t':=t) Un.refl I.hok
theorem Inv.kept{t':Nat}(I:Inv X pins σ H s)(k:∀b u,s.heap.get? b=NW u->h'.get? b=NW u):Inv X pins σ H { s with heap:=h',toks:=t' }:=I.un (Un.kept k) (I.hok.kept k)
theorem Inv.laid{t':Nat}(I:Inv X pins σ H s)(k:∀b u,s.heap.get? b=NW u->h'.get? b=NW u)(hp:s.heap.objs.size<=a)(new:ObjOk X.prog X.w (upd H a o) h' a o) :
  Inv X pins σ (upd H a o) { s with heap:=h',toks:=t' }:=I.un (Un.laid k hp (I.hok.fresh hp)) (I.hok.laid k hp new)
theorem Inv.write{x e:N2}{t':Nat}(I:Inv X pins σ H s)(mu:D7 (H x))(he:e=x\/H e=NW (.own x))(k:∀b u,b≠e->s.heap.get? b=NW u->h'.get? b=NW u)(heo:∃u,h'.get? e=NW u)(new:ObjOk X.prog X.w (upd H x o) h' x o):Inv X pins σ (upd H x o) { s with heap:=h',toks:=t' }:=I.un (Un.write mu he k heo) (I.hok.write mu he k heo new)
theorem Inv.pins_of{pins':List (N2×Obj)}(I:Inv X pins σ H s)(h:∀p∈pins',s.heap.get? p.1=NW p.2/\H p.1=NX/\p.1≠X.env.locals/\p.1∉X.fs/\∀v,p.2.data≠.cell v):Inv X pins' σ H s:=
 ⟨I.ok,I.os,I.bare,I.base,I.loc,I.cell,I.free,I.freeC,λp hp=>(Md.mp hp).elim (λz=>I.pin p (Mp _ z)) (h p),I.hok,I.len⟩
theorem nz{N:List Str}(hN:N.Nodup){i j:Nat}{x:Str}(a:N[i]?=NW x)(b:N[j]?=NW x):i=j:=by
 obtain⟨h1,e1⟩:=Lk.mp a;obtain⟨h2,e2⟩:=Lk.mp b;exact(List.getElem_inj hN).mp (e1.trans e2.symm)
theorem lf{i:Nat}{x:Str}{Q:Unit->N3->Prop}(I:Inv X pins σ H s)(hN:X.N.Nodup)(hi:X.N[i]?=NW x)(hx:AZ X.env.scope x)(r:RelV v u)(h:∀s',Inv X pins (σ.set i (NW v)) H s'->(∃a,Heap.SameBut a s.heap s'.heap/\(a=X.env.locals\/X.env.cells.lookup x=NW a))->Q () s')(hf:X.fn x=NY\/X.env.scope.names.lookup x=NW .local:=by first|exact .inl rfl|exact .inr rfl|assumption):N5 M A (storeName X.env x u) Q E s:=by
 obtain⟨m,hn,hl⟩:=id I.loc;have hcls:(X.env.scope.kind==.class||(X.env.scope.kind==.module&&X.env.locals != X.env.globals))=NZ:=by rw[I.ok.kind];rfl
 have hiσ:i<σ.length:=by rw[I.len];exact(Lk.mp hi).1
 have cne:=I.cne
 have tracked:∀{a:N2} {h':Oc},(∃o,s.heap.get? a=NW o/\H a=NX)->Heap.SameBut a s.heap h'->HOk X.prog X.w H h':=λ{a h'} ha hs b ob e=>by
  obtain⟨_,_,hfree⟩:=ha;refine(I.hok b ob e).stay (λc w' hc q=>(hs.2 c ?_).trans q) (λ_ q=>q) λ_ _ q=>q
  rintro rfl
  rcases hc with rfl|hc
  ·rw[hfree] at e;cases e
  ·rw[hfree] at hc;cases hc
 rcases hx with hk|hk
 ·refine wpAny_storeName_local hk hn (λh' hn' hs=>?_) hcls;obtain⟨oL,_,_,hoL,_⟩:=id hn;refine h _ ⟨I.ok,I.os,I.bare,⟨λb o e n hb hx=>?_,λb o e n hb hx=>?_,I.base.free,λb o e hx=>?_,I.base.tups,I.base.frzs,I.base.tbls⟩,⟨_,hn',λj y v' e1 e2 e3=>?_⟩,λy c e=>?_,I.free,I.freeC,λp hp=>?_,tracked ⟨oL,hoL,I.free⟩ hs,by simpa using I.len⟩ ⟨_,hs,.inl rfl⟩
  ·exact(hs.2 b (LG (Lr (Lp e) I.ok.above))).trans (I.base.keep b o e n hb hx)
  ·obtain⟨sl,e1⟩:=I.base.slot b o e n hb hx;exact⟨sl,(hs.2 b (LG (Lr (Lp e) I.ok.above))).trans e1⟩
  ·obtain⟨o',e1⟩:=I.base.there b o e hx;exact⟨o',(hs.2 b (LG (Lr (Lp e) I.ok.above))).trans e1⟩
  ·by_cases hj:j=i
   ·subst hj;rw[hi] at e1;cases e1;rw[Ly hiσ] at e2;cases e2;exact⟨u,r,.inl ⟨hk,by simp⟩⟩
   ·rw[Lx (Ne.symm hj)] at e2;obtain⟨u',r',q⟩:=hl j y v' e1 e2 e3;refine⟨u',r',?_⟩;rcases q with⟨k,e⟩|⟨k,c,e,z⟩
    ·refine .inl ⟨k,?_⟩;have:y≠x:=λe=>hj (nz hN e1 (e▸hi));simp[this,e]
    ·exact .inr ⟨k,c,e,z.sameBut hs (cne y c e)⟩
  ·obtain⟨w',z⟩:=I.cell y c e;exact⟨w',z.sameBut hs (cne y c e)⟩
  ·obtain⟨e,n,ne,nf,d⟩:=I.pin p hp;exact⟨(hs.2 p.1 ne).trans e,n,ne,nf,d⟩
 ·have hfn:X.fn x=NY:=by
   rcases hf with z|z
   ·exact z
   ·rw[z] at hk;cases hk
  obtain⟨c,hc⟩:=I.ok.has x (.inl hk);obtain⟨w',z⟩:=I.cell x c hc;refine wpAny_storeName_cell I.ok.kind hk hc z (λh' hc' hs=>?_);obtain⟨oc,hoc,hocd⟩:=id z;refine h { s with heap:=h' } ⟨I.ok,I.os,I.bare,⟨λb o e n hb hx=>?_,λb o e n hb hx=>?_,I.base.free,λb o e hx=>?_,I.base.tups,I.base.frzs,I.base.tbls⟩,⟨m,hn.sameBut hs (Ne.symm (cne x c hc)),λj y v' e1 e2 e3=>?_⟩,λy c' e=>?_,I.free,I.freeC,λp hp=>?_,tracked ⟨oc,hoc,I.freeC x c hc⟩ hs,by simpa using I.len⟩ ⟨c,hs,.inr hc⟩
  ·exact(hs.2 b (LG (Lr (Lp e) (I.ok.cab x c hfn hc)))).trans (I.base.keep b o e n hb hx)
  ·obtain⟨sl,e1⟩:=I.base.slot b o e n hb hx;exact⟨sl,(hs.2 b (LG (Lr (Lp e) (I.ok.cab x c hfn hc)))).trans e1⟩
  ·obtain⟨o',e1⟩:=I.base.there b o e hx;exact⟨o',(hs.2 b (LG (Lr (Lp e) (I.ok.cab x c hfn hc)))).trans e1⟩
  ·by_cases hj:j=i
   ·subst hj;rw[hi] at e1;cases e1;rw[Ly hiσ] at e2;cases e2;exact⟨u,r,.inr ⟨.inl hk,c,hc,hc'⟩⟩
   ·rw[Lx (Ne.symm hj)] at e2;obtain⟨u',r',q⟩:=hl j y v' e1 e2 e3;refine⟨u',r',?_⟩;rcases q with q|⟨k,c',e,z'⟩
    ·exact .inl q
    ·refine .inr ⟨k,c',e,z'.sameBut hs ?_⟩
     rintro rfl
     exact hj (nz hN e1 (I.ok.inj _ _ _ e hc▸hi))
  ·by_cases hcc:c'=c
   ·subst hcc;exact⟨_,hc'⟩
   ·obtain⟨w2,z2⟩:=I.cell y c' e;exact⟨w2,z2.sameBut hs hcc⟩
  ·obtain⟨e,n,ne,nf,d⟩:=I.pin p hp;refine⟨(hs.2 p.1 ?_).trans e,n,ne,nf,d⟩;intro q;rw[q,hoc] at e;have q':oc=p.2:=Option.some.inj e;exact d w' (by rw[<- q'];exact hocd)
theorem eY{i:Nat}{x:Str}{Q:Unit->N3->Prop}(I:Inv X pins σ H s)(hN:X.N.Nodup)(hi:X.N[i]?=NW x)(hx:AZ X.env.scope x)(r:RelV v u)(h:∀s',Inv X pins (σ.set i (NW v)) H s'->Q () s')(hf:X.fn x=NY\/X.env.scope.names.lookup x=NW .local:=by first|exact .inl rfl|exact .inr rfl|assumption):N5 M A (storeName X.env x u) Q E s:=
 lf I hN hi hx r (λs' I' _=>h s' I') hf
theorem Inv.call'{s':N3}{ch:List N2}(I:Inv X pins σ H s)(ho:s'.os=s.os)(u:Un (t9 X.stack) ch H H' s.heap s'.heap)(hok:HOk X.prog X.w H' s'.heap)(hg:AllBare s'.gens)
  (hch:∀b∈ch,(b∈X.ex\/X.s₀.heap.objs.size<=b)/\b≠X.env.locals/\(∀x c,X.env.cells.lookup x=NW c->c≠b)/\∀p∈X.pn++pins,p.1≠b):Inv X pins σ H' s':=by
 obtain⟨h',g',d',t',o'⟩:=s';have e:o'=s.os:=ho;subst e;exact I.call (g':=g') (t':=t') (d':=d') u hok hg hch
end
noncomputable abbrev XK:=N1->Option N2->Hp->Prop
noncomputable abbrev St:=List (Option V)
noncomputable abbrev VK:=V->Hp->Prop
noncomputable abbrev TE:=St->Hp->VK->Prop
noncomputable abbrev TT:=St->Hp->(Bool->Hp->Prop)->Prop
noncomputable abbrev TA:=St->Hp->(List V->Hp->Prop)->Prop
structure fQ where
 nx:St->Hp->Prop
 rt:VK
 bk:St->Hp->Prop:=λ_ _=>False
 ct:St->Hp->Prop:=λ_ _=>False
noncomputable abbrev TS:=fQ->St->Hp->Prop
noncomputable def EP(X:Cx)(pins:List (N2×Obj))(σ:St)(Q:VK)(u:N1)(s':N3):Prop:=∃v H',Inv X pins σ H' s'/\RelV v u/\Q v H'
noncomputable def TP(X:Cx)(pins:List (N2×Obj))(σ:St)(Q:Bool->Hp->Prop)(b:Bool)(s':N3):Prop:=∃H',Inv X pins σ H' s'/\Q b H'
noncomputable def AP(X:Cx)(pins:List (N2×Obj))(σ:St)(Q:List V->Hp->Prop)(us:List N1)(s':N3):Prop:=∃vs H',Inv X pins σ H' s'/\Vals vs us/\Q vs H'
noncomputable def SP(X:Cx)(pins:List (N2×Obj))(D:fQ)(f:Flow)(s':N3):Prop:=
 match f with
 |.next=>∃σ' H',Inv X pins σ' H' s'/\D.nx σ' H'
 |.brk=>∃σ' H',Inv X pins σ' H' s'/\D.bk σ' H'
 |.cont=>∃σ' H',Inv X pins σ' H' s'/\D.ct σ' H'
 |.ret u=>∃v σ' H',Inv X pins σ' H' s'/\RelV v u/\D.rt v H'
noncomputable def PE(X:Cx)(e:N0)(t:TE):Prop:=
 ∀(pins:List (N2×Obj)) (s:N3) (σ:St) (H:Hp) (Q:VK),Inv X pins σ H s->t σ H Q->N5 (N6 X.prog X.w) X.A (eval e X.env) (EP X pins σ Q) X.xe s
noncomputable def PT(X:Cx)(e:N0)(t:TT):Prop:=
 ∀(pins:List (N2×Obj)) (s:N3) (σ:St) (H:Hp) (Q:Bool->Hp->Prop),Inv X pins σ H s->t σ H Q->N5 (N6 X.prog X.w) X.A (isTrue e X.env (eval e X.env)) (TP X pins σ Q) X.xe s
noncomputable def PW(X:Cx)(e:N0)(t:TT):Prop:=
 ∀(whole:Sem N1) (pins:List (N2×Obj)) (s:N3) (σ:St) (H:Hp) (Q:Bool->Hp->Prop),Inv X pins σ H s->t σ H Q->N5 (N6 X.prog X.w) X.A (isTrue e X.env whole) (TP X pins σ Q) X.xe s
noncomputable def PA(X:Cx)(es:List N0)(t:TA):Prop:=
 ∀(pos:Pos) (pins:List (N2×Obj)) (s:N3) (σ:St) (H:Hp) (Q:List V->Hp->Prop),Inv X pins σ H s->t σ H Q->N5 (N6 X.prog X.w) X.A (spliced (backTo pos (Ob es X.env))) (AP X pins σ Q) X.xe s
noncomputable def PS(X:Cx)(st:N9)(t:TS):Prop:=
 ∀(pins:List (N2×Obj)) (s:N3) (σ:St) (H:Hp) (D:fQ),Inv X pins σ H s->t D σ H->N5 (N6 X.prog X.w) X.A (exec st X.env) (SP X pins D) X.xe s
noncomputable def PSs(X:Cx)(st:List N9)(t:TS):Prop:=
 ∀(pins:List (N2×Obj)) (s:N3) (σ:St) (H:Hp) (D:fQ),Inv X pins σ H s->t D σ H->N5 (N6 X.prog X.w) X.A (execs st X.env) (SP X pins D) X.xe s
theorem bB{α:Type}{t:Sem α}{Q Q':α->N3->Prop}{M:Model}{A:Od}{E:N1->N3->Prop}{s:N3}(h:N5 M A t Q E s)(hQ:∀a s,Q a s->Q' a s):N5 M A t Q' E s:=wpAny_mono h hQ λ_ _ x=>x
end L2
namespace L2
open PySem PySem.Spec PyProof.Rows
section
variable {X:Cx}
noncomputable def Hy(i:Nat):TE:=λσ H Q=>∃v,σ[i]?=NW (NW v)/\Q v H
noncomputable def tC(v:V):TE:=λ_ H Q=>Q v H
theorem o3{i:Nat}{x:Str}(hN:X.N[i]?=NW x)(hv:D8 X.env.scope x)(hd:(x==("__debug__":Str))=NZ:=by decide)(hcd:(x==("__classdict__":Str))=NZ:=by decide):PE X (.Name x pos) (Hy i):=by
 intro pins s σ H Q I h;obtain⟨v,e,h⟩:=h;obtain⟨m,hn,hl⟩:=I.loc;obtain⟨u,r,l⟩:=hl i x v hN e hv;have fin:EP X pins σ Q u s:=⟨v,H,I,r,h⟩;rcases l with⟨hk,hm⟩|⟨hk,c,hc,hcell⟩
 ·exact wpAny_Name (wpAny_loadName_local I.ok.kind hk hn hm fin) hd
 ·rcases hk with hk|hk
  ·exact wpAny_Name (wpAny_loadName_cell I.ok.kind hk hc hcell fin) hd
  ·exact wpAny_Name (wpAny_loadName_free I.ok.kind hk hc hcell fin hcd) hd
theorem ug{i j pos}:PE X (.Constant (.int i) j pos) (tC (.int i)):=λ_ _ _ H _ I h=>wpAny_Constant_int ⟨.int i,H,I.tok _,⟨_,rfl⟩,h⟩
theorem D9{b j pos}:PE X (.Constant (.bool b) j pos) (tC (.bl b)):=λ_ _ _ H _ I h=>Constant_bool ⟨.bl b,H,I,rfl,h⟩
theorem uh{j pos}:PE X (.Constant .none j pos) (tC .non):=λ_ _ _ H _ I h=>Constant_none ⟨.non,H,I,rfl,h⟩
theorem A0{x j pos}:PE X (.Constant (.str x) j pos) (tC (.str x)):=λ_ _ _ H _ I h=>Calls.Constant_str ⟨.str x,H,I.tok _,⟨_,rfl⟩,h⟩
noncomputable def Gl(X:Cx)(x:Str):Prop:=X.env.kindOf x=NW .globalImplicit
theorem l6{x:Str}{Q:N1->N3->Prop}(I:Inv X pins σ H s)(hg:Gl X x)(hm:X.mg x=NW u)(h:Q u s)(hd:(x==("__debug__":Str))=NZ:=by decide):N5 (N6 X.prog X.w) X.A (eval (.Name x pos) X.env) Q E s:=
 Calls.Name_function_global I.ok.kind hg (Calls.loadGlobal_global (by rw[I.ok.glob];exact I.mod.glob.keeps I.bk) hm h) hd
theorem dX{x:Str}{Q:N1->N3->Prop}(I:Inv X pins σ H s)(hg:Gl X x)(hm:X.mg x=NX)(hv:bootBuiltins x=NW u)(h:Q u s)(hn:x≠"__name__":=by decide)(hd:(x==("__debug__":Str))=NZ:=by decide):N5 (N6 X.prog X.w) X.A (eval (.Name x pos) X.env) Q E s:=by
 obtain⟨mb,h1,h2⟩:=I.mod.blt;exact Calls.Name_function_global I.ok.kind hg (Calls.loadGlobal_builtin (by rw[I.ok.glob];exact I.mod.glob.keeps I.bk) hm (by rw[I.ok.blt];exact h1.keeps I.bk) ((h2 x hn).trans hv) h) hd
theorem xC{x:Str}(hg:Gl X x)(hm:X.mg x=NW u)(r:RelV v u)(hd:(x==("__debug__":Str))=NZ:=by decide):PE X (.Name x pos) (tC v):=
 λ_ _ _ H _ I h=>l6 I hg hm ⟨v,H,I,r,h⟩ hd
theorem xD{x:Str}(hg:Gl X x)(hm:X.mg x=NX)(hv:bootBuiltins x=NW u)(r:RelV v u)(hn:x≠"__name__":=by decide)(hd:(x==("__debug__":Str))=NZ:=by decide):PE X (.Name x pos) (tC v):=
 λ_ _ _ H _ I h=>dX I hg hm hv ⟨v,H,I,r,h⟩ hn hd
variable {a b:N0} {ta tb:TE} {pos:Pos}
variable {tA tB':TT} {rest:List N0}
noncomputable def Hz(t u:TT):TT:=λσ H Q=>t σ H λc H1=>if c=NY then u σ H1 Q else Q NZ H1
noncomputable def KB(t u:TT):TT:=λσ H Q=>t σ H λc H1=>if c=NY then Q NY H1 else u σ H1 Q
noncomputable def HA(t:TT):TT:=λσ H Q=>t σ H λc H1=>Q (!c) H1
theorem xE(ha:PT X a tA):PW X (.BoolOp .And [a] pos) tA:=by
 intro wh pins s σ H Q I h;refine isTrue_and (bB (ha pins s σ H Q I h) λc s1 e=>?_)
 cases c with
 |true=>exact isTrue_and_nil e
 |false=>exact e
theorem A1(ha:PT X a tA):PW X (.BoolOp .Or [a] pos) tA:=by
 intro wh pins s σ H Q I h;refine isTrue_or (bB (ha pins s σ H Q I h) λc s1 e=>?_)
 cases c with
 |false=>exact isTrue_or_nil e
 |true=>exact e
theorem ui(ha:PT X a tA)(hb:PW X (.BoolOp .And (b::rest) pos) tB'):PW X (.BoolOp .And (a::b::rest) pos) (Hz tA tB'):=by
 intro wh pins s σ H Q I h;refine isTrue_and (bB (ha pins s σ H _ I h) λc s1 ⟨H1,I1,q1⟩=>?_)
 cases c with
 |true=>exact hb wh pins s1 σ H1 Q I1 q1
 |false=>exact⟨H1,I1,q1⟩
theorem Ab(ha:PT X a tA)(hb:PW X (.BoolOp .Or (b::rest) pos) tB'):PW X (.BoolOp .Or (a::b::rest) pos) (KB tA tB'):=by
 intro wh pins s σ H Q I h;refine isTrue_or (bB (ha pins s σ H _ I h) λc s1 ⟨H1,I1,q1⟩=>?_)
 cases c with
 |true=>exact⟨H1,I1,q1⟩
 |false=>exact hb wh pins s1 σ H1 Q I1 q1
theorem A2(ha:PT X a tA):PT X (.UnaryOp .Not a pos) (HA tA):=by
 intro pins s σ H Q I h;exact isTrue_not (ha pins s σ H (λc H1=>Q (!c) H1) I h)
noncomputable def Ea(ta tb:TE):TE:=λσ H Q=>ta σ H λx H1=>∃c,x=.bl c/\if c=NY then tb σ H1 Q else Q (.bl NZ) H1
noncomputable def HB(ta tb:TE):TE:=λσ H Q=>ta σ H λx H1=>∃c,x=.bl c/\if c=NY then Q (.bl NY) H1 else tb σ H1 Q
theorem A3{op}(h:PE X a t):PE X (.BoolOp op [a] pos) t:=λpins s σ H Q I hw=>BoolOp_one (h pins s σ H Q I hw)
theorem uj(ha:PE X a ta)(hb:PE X (.BoolOp .And (b::rest) pos) tb):PE X (.BoolOp .And (a::b::rest) pos) (Ea ta tb):=by
 intro pins s σ H Q I h;refine BoolOp_and (bB (ha pins s σ H _ I h) λv s1 ⟨x,H1,I1,r1,q1⟩=>?_);obtain⟨c,rfl,q1⟩:=q1;cases r1;refine Oo ?_
 cases c with
 |true=>exact hb pins s1 σ H1 Q I1 q1
 |false=>exact⟨.bl NZ,H1,I1,rfl,q1⟩
theorem Ac(ha:PE X a ta)(hb:PE X (.BoolOp .Or (b::rest) pos) tb):PE X (.BoolOp .Or (a::b::rest) pos) (HB ta tb):=by
 intro pins s σ H Q I h;refine BoolOp_or (bB (ha pins s σ H _ I h) λv s1 ⟨x,H1,I1,r1,q1⟩=>?_);obtain⟨c,rfl,q1⟩:=q1;cases r1;refine Oo ?_
 cases c with
 |false=>exact hb pins s1 σ H1 Q I1 q1
 |true=>exact⟨.bl NY,H1,I1,rfl,q1⟩
noncomputable def KC(t:TT)(ta tb:TE):TE:=λσ H Q=>t σ H λc H1=>if c=NY then ta σ H1 Q else tb σ H1 Q
theorem nA{c:N0}(hc:PT X c tA)(ha:PE X a ta)(hb:PE X b tb):PE X (.IfExp c a b pos) (KC tA ta tb):=by
 intro pins s σ H Q I h;refine wpAny_IfExp (bB (hc pins s σ H _ I h) λd s1 ⟨H1,I1,q1⟩=>?_)
 cases d with
 |true=>exact ha pins s1 σ H1 Q I1 q1
 |false=>exact hb pins s1 σ H1 Q I1 q1
end
end L2
namespace L2
open PySem PySem.Spec PyProof.Rows
noncomputable def SqL(K:Lh)(H:Hp)(a:N2)(xs:List V):Prop:=
 Rd H a (.lst xs)\/
  ∃(o:Obj) (its:Array N1) (n:Nat),K.lookup a=NW o/\o.cls=.type "list"/\o.dict=NX/\o.data=.seq its n/\its.size<=sizeLine/\Vals xs its.toList
noncomputable def SqT(K:Lh)(H:Hp)(a:N2)(xs:List V):Prop:=
 Rd H a (.tup xs)\/
  ∃(o:Obj) (its:Array N1) (n:Nat),K.lookup a=NW o/\o.cls=.type "tuple"/\o.data=.seq its n/\its.size<=sizeLine/\Vals xs its.toList
noncomputable def HC:N1->Option V
 |.none=>NW .non
 |.bool b=>NW (.bl b)
 |.int i _=>NW (.int i)
 |.str x _=>NW (.str x)
 |.bytes b _=>NW (.byt b)
 |.float b _=>NW (.flt b)
 |.ref a=>NW (.ref a)
 |.type n=>NW (.ty n)
 |_=>NX
theorem RelV.abs(r:RelV x u):HC u=NW x:=by
 cases x with
 |non=>cases r;rfl
 |bl _=>cases r;rfl
 |int _=>obtain⟨t,rfl⟩:=r;rfl
 |str _=>obtain⟨t,rfl⟩:=r;rfl
 |byt _=>obtain⟨t,rfl⟩:=r;rfl
 |flt _=>obtain⟨t,rfl⟩:=r;rfl
 |ref _=>cases r;rfl
 |ty _=>cases r;rfl
theorem RelV.inj(r:RelV x u)(q:RelV y u):x=y:=Option.some.inj (r.abs.symm.trans q.abs)
theorem Vals.inj:∀{xs ys:List V} {us:List N1},Vals xs us->Vals ys us->xs=ys
 |_,_,_,.nil,.nil=>rfl
 |_,_,_,.cons r t,.cons r' t'=>by rw[r.inj r',Vals.inj t t']
section
variable {X:Cx} {pins:List (N2×Obj)} {σ:St} {H:Hp} {s:N3} {a:N2} {xs ys:List V}
theorem SqL.of{K:Lh}(h:H a=NW (.lst xs)):SqL K H a xs:=.inl (.inl h)
theorem SqT.of{K:Lh}(h:H a=NW (.tup xs)):SqT K H a xs:=.inl (.inl h)
theorem Inv.list(I:Inv X pins σ H s)(h:SqL X.K H a xs):∃its:List N1,Vals xs its/\PlainL s.heap a its.toArray/\xs.length<=sizeLine:=by
 rcases h with h|⟨o,its,n,hk,hc,hd,hs,hz,r⟩
 ·obtain⟨z,its,n,r,e⟩:=h.ok I.hok;exact⟨its,r,⟨_,n,e,rfl,rfl,rfl⟩,z⟩
 ·refine⟨its.toList,r,⟨o,n,I.kIn a o hk,hc,hd,by simpa using hs⟩,?_⟩;have e:=r.length;simp only[MX] at e
  lia
theorem Inv.tuple(I:Inv X pins σ H s)(h:SqT X.K H a xs):∃its:List N1,Vals xs its/\IsTup s.heap a its.toArray/\xs.length<=sizeLine:=by
 rcases h with h|⟨o,its,n,hk,hc,hs,hz,r⟩
 ·obtain⟨z,its,r,p⟩:=h.ok I.hok;exact⟨its,r,p,z⟩
 ·refine⟨its.toList,r,⟨o,I.kIn a o hk,hc,n,by simpa using hs⟩,?_⟩;have e:=r.length;simp only[MX] at e
  lia
theorem Inv.list_inj(I:Inv X pins σ H s)(h:SqL X.K H a xs)(h':SqL X.K H a ys):xs=ys:=by
 obtain⟨its,r,⟨o,n,e,_,_,d⟩,_⟩:=I.list h;obtain⟨its',r',⟨o',n',e',_,_,d'⟩,_⟩:=I.list h';rw[e] at e';cases e';rw[d] at d';injection d' with d1 _;have:its=its':=by simpa using congrArg Array.toList d1
 subst this;exact r.inj r'
theorem Inv.tuple_inj(I:Inv X pins σ H s)(h:SqT X.K H a xs)(h':SqT X.K H a ys):xs=ys:=by
 obtain⟨its,r,⟨o,e,_,n,d⟩,_⟩:=I.tuple h;obtain⟨its',r',⟨o',e',_,n',d'⟩,_⟩:=I.tuple h';rw[e] at e';cases e';rw[d] at d';injection d' with d1 _;have:its=its':=by simpa using congrArg Array.toList d1
 subst this;exact r.inj r'
end
noncomputable abbrev Cx.wish(X:Cx)(E:N1->N3->Prop):Cx:={ X with xe:=E }
noncomputable abbrev Cx.nox(X:Cx):Cx:=X.wish λ_ _=>False
theorem Cx.Ok.wish{X:Cx}(ok:X.Ok)(E:N1->N3->Prop):(X.wish E).Ok:=
 ⟨ok.mod,ok.kind,ok.glob,ok.blt,ok.above,ok.inj,ok.has,ok.cab,ok.hd,ok.frames,ok.stk,ok.exf,ok.bs,ok.bsz,ok.noex,ok.exfs,ok.funs,ok.frf⟩
theorem Cx.Ok.unwish{X:Cx}(ok:(X.wish E).Ok):X.Ok:=
 ⟨ok.mod,ok.kind,ok.glob,ok.blt,ok.above,ok.inj,ok.has,ok.cab,ok.hd,ok.frames,ok.stk,ok.exf,ok.bs,ok.bsz,ok.noex,ok.exfs,ok.funs,ok.frf⟩
section
variable {X:Cx} {pins:List (N2×Obj)} {σ:St} {H:Hp} {s:N3} {E:N1->N3->Prop}
theorem Inv.wish(I:Inv X pins σ H s)(E:N1->N3->Prop):Inv (X.wish E) pins σ H s:=⟨I.ok.wish E,I.os,I.bare,I.base,I.loc,I.cell,I.free,I.freeC,I.pin,I.hok,I.len⟩
theorem Inv.unwish(I:Inv (X.wish E) pins σ H s):Inv X pins σ H s:=⟨I.ok.unwish,I.os,I.bare,I.base,I.loc,I.cell,I.free,I.freeC,I.pin,I.hok,I.len⟩
theorem SP.unwish(h:SP (X.wish E) pins D f s'):SP X pins D f s':=by
 cases f with
 |next=>obtain⟨σ',H',I,q⟩:=h;exact⟨σ',H',I.unwish,q⟩
 |brk=>obtain⟨σ',H',I,q⟩:=h;exact⟨σ',H',I.unwish,q⟩
 |cont=>obtain⟨σ',H',I,q⟩:=h;exact⟨σ',H',I.unwish,q⟩
 |ret u=>obtain⟨v,σ',H',I,r,q⟩:=h;exact⟨v,σ',H',I.unwish,r,q⟩
theorem PSs.nox{st:List N9}{t:TS}(h:PSs X.nox st t):PSs X st t:=λpins s σ H D I hw=>
 wpAny_mono (h pins s σ H D (I.wish _) hw) (λ_ _ q=>q.unwish) λ_ _ z=>False.elim z
end
section
variable {X:Cx} {st:N9} {rest:List N9} {t u:TS} {e:N0} {te:TE} {pos:Pos}
noncomputable def uk:TS:=λD σ H=>D.nx σ H
noncomputable def HD(t u:TS):TS:=λD σ H=>t { D with nx:=u D } σ H
theorem xF:PSs X [] uk:=λ_ _ σ H _ I h=>wpAny_execs_nil ⟨σ,H,I,h⟩
theorem gN(h1:PS X st t)(h2:PSs X rest u):PSs X (st::rest) (HD t u):=by
 intro pins s σ H D I h;refine wpAny_execs_cons (bB (h1 pins s σ H { D with nx:=u D } I h) λf s1 q=>?_)
 cases f with
 |next=>
  obtain⟨σ',H',I',q⟩:=q;exact h2 pins s1 σ' H' D I' q
 |ret v=>exact q
 |brk=>exact q
 |cont=>exact q
theorem qB(h1:PS X st t):PSs X [st] t:=by
 intro pins s σ H D I h;refine wpAny_execs_cons (bB (h1 pins s σ H D I h) λf s1 q=>?_)
 cases f with
 |next=>exact wpAny_execs_nil q
 |ret v=>exact q
 |brk=>exact q
 |cont=>exact q
theorem xG:PS X (.Pass pos) uk:=λ_ _ σ H _ I h=>wpAny_Pass ⟨σ,H,I,h⟩
theorem Inv.quiet(I:Inv X pins σ H s):interactive X.env=NZ:=by simp[interactive,I.ok.kind]
theorem A4{x j pos pos'}:PS X (.Expr (.Constant (.str x) j pos) pos') uk:=λ_ s σ H _ I h=>wpAny_Expr (Calls.Constant_str (show SP X _ _ .next { s with toks:=s.toks+1 } from⟨σ,H,I.tok _,h⟩)) I.quiet
noncomputable def Eb(te:TE):TS:=λD σ H=>te σ H λ_ H1=>D.nx σ H1
theorem l7(he:PE X e te)(hs:swapsWith e NX pos.line X.env=pure NZ:=by rfl):PS X (.Expr e pos) (Eb te):=by
 intro pins s σ H D I h;exact wpAny_Expr_any (bB (he pins s σ H _ I h) λv s1 ⟨x,H1,I1,r1,q1⟩=>⟨σ,H1,I1,q1⟩) I.quiet hs
noncomputable def HE(te:TE):TS:=λD σ H=>te σ H D.rt
theorem A5(he:PE X e te):PS X (.Return (NW e) pos) (HE te):=by
 intro pins s σ H D I h;exact wpAny_Return_some (bB (he pins s σ H _ I h) λv s1 ⟨x,H1,I1,r1,q1⟩=>⟨x,σ,H1,I1,r1,q1⟩)
noncomputable def HF(c:TT)(t u:TS):TS:=λD σ H=>c σ H λb H1=>if b=NY then t D σ H1 else u D σ H1
theorem Ad{c:N0}{a b:List N9}{tc:TT}(hc:PT X c tc)(ha:PSs X a t)(hb:PSs X b u):PS X (.If c a b pos) (HF tc t u):=by
 intro pins s σ H D I h;refine wpAny_If (bB (hc pins s σ H _ I h) λd s1 ⟨H1,I1,q1⟩=>?_)
 cases d with
 |true=>exact ha pins s1 σ H1 D I1 q1
 |false=>exact hb pins s1 σ H1 D I1 q1
end
noncomputable abbrev TG:=V->St->Hp->(St->Hp->Prop)->Prop
noncomputable abbrev ul:=List V->St->Hp->(St->Hp->Prop)->Prop
noncomputable def PG(X:Cx)(target:N0)(t:TG):Prop:=
 ∀(pins:List (N2×Obj)) (s:N3) (σ:St) (H:Hp) (v:V) (u:N1) (Q:St->Hp->Prop),Inv X pins σ H s->RelV v u->t v σ H Q->
  N5 (N6 X.prog X.w) X.A (assign target X.env u) (λ_ s'=>∃σ' H',Inv X pins σ' H' s'/\Q σ' H') X.xe s
noncomputable def A6(X:Cx)(ts:List N0)(t:ul):Prop:=
 ∀(pins:List (N2×Obj)) (s:N3) (σ:St) (H:Hp) (vs:List V) (us:List N1) (Q:St->Hp->Prop),Inv X pins σ H s->Vals vs us->t vs σ H Q->
  N5 (N6 X.prog X.w) X.A (assignInOrder ((Oi ts X.env).map (·.2)) us) (λ_ s'=>∃σ' H',Inv X pins σ' H' s'/\Q σ' H') X.xe s
noncomputable abbrev A7:=V->V->V->Hp->(Hp->Prop)->Prop
noncomputable def Ec(X:Cx)(t:A7):Prop:=
 ∀(pins:List (N2×Obj)) (s:N3) (σ:St) (H:Hp) (o i v:V) (ov iv u:N1) (Q:Hp->Prop),Inv X pins σ H s->RelV o ov->RelV i iv->RelV v u->t o i v H Q->
  N5 (N6 X.prog X.w) X.A (setItem ov iv u) (λ_ s'=>∃H',Inv X pins σ H' s'/\Q H') X.xe s
noncomputable abbrev HG:=V->V->Hp->VK->Prop
noncomputable def Ke(X:Cx)(op:Oe)(t:HG):Prop:=
 ∀(pins:List (N2×Obj)) (s:N3) (σ:St) (H:Hp) (x y:V) (v u:N1) (Q:VK),Inv X pins σ H s->RelV x v->RelV y u->t x y H Q->
  N5 (N6 X.prog X.w) X.A (inplaceOp op v u) (EP X pins σ Q) X.xe s
section
variable {X:Cx} {pos:Pos}
noncomputable def jF(i:Nat):TG:=λv σ H Q=>Q (σ.set i (NW v)) H
theorem jp{i:Nat}{x:Str}(hN:X.N.Nodup)(hi:X.N[i]?=NW x)(hx:AZ X.env.scope x)(hf:X.fn x=NY\/X.env.scope.names.lookup x=NW .local:=by first|exact .inl rfl|exact .inr rfl|assumption):PG X (.Name x pos) (jF i):=by
 intro pins s σ H v u Q I r h;exact wpAny_assign_Name (eY I hN hi hx r (λs' I'=>⟨_,H,I',h⟩) hf)
noncomputable def A8:ul:=λvs σ H Q=>vs=[]/\Q σ H
noncomputable def um(t:TG)(u:ul):ul:=λvs σ H Q=>∃v r,vs=v::r/\t v σ H λσ' H'=>u r σ' H' Q
theorem l8:A6 X [] A8:=by
 intro pins s σ H vs us Q I r h;obtain⟨e,h⟩:=h;subst e;cases r;exact assignInOrder_nil ⟨σ,H,I,h⟩
theorem gO{e:N0}{es:List N0}{t:TG}{u:ul}(h1:PG X e t)(h2:A6 X es u)
  (hs:(Oi (e::es) X.env).map (·.2)=assign e X.env::(Oi es X.env).map (·.2):=by rfl):A6 X (e::es) (um t u):=by
 intro pins s σ H vs us Q I r h;obtain⟨v,vr,e1,h⟩:=h;subst e1
 cases r with
 |cons r rr=>
  rw[hs];refine assignInOrder_cons (bB (h1 pins s σ H _ _ _ I r h) λ_ s1 ⟨σ1,H1,I1,q1⟩=>?_);exact h2 pins s1 σ1 H1 _ _ Q I1 rr q1
noncomputable def Ed(K:Lh)(n:Nat)(t:ul):TG:=λv σ H Q=>∃a xs,v=.ref a/\SqT K H a xs/\xs.length=n/\t xs σ H Q
theorem o5{k:Nat}{n:Nat}(hc:X.calm=NY)(h:A6 X es t)(hn:(Oi es X.env).length=n:=by rfl)(hst:(Oi es X.env).findIdx? (·.1)=NX:=by rfl):PG X (.Tuple es k pos) (Ed X.K n t):=by
 intro pins s σ H v u Q I r hw;obtain⟨a,xs,e1,hq,hl,hw⟩:=hw;subst e1;cases r;obtain⟨its,rv,ht,hz⟩:=I.tuple hq;refine assign_Tuple_tuple (I.ok.hd hc) ht (by simp[hn,<- hl,rv.length]) hst λh' hx=>?_;have I1:Inv X pins σ H { s with heap:=h' }:=I.kept (t':=s.toks) λb o e=>hx b o (LG (Lp e)) e;exact h pins _ σ H xs _ Q I1 (by simpa using rv) hw
noncomputable def HI(to ti:TE)(t:A7):TG:=λv σ H Q=>to σ H λo H1=>ti σ H1 λi H2=>t o i v H2 λH3=>Q σ H3
theorem uo{o i:N0}{to ti:TE}{t:A7}(ho:PE X o to)(hi:PE X i ti)(hs:Ec X t)
  (ha:∀v,assign (.Subscript o i pos) X.env v=(do
   let ov <- holding [v] (eval o X.env);let iv <- holding [v,ov] (eval i X.env)
   standAt pos
   holding [v,ov,iv] (setItem ov iv v)
   release [v,ov,iv] []):=by intro _;rfl):PG X (.Subscript o i pos) (HI to ti t):=by
 intro pins s σ H v u Q I r h;rw[ha];refine N4 (Oq (bB (ho pins s σ H _ I h) λov s1 ⟨x,H1,I1,r1,q1⟩=>?_));refine N4 (Oq (bB (hi pins s1 σ H1 _ I1 q1) λiv s2 ⟨y,H2,I2,r2,q2⟩=>?_));refine N4 (wpAny_standAt (N4 (Oq (bB (hs pins s2 σ H2 x y v ov iv u _ I2 r1 r2 r q2) λ_ s3 ⟨H3,I3,q3⟩=>?_))));exact wpAny_release ⟨σ,H3,I3,q3⟩
noncomputable def A9(te:TE)(g:TG):TS:=λD σ H=>te σ H λx H1=>g x σ H1 D.nx
theorem l9{tg e:N0}{te:TE}{g:TG}(he:PE X e te)(hg:PG X tg g)(hs:swapsWithSole [tg] e pos.line X.env=pure NZ:=by rfl)(hw:swappedStores [tg] e X.env=pure NX:=by rfl)
  (h1:(Oi [tg] X.env).map (·.2)=[assign tg X.env]:=by rfl):PS X (.Assign [tg] e pos) (A9 te g):=by
 intro pins s σ H D I h;refine wpAny_Assign_stores (bB (he pins s σ H _ I h) λv s1 ⟨x,H1,I1,r1,q1⟩=>?_) hs hw;rw[h1];exact bB (hg pins s1 σ H1 x v _ I1 r1 q1) λ_ s2 q=>q
theorem o6{i:Nat}{x:Str}{e:N0}{te:TE}{pos':Pos}(hN:X.N.Nodup)(hi:X.N[i]?=NW x)(hx:AZ X.env.scope x)(he:PE X e te)(hs:swapsWith e (NW (.Name x pos')) pos.line X.env=pure NZ:=by rfl)(hf:X.fn x=NY\/X.env.scope.names.lookup x=NW .local:=by first|exact .inl rfl|exact .inr rfl|assumption) :
  PS X (.Assign [.Name x pos'] e pos) (A9 te (jF i)):=by
 intro pins s σ H D I h;refine wpAny_Assign_Name (bB (he pins s σ H _ I h) λv s1 ⟨y,H1,I1,r1,q1⟩=>?_) hs;exact eY I1 hN hi hx r1 (λs2 I2=>⟨_,H1,I2,q1⟩) hf
noncomputable def HJ(i j:Nat)(ta:TA):TS:=λD σ H=>ta σ H λvs H1=>∃v w,vs=[v,w]/\D.nx ((σ.set i (NW v)).set j (NW w)) H1
theorem Ba{i j:Nat}{x y:Str}{a b:N0}{ta:TA}{px py pt:Pos}{kt k2 pt2}(hc:X.calm=NY)(hN:X.N.Nodup)(hi:X.N[i]?=NW x)(hj:X.N[j]?=NW y)(hij:i≠j)
  (hx:X.env.scope.names.lookup x=NW .local) (hy:X.env.scope.names.lookup y=NW .local) (ha:PA X [a,b] ta)
  (hw:swappedStores [.Tuple [.Name x px,.Name y py] kt pt] (.Tuple [a,b] k2 pt2) X.env=pure (NW [x,y]))
  (hs:swapsWithSole [.Tuple [.Name x px,.Name y py] kt pt] (.Tuple [a,b] k2 pt2) pos.line X.env=pure NZ:=by rfl) :
  PS X (.Assign [.Tuple [.Name x px,.Name y py] kt pt] (.Tuple [a,b] k2 pt2) pos) (HJ i j ta):=by
 intro pins s σ H D I h;rw[exec_Assign_arm];refine N4 (wpAny_standAt ?_);rw[hs];refine N4 (N7 ?_);rw[if_neg (by decide)];refine N4 (Tuple_ (bB (ha _ pins s σ H _ I h) λus s1 ⟨vs,H1,I1,r1,q1⟩=>?_));obtain⟨v,w,e1,q1⟩:=q1;subst e1
 obtain⟨u1,u2,rfl,rv,rw'⟩:∃u1 u2,us=[u1,u2]/\RelV v u1/\RelV w u2:=by
  cases r1 with
  |cons p q=>
   cases q with
   |cons p' q'=>
    cases q';exact⟨_,_,rfl,p,p'⟩
 refine Os ?_ (by show 2<=sizeLine;decide);have I2:Inv X pins σ H1 { s1 with heap:=s1.heap.push { cls:=.type "tuple",data:=.seq [u1,u2].toArray } }:=I1.kept (t':=s1.toks) λb o e=>Ls _ e;rw[hw];refine N4 (N7 ?_)
 show N5 (N6 X.prog X.w) X.A (do rule "assign.swapped-stores";let items <- unpackItems (.ref s1.heap.objs.size) 2 NX;assignInOrder [λv=>bindName X.env y v,λv=>bindName X.env x v] items.reverse;pure Flow.next) _ _ _
 refine N4 (wpAny_rule (N4 (unpackItems_tuple (items:=#[u1,u2]) (I.ok.hd hc) (IsTup.new s1.heap _) λh' hx'=>?_)));have I3:=I2.kept (h':=h') (t':=s1.toks) λb o e=>hx' b o (LG (Lp e)) e
 show N5 _ _ (assignInOrder [λv=>bindName X.env y v,λv=>bindName X.env x v] [u2,u1] >>= λ_=>pure Flow.next) _ _ _
 refine N4 (assignInOrder_cons (wpAny_bindName (eY I3 hN hj (.inl hy) rw' (λs2 I4=>?_) (.inr hy))));refine assignInOrder_cons (wpAny_bindName (eY I4 hN hi (.inl hx) rv (λs3 I5=>assignInOrder_nil (N7 ?_)) (.inr hx)));rw[List.set_comm _ _ (Ne.symm hij)] at I5;exact⟨_,H1,I5,q1⟩
noncomputable def HK(i:Nat)(te:TE)(ti:HG):TS:=λD σ H=>∃x,σ[i]?=NW (NW x)/\te σ H λy H1=>ti x y H1 λz H2=>D.nx (σ.set i (NW z)) H2
theorem Bb{i:Nat}{x:Str}{e:N0}{te:TE}{op:Oe}{ti:HG}{pos':Pos}(hN:X.N.Nodup)(hi:X.N[i]?=NW x)(hx:AZ X.env.scope x)(he:PE X e te)(ho:Ke X op ti)(hf:X.fn x=NY\/X.env.scope.names.lookup x=NW .local:=by first|exact .inl rfl|exact .inr rfl|assumption) :
  PS X (.AugAssign (.Name x pos') op e pos) (HK i te ti):=by
 intro pins s σ H D I h;obtain⟨v,e1,h⟩:=h;obtain⟨m,hn,hl⟩:=I.loc;have vis:D8 X.env.scope x:=by rcases hx with k|k;exact .inl k;exact .inr (.inl k)
 obtain⟨u,r,l⟩:=hl i x v hi e1 vis;refine wpAny_AugAssign_Name ?_
 have go:N5 (N6 X.prog X.w) X.A (eval e X.env) (λw s₂=>N5 (N6 X.prog X.w) X.A (inplaceOp op u w) (λr s₃=>N5 (N6 X.prog X.w) X.A (storeName X.env x r) (λ_=>SP X pins D .next) X.xe s₃) X.xe s₂) X.xe s:=by
  refine bB (he pins s σ H _ I h) λw s1 ⟨y,H1,I1,r1,q1⟩=>?_;refine bB (ho pins s1 σ H1 v y u w _ I1 r r1 q1) λz s2 ⟨zv,H2,I2,r2,q2⟩=>?_;exact eY I2 hN hi hx r2 (λs3 I3=>⟨_,H2,I3,q2⟩) hf
 rcases l with⟨hk,hm⟩|⟨hk,c,hc,hcell⟩
 ·exact wpAny_loadName_local I.ok.kind hk hn hm go
 ·rcases hk with hk|hk
  ·exact wpAny_loadName_cell I.ok.kind hk hc hcell go
  ·rcases hx with k|k
   ·have:X.env.scope.names.lookup x=NW .free:=hk;rw[k] at this;cases this
   ·have:X.env.scope.names.lookup x=NW .free:=hk;rw[k] at this;cases this
end
section
variable {X:Cx} {pos:Pos}
noncomputable def Bc(c:TT)(tb:TS):TS:=λD σ H=>∃W:Nat->St->Hp->Prop,(∃m,W m σ H)/\∀m σ H,W m σ H->
 c σ H λb H1=>if b=NY then ∃N:St->Hp->Prop,(∀σ' H',N σ' H'->∃m',m'<m/\W m' σ' H')/\tb { D with nx:=N,ct:=N,bk:=D.nx } σ H1 else D.nx σ H1
theorem uq{c:N0}{body:List N9}{tc:TT}{tb:TS}(hp:PassesOwn (N6 X.prog X.w) X.A X.env X.xe)(hc:PT X c tc)(hb:PSs X body tb):PS X (.While c body [] pos) (Bc tc tb):=by
 intro pins s σ H D I h;obtain⟨W,⟨m0,w0⟩,turn⟩:=h;refine wpAny_While (codeAny_whileLoop (λn s'=>∃σ' H',Inv X pins σ' H' s'/\W n σ' H') ?_ m0 ⟨σ,H,I,w0⟩)
 rintro n s1 ⟨σ1,H1,I1,w1⟩
 refine Op hp (bB (hc pins s1 σ1 H1 _ I1 (turn n σ1 H1 w1)) λb s2 ⟨H2,I2,q2⟩=>?_)
 cases b with
 |true=>
  obtain⟨N,hN,q2⟩:=q2;rw[if_pos rfl];refine Op hp (bB (hb pins s2 σ1 H2 _ I2 q2) λf s3 q3=>?_)
  cases f with
  |next=>
   obtain⟨σ3,H3,I3,n3⟩:=q3;obtain⟨m',hm,w3⟩:=hN σ3 H3 n3;exact⟨m',hm,σ3,H3,I3,w3⟩
  |cont=>
   obtain⟨σ3,H3,I3,n3⟩:=q3;obtain⟨m',hm,w3⟩:=hN σ3 H3 n3;exact⟨m',hm,σ3,H3,I3,w3⟩
  |brk=>exact q3
  |ret v=>exact q3
 |false=>
  rw[if_neg Mj];exact wpAny_execs_nil ⟨σ1,H2,I2,q2⟩
end
structure It where
 go:Nat->Hp->Prop
 yld:Nat->Hp->V->Hp->Prop
 stop:Nat->Hp->Prop
noncomputable def jG(X:Cx)(pins:List (N2×Obj))(H:Hp)(b:N2):Prop:=
 H b=NX/\b≠X.env.locals/\b∉X.fs/\(b∈X.ex\/X.s₀.heap.objs.size<=b)/\(∀x c,X.env.cells.lookup x=NW c->c≠b)/\∀p∈X.pn++pins,p.1≠b
theorem Inv.fpOk{H H':Hp}{s:N3}(I:Inv X pins σ H s)(hb:s.heap.objs.size<=b)(hn:H' b=NX):jG X pins H' b:=by
 refine⟨hn,Mr (Lr I.lt hb),I.nofs hb,.inr (LM I.sz hb),λx c e z=>?_,λp hp z=>?_⟩
 ·obtain⟨v,q⟩:=I.cell x c e;exact absurd (Lr q.lt (by rw[z];exact hb)) (Mo _)
 ·exact absurd (Lr (Lp (I.pin p hp).1) (by rw[z];exact hb)) (Mo _)
structure o8(P:Program)(w:World)(K:Lh)(tg:Expr)(J:It)(fp:List Addr)(it:Addr)(tn:Nat->Heap->Prop):Prop where
 mem:it∈fp
 obj:∀i h,tn i h->∀b∈fp,∃o,h.get? b=NW o/\∀v,o.data≠.cell v
 keep:∀i h h',tn i h->(∀b∈fp,∀o,h.get? b=NW o->h'.get? b=NW o)->tn i h'
 item:∀(X:Cx),X.prog=P->X.w=w->X.K=K->X.calm=NY->∀(i:Nat) (pins:List (N2×Obj)) (s:N3) (σ:St) (H:Hp) (E:N1->N3->Prop),Inv X pins σ H s->(∀b∈fp,jG X pins H b)->tn i s.heap->J.go i H->
  N5 (N6 P w) X.A (pyNext (.ref it)) (λr s1=>∃u,r=NW u/\
   N5 (N6 P w) X.A (letOwnedTupleGo tg (.ref it) u) (λ_ s2=>∃x H',Inv X pins σ H' s2/\RelV x u/\J.yld i H x H'/\tn (i+1) s2.heap/\∀b∈fp,H' b=NX) E s1) E s
 done:∀(X:Cx),X.prog=P->X.w=w->X.K=K->X.calm=NY->∀(i:Nat) (pins:List (N2×Obj)) (s:N3) (σ:St) (H:Hp) (E:N1->N3->Prop),Inv X pins σ H s->(∀b∈fp,jG X pins H b)->tn i s.heap->J.stop i H->
  N5 (N6 P w) X.A (pyNext (.ref it)) (λr s1=>r=NX/\Inv X pins σ H s1) E s
 self:∀(A:Od) (i:Nat) (s:N3) (Q:N1->N3->Prop) (E:N1->N3->Prop),tn i s.heap->Q (.ref it) s->N5 (N6 P w) A (pyIter (.ref it)) Q E s
noncomputable abbrev TI:=St->Hp->(It->Hp->Prop)->Prop
noncomputable def HL(X:Cx)(pins:List (N2×Obj))(σ:St)(tg:N0)(R:It->Hp->Prop)(itv:N1)(s2:N3):Prop:=
 ∃(it:N2) (fp:List N2) (tn:Nat->Oc->Prop) (J:It) (H':Hp),itv=.ref it/\Inv X pins σ H' s2/\o8 X.prog X.w X.K tg J fp it tn/\tn 0 s2.heap/\(∀b∈fp,jG X pins H' b)/\R J H'
noncomputable def PI(X:Cx)(tg iter:N0)(wi:TI):Prop:=
 ∀(pins:List (N2×Obj)) (s:N3) (σ:St) (H:Hp) (R:It->Hp->Prop),Inv X pins σ H s->wi σ H R->
  N5 (N6 X.prog X.w) X.A (eval iter X.env) (λv s1=>N5 (N6 X.prog X.w) X.A (pyIter v) (HL X pins σ tg R) X.xe s1) X.xe s
theorem ur{s:N3}{o:Obj}{n:String}{Q:Unit->N3->Prop}(ho:s.heap.get? it=NW o)(hc:o.cls=.type n)(hd:o.data=.fields vs)(hn:["enumerate","zip","dict_itemiterator","dict_reverseitemiterator","odict_iterator","itertools.zip_longest","itertools.pairwise"].contains n=NZ)(hQ:Q () s):N5 M A (letOwnedTupleGo tg (.ref it) u) Q E s:=by
  unfold letOwnedTupleGo
  cases tg<;>first
    |exact N7 hQ
    |(cases u<;>first
        |exact N7 hQ
        | (refine N4 (wpAny_load ho ?_)
           rw[hc,hd]
           show N5 M A (if(["enumerate","zip","dict_itemiterator","dict_reverseitemiterator","odict_iterator","itertools.zip_longest","itertools.pairwise"].contains n&&vs[0]?==NW (Ou _))=NY then _ else _) Q E s
           rw[if_neg (by intro h;rw[hn,Bool.false_and] at h;cases h)];exact N7 hQ))
noncomputable def DI(K:Lh)(a:N2):It:=
 ⟨λi H=>∃xs x,SqL K H a xs/\xs[i]?=NW x,λi H x H'=>H'=H/\∀xs,SqL K H a xs->xs[i]?=NW x,λi H=>∃xs,SqL K H a xs/\xs.length<=i⟩
noncomputable def HM(K:Lh)(a:N2):It:=
 ⟨λi H=>∃xs x,SqT K H a xs/\xs[i]?=NW x,λi H x H'=>H'=H/\∀xs,SqT K H a xs->xs[i]?=NW x,λi H=>∃xs,SqT K H a xs/\xs.length<=i⟩
noncomputable def Ee(lo:Int)(n:Nat):It:=⟨λi _=>i<n,λi H x H'=>H'=H/\x=.int (lo+i),λi _=>n<=i⟩
theorem sI{P:N8}{w:Oa}{K:Lh}{tg:N0}(a it:N2):o8 P w K tg (DI K a) [it] it (λi h=>h.IsListIter it a i) where
 mem:=by simp
 obj:=λi h st b hb=>by
  have e:b=it:=by simpa using hb
  subst e;obtain⟨o,e,c,d⟩:=st;exact⟨o,e,λv z=>by rw[d] at z;cases z⟩
 keep:=λi h h' st k=>st.at λo e=>k it (by simp) o e
 item:=by
  intro X hP hw hK hc i pins s σ H E I hf st hg;subst hP hw hK;obtain⟨xs,x,hq,hx⟩:=hg;obtain⟨its,rv,p,hz⟩:=I.list hq;obtain⟨u,hu,ru⟩:=rv.get hx;obtain⟨f0,f1,f2,f3,f4,f5⟩:=hf it (by simp);refine wpAny_pyNext_list_item st p.isList (x:=u) (by simpa using hu) λh' st' sb=>?_;have I1:Inv X pins σ H { s with heap:=h' }:=I.turned (t':=s.toks) (λb o hb e=>(sb.2 b hb).trans e) f0 f1 f3 f4 f5;obtain⟨o,e,c,d⟩:=id st';exact⟨u,rfl,ur (s:={ s with heap:=h' }) e c d (by decide) ⟨x,H,I1,ru,⟨rfl,λys hy=>by rw[I.list_inj hy hq];exact hx⟩,st',λb hb=>(hf b hb).1⟩⟩
 done:=by
  intro X hP hw hK hc i pins s σ H E I hf st hg;subst hP hw hK;obtain⟨xs,hq,hx⟩:=hg;obtain⟨its,rv,p,hz⟩:=I.list hq;obtain⟨f0,f1,f2,f3,f4,f5⟩:=hf it (by simp);have hl:=rv.length;exact wpAny_pyNext_list_end (I.ok.hd hc) st p.isList (by simp;lia) λh' eb=>⟨rfl,I.turned (t':=s.toks) (λb o hb e=>eb b o hb e) f0 f1 f3 f4 f5⟩
 self:=λ_ _ _ _ _ st h=>wpAny_pyIter_listiter st h
theorem o9{P:N8}{w:Oa}{K:Lh}{tg:N0}(a it:N2):o8 P w K tg (HM K a) [it] it (λi h=>h.IsTupleIter it a i) where
 mem:=by simp
 obj:=λi h st b hb=>by
  have e:b=it:=by simpa using hb
  subst e;obtain⟨o,e,c,d⟩:=st;exact⟨o,e,λv z=>by rw[d] at z;cases z⟩
 keep:=λi h h' st k=>st.at λo e=>k it (by simp) o e
 item:=by
  intro X hP hw hK hc i pins s σ H E I hf st hg;subst hP hw hK;obtain⟨xs,x,hq,hx⟩:=hg;obtain⟨its,rv,p,hz⟩:=I.tuple hq;obtain⟨u,hu,ru⟩:=rv.get hx;obtain⟨f0,f1,f2,f3,f4,f5⟩:=hf it (by simp);refine wpAny_pyNext_tuple_item st (show s.heap.IsTuple a its.toArray from p) (x:=u) (by simpa using hu) λh' st' sb=>?_;have I1:Inv X pins σ H { s with heap:=h' }:=I.turned (t':=s.toks) (λb o hb e=>(sb.2 b hb).trans e) f0 f1 f3 f4 f5;obtain⟨o,e,c,d⟩:=id st';exact⟨u,rfl,ur (s:={ s with heap:=h' }) e c d (by decide) ⟨x,H,I1,ru,⟨rfl,λys hy=>by rw[I.tuple_inj hy hq];exact hx⟩,st',λb hb=>(hf b hb).1⟩⟩
 done:=by
  intro X hP hw hK hc i pins s σ H E I hf st hg;subst hP hw hK;obtain⟨xs,hq,hx⟩:=hg;obtain⟨its,rv,p,hz⟩:=I.tuple hq;obtain⟨f0,f1,f2,f3,f4,f5⟩:=hf it (by simp);have hl:=rv.length;exact wpAny_pyNext_tuple_end (I.ok.hd hc) st (show s.heap.IsTuple a its.toArray from p) (by simp;lia) λh' eb=>⟨rfl,I.turned (t':=s.toks) (λb o hb e=>eb b o hb e) f0 f1 f3 f4 f5⟩
 self:=λ_ _ _ _ _ st h=>wpAny_pyIter_tupleiter st h
theorem pe{P:N8}{w:Oa}{K:Lh}{tg:N0}(it:N2)(lo:Int)(n:Nat):o8 P w K tg (Ee lo n) [it] it (λi h=>IsRangeIter h it (lo+(i:Nat)*1) ((n:Int)-(i:Nat)) 1) where
 mem:=by simp
 obj:=λi h st b hb=>by
  have e:b=it:=by simpa using hb
  subst e
  exact⟨_,st,λv z=>by
   have z':Data.fields _=Data.cell v:=z;cases z'⟩
 keep:=λi h h' st k=>k it (by simp) _ st
 item:=by
  intro X hP hw hK hc i pins s σ H E I hf st hg;subst hP hw hK;obtain⟨f0,f1,f2,f3,f4,f5⟩:=hf it (by simp);have W:=Walks.range (prog:=X.prog) (w:=X.w) (I.ok.hd hc) it lo 1 n;refine W.item i s _ _ hg st λv h' tk hv st' kk=>?_;obtain⟨t,rfl⟩:=hv;have I1:Inv X pins σ H { s with heap:=h',toks:=tk }:=I.turned (λb o hb e=>kk b o (by simpa using hb) e) f0 f1 f3 f4 f5;refine⟨_,rfl,ur (s:={ s with heap:=h',toks:=tk }) (n:="range_iterator") st' rfl rfl (by decide) ⟨.int (lo+i),H,I1,⟨t,?_⟩,⟨rfl,rfl⟩,st',λb hb=>(hf b hb).1⟩⟩;rw[Int.mul_one]
 done:=by
  intro X hP hw hK hc i pins s σ H E I hf st hg;subst hP hw hK;obtain⟨f0,f1,f2,f3,f4,f5⟩:=hf it (by simp);exact wpAny_pyNext_range_end (I.ok.hd hc) st (by have:n<=i:=hg;lia) λh' eb=>⟨rfl,I.turned (t':=s.toks) (λb o hb e=>eb b o hb e) f0 f1 f3 f4 f5⟩
 self:=λ_ _ _ _ _ st h=>wpAny_pyIter_rangeiter st h
end L2
namespace L2
open PySem PySem.Spec PyProof.Rows
section
variable {X:Cx} {tg:N0}
noncomputable def Ef(K:Lh)(tl:TE):TI:=λσ H R=>tl σ H λx H1=>∃a,x=.ref a/\(∃xs,SqL K H1 a xs)/\R (DI K a) H1
noncomputable def HN(K:Lh)(tl:TE):TI:=λσ H R=>tl σ H λx H1=>∃a,x=.ref a/\(∃xs,SqT K H1 a xs)/\R (HM K a) H1
theorem qC{l:N0}{tl:TE}(hl:PE X l tl):PI X tg l (Ef X.K tl):=by
 intro pins s σ H R I h;refine bB (hl pins s σ H _ I h) λv s1 ⟨x,H1,I1,r1,q1⟩=>?_;obtain⟨a,e,⟨xs,hq⟩,q⟩:=q1;subst e;cases r1;obtain⟨its,rv,p,hz⟩:=I1.list hq;refine wpAny_pyIter_list p.isList ?_;refine⟨s1.heap.objs.size,[s1.heap.objs.size],_,_,H1,rfl,I1.kept (t':=s1.toks) λb o e=>Ls _ e,sI a _,⟨_,LL _ rfl,rfl,rfl⟩,λb hb=>?_,q⟩;have e:b=s1.heap.objs.size:=by simpa using hb
 subst e;exact I1.fpOk (Lo _) (I1.hok.fresh (Lo _))
theorem Be{l:N0}{tl:TE}(hl:PE X l tl):PI X tg l (HN X.K tl):=by
 intro pins s σ H R I h;refine bB (hl pins s σ H _ I h) λv s1 ⟨x,H1,I1,r1,q1⟩=>?_;obtain⟨a,e,⟨xs,hq⟩,q⟩:=q1;subst e;cases r1;obtain⟨its,rv,p,hz⟩:=I1.tuple hq;refine wpAny_pyIter_tuple (show s1.heap.IsTuple a its.toArray from p) ?_;refine⟨s1.heap.objs.size,[s1.heap.objs.size],_,_,H1,rfl,I1.kept (t':=s1.toks) λb o e=>Ls _ e,o9 a _,⟨_,LL _ rfl,rfl,rfl⟩,λb hb=>?_,q⟩;have e:b=s1.heap.objs.size:=by simpa using hb
 subst e;exact I1.fpOk (Lo _) (I1.hok.fresh (Lo _))
theorem nB{s:N3}{R:It->Hp->Prop}{lo hi:Int}{tk:Nat}(I:Inv X pins σ H s)(h1:-(2^62)<=lo)(h2:lo<2^62)(h3:-(2^62)<=hi)(h4:hi<2^62)(q:R (Ee lo (hi-lo).toNat) H):N5 (N6 X.prog X.w) X.A (pyIter (.ref s.heap.objs.size)) (HL X pins σ tg R) E { s with heap:=s.heap.push { cls:=.type "range",data:=.fields #[.int lo t,.int hi u,.int 1 v] },toks:=tk }:=by
 refine wpAny_pyIter_range (IsRange.new ..) (small_one h1 h2 h3 h4) ?_;have I1:Inv X pins σ H { s with heap:=s.heap.push { cls:=.type "range",data:=.fields #[.int lo t,.int hi u,.int 1 v] },toks:=tk }:=I.kept λb o e=>Ls _ e
 refine⟨(s.heap.push { cls:=.type "range",data:=.fields #[.int lo t,.int hi u,.int 1 v] }).objs.size,[(s.heap.push { cls:=.type "range",data:=.fields #[.int lo t,.int hi u,.int 1 v] }).objs.size],_,_,H,rfl,
  I1.kept (t':=tk) λb o e=>Ls _ e,pe _ lo (hi-lo).toNat,?_,λb hb=>?_,q⟩
 ·have e1:lo+((0:Nat):Int)*1=lo:=by simp
  have e2:(((hi-lo).toNat:Nat):Int)-((0:Nat):Int)=Builtin.Range.rangeSize lo hi 1:=by rw[rangeSize_one];split<;>lia
  show IsRangeIter _ _ (lo+((0:Nat):Int)*1) ((((hi-lo).toNat:Nat):Int)-((0:Nat):Int)) 1;rw[e1,e2];exact LL _ rfl
 ·have e:b=(s.heap.push { cls:=.type "range",data:=.fields #[.int lo t,.int hi u,.int 1 v] }).objs.size:=by simpa using hb
  subst e;exact I1.fpOk (Lo _) (I1.hok.fresh (Lo _))
noncomputable def Eg(ta:TA):TI:=λσ H R=>ta σ H λvs H1=>∃j:Int,vs=[.int j]/\-(2^62)<=j/\j<2^62/\R (Ee 0 j.toNat) H1
noncomputable def Eh(ta:TA):TI:=λσ H R=>ta σ H λvs H1=>∃i j:Int,vs=[.int i,.int j]/\(-(2^62)<=i/\i<2^62/\-(2^62)<=j/\j<2^62)/\R (Ee i (j-i).toNat) H1
theorem lg{a:N0}{ta:TA}{p pos:Pos}(hg:Gl X "range")(hm:X.mg "range" = NX)(ha:PA X [a] ta)(hs:Ob [a] X.env=[(NZ,eval a X.env)]:=by rfl):PI X tg (.Call (.Name "range" p) [a] [] pos) (Eg ta):=by
 intro pins s σ H R I h;refine Call_ (dX I hg hm boot_range (PyProof.Rows.callWith_type1 (bB (ha pos pins s σ H _ I h) λus s1 ⟨vs,H1,I1,r1,q1⟩=>?_) hs rfl));obtain⟨j,e,q1,q2,q⟩:=q1;subst e
 cases r1 with
 |cons r rr=>
  cases rr;obtain⟨t,rfl⟩:=r;exact call_range_1 (nB I1 (by lia) (by lia) q1 q2 (by simpa using q))
theorem sJ{a b:N0}{ta:TA}{p pos:Pos}(hg:Gl X "range")(hm:X.mg "range" = NX)(ha:PA X [a,b] ta)(hs:Ob [a,b] X.env=[(NZ,eval a X.env),(NZ,eval b X.env)]:=by rfl)(hs2:Ob [b] X.env=[(NZ,eval b X.env)]:=by rfl) :
  PI X tg (.Call (.Name "range" p) [a,b] [] pos) (Eh ta):=by
 intro pins s σ H R I h;refine Call_ (dX I hg hm boot_range (PyProof.Rows.callWith_type1 (bB (ha pos pins s σ H _ I h) λus s1 ⟨vs,H1,I1,r1,q1⟩=>?_) (by rw[hs,hs2]) (by rw[hs2];rfl)));obtain⟨i,j,e,⟨q1,q2,q3,q4⟩,q⟩:=q1;subst e
 cases r1 with
 |cons r rr=>
  cases rr with
  |cons r' rr=>
   cases rr;obtain⟨t,rfl⟩:=r;obtain⟨t',rfl⟩:=r';exact call_range_2 (nB I1 q1 q2 q3 q4 q)
noncomputable def HP(wi:TI)(g:TG)(tb:TS):TS:=λD σ H=>wi σ H λJ H1=>∃W:Nat->Nat->St->Hp->Prop,(∃m,W 0 m σ H1)/\∀i m σ H,W i m σ H->
 (J.stop i H/\D.nx σ H)\/(J.go i H/\∃N:St->Hp->Prop,(∀σ' H',N σ' H'->∃m',m'<m/\W (i+1) m' σ' H')/\∀x H',J.yld i H x H'->g x σ H' λσ2 H2=>tb { D with nx:=N,ct:=N,bk:=D.nx } σ2 H2)
noncomputable def ma(fp:List N2)(h:Oc):List (N2×Obj):=fp.filterMap λb=>(h.get? b).map λo=>(b,o)
theorem cI{fp:List N2}{h:Oc}(hb:b∈fp)(e:h.get? b=NW o):(b,o)∈ma fp h:=M3.mpr ⟨b,hb,by rw[e];rfl⟩
theorem sK{fp:List N2}{h:Oc}{p:N2×Obj}(hp:p∈ma fp h):p.1∈fp/\h.get? p.1=NW p.2:=by
 obtain⟨b,hb,e⟩:=M3.mp hp
 cases q:h.get? b with
 |none=>rw[q] at e;cases e
 |some o=>
  rw[q] at e;have e':(b,o)=p:=Option.some.inj e;subst e';exact⟨hb,q⟩
theorem Inv.pinned{pins:List (N2×Obj)}{s:N3}{fp:List N2}(I:Inv X pins σ H s)(hf:∀b∈fp,jG X pins H b)(ho:∀b∈fp,∃o,s.heap.get? b=NW o/\∀v,o.data≠.cell v):Inv X (pins++ma fp s.heap) σ H s:=
 I.pins_of λp hp=>(Md.mp hp).elim (λz=>I.pin p (LA _ z)) λz=>by
  obtain⟨hb,e⟩:=sK z;obtain⟨f0,f1,f2,_⟩:=hf p.1 hb;obtain⟨o,e',d⟩:=ho p.1 hb;rw[e] at e';cases e';exact⟨e,f0,f1,f2,d⟩
theorem Inv.unpinned{pins pl:List (N2×Obj)}(I:Inv X (pins++pl) σ H s):Inv X pins σ H s:=I.pins_of λp hp=>I.pin p (LA _ (Mp _ hp))
theorem ut{iter:N0}{body:List N9}{wi:TI}{g:TG}{tb:TS}{pos:Pos}(hp:PassesOwn (N6 X.prog X.w) X.A X.env X.xe)(hc:X.calm=NY)(hi:PI X tg iter wi)(hg:PG X tg g)(hb:PSs X body tb)
  (hs:∀x,foldedSetIterable iter X.env x=pure x:=by intro _;rfl):PS X (.For tg iter body [] pos) (HP wi g tb):=by
 intro pins s σ H D I h;refine wpAny_For (bB (hi pins s σ H _ I h) λv s1 h1=>bB h1 λitv s2 h2=>?_) hs;obtain⟨it,fp,tn,J,H2,e,I2,T,st2,f2,W,⟨m0,w0⟩,turn⟩:=h2;subst e
 -- what stays NY of the iterator's objects through the loop
 have stat:∀{H':Hp},(∀b∈fp,H' b=NX)->∀b∈fp,jG X pins H' b:=λhn b hb=>⟨hn b hb,(f2 b hb).2⟩;refine codeAny_forLoop_any (λn s'=>∃i σ' H',Inv X pins σ' H' s'/\tn i s'.heap/\(∀b∈fp,H' b=NX)/\W i n σ' H') ?_ m0 ⟨0,σ,H2,I2,st2,λb hb=>(f2 b hb).1,w0⟩
 rintro n s3 ⟨i,σ3,H3,I3,st3,fr3,w3⟩
 rcases turn i n σ3 H3 w3 with⟨stop,qn⟩|⟨go,N,hN,step⟩
 ·refine Op hp (bB (T.done X rfl rfl rfl hc i pins s3 σ3 H3 X.xe I3 (stat fr3) st3 stop) λr s4 ⟨hr,I4⟩=>?_);subst hr;exact wpAny_execs_nil ⟨σ3,H3,I4,qn⟩
 ·refine Op hp (bB (T.item X rfl rfl rfl hc i pins s3 σ3 H3 X.xe I3 (stat fr3) st3 go) λr s4 ⟨u,hr,h4⟩=>?_);subst hr;refine Op hp (bB h4 λ_ s5 ⟨x,H5,I5,r5,y5,st5,fr5⟩=>?_);have I5':=I5.pinned (stat fr5) (T.obj _ _ st5);refine Op hp (bB (hg _ s5 σ3 H5 x u _ I5' r5 (step x H5 y5)) λ_ s6 ⟨σ6,H6,I6,q6⟩=>?_);refine Op hp (bB (hb _ s6 σ6 H6 _ I6 q6) λf s7 q7=>?_)
  have again:∀{σ7:St} {H7:Hp},Inv X (pins++ma fp s5.heap) σ7 H7 s7->N σ7 H7->∃m,m<n/\∃i σ' H',Inv X pins σ' H' s7/\tn i s7.heap/\(∀b∈fp,H' b=NX)/\W i m σ' H':=λ{σ7 H7} I7 n7=>by
   obtain⟨m',hm,w7⟩:=hN σ7 H7 n7;refine⟨m',hm,i+1,σ7,H7,I7.unpinned,T.keep _ _ _ st5 λb hb o e=>(I7.pin (b,o) (LA _ (LA _ (cI hb e)))).1,λb hb=>?_,w7⟩;obtain⟨o,e,d⟩:=T.obj _ _ st5 b hb;exact(I7.pin (b,o) (LA _ (LA _ (cI hb e)))).2.1
  cases f with
  |next=>obtain⟨σ7,H7,I7,n7⟩:=q7;exact again I7 n7
  |cont=>obtain⟨σ7,H7,I7,n7⟩:=q7;exact again I7 n7
  |brk=>obtain⟨σ7,H7,I7,q7⟩:=q7;exact⟨σ7,H7,I7.unpinned,q7⟩
  |ret v=>obtain⟨x7,σ7,H7,I7,r7,q7⟩:=q7;exact⟨x7,σ7,H7,I7.unpinned,r7,q7⟩
end
end L2
namespace L2
open PySem PySem.Spec PyProof.Rows
noncomputable abbrev R2:=V->V->Hp->VK->Prop
noncomputable def iy(X:Cx)(f:N1->N1->Sem N1)(r:R2):Prop:=
 ∀(pins:List (N2×Obj)) (s:N3) (σ:St) (H:Hp) (x y:V) (v u:N1) (Q:VK),Inv X pins σ H s->RelV x v->RelV y u->r x y H Q->
  N5 (N6 X.prog X.w) X.A (f v u) (EP X pins σ Q) X.xe s
noncomputable def HQ(X:Cx)(f:N1->Sem N1)(r:V->Hp->VK->Prop):Prop:=
 ∀(pins:List (N2×Obj)) (s:N3) (σ:St) (H:Hp) (x:V) (v:N1) (Q:VK),Inv X pins σ H s->RelV x v->r x H Q->
  N5 (N6 X.prog X.w) X.A (f v) (EP X pins σ Q) X.xe s
noncomputable def i3(X:Cx)(f:N1)(r:List V->Hp->VK->Prop):Prop:=
 ∀(pins:List (N2×Obj)) (s:N3) (σ:St) (H:Hp) (xs:List V) (us:List N1) (Q:VK),Inv X pins σ H s->Vals xs us->r xs H Q->
  N5 (N6 X.prog X.w) X.A (call f us) (EP X pins σ Q) X.xe s
noncomputable def HR(X:Cx)(r:V->Hp->(Bool->Hp->Prop)->Prop):Prop:=
 ∀(pins:List (N2×Obj)) (s:N3) (σ:St) (H:Hp) (x:V) (v:N1) (Q:Bool->Hp->Prop),Inv X pins σ H s->RelV x v->r x H Q->
  N5 (N6 X.prog X.w) X.A (truthy v) (TP X pins σ Q) X.xe s
noncomputable def G5(r:R2)(ta tb:TE):TE:=λσ H Q=>ta σ H λx H1=>tb σ H1 λy H2=>r x y H2 Q
noncomputable def KF(r:V->Hp->VK->Prop)(ta:TE):TE:=λσ H Q=>ta σ H λx H1=>r x H1 Q
noncomputable def rI(C:Int->Int->Prop)(g:Int->Int->V):R2:=λx y H Q=>∃i j,x=.int i/\y=.int j/\C i j/\Q (g i j) H
noncomputable def sL(g:Int->Int->V):R2:=λx y H Q=>∃i j,x=.int i/\y=.int j/\Q (g i j) H
noncomputable def rU(g:Int->V):V->Hp->VK->Prop:=λx H Q=>∃i,x=.int i/\Q (g i) H
section
variable {X:Cx} {a b c:N0} {ta tb tc:TE} {pos:Pos}
theorem Bf(ha:PE X a ta)(hb:PE X b tb){pins:List (N2×Obj)}{s:N3}{σ:St}{H:Hp}{R:V->V->Hp->Prop}(I:Inv X pins σ H s)
  (h:ta σ H λx H1=>tb σ H1 λy H2=>R x y H2) {Q:N1->N3->Prop} {f:N1->N1->Sem N1}
  (hf:∀v u s2 x y H2,Inv X pins σ H2 s2->RelV x v->RelV y u->R x y H2->N5 (N6 X.prog X.w) X.A (f v u) Q X.xe s2) :
  N5 (N6 X.prog X.w) X.A (eval a X.env) (λv s₁=>N5 (N6 X.prog X.w) X.A (eval b X.env) (λu s₂=>N5 (N6 X.prog X.w) X.A (f v u) Q X.xe s₂) X.xe s₁) X.xe s:=by
 refine bB (ha pins s σ H _ I h) λv s1 ⟨x,H1,I1,r1,q1⟩=>?_;refine bB (hb pins s1 σ H1 _ I1 q1) λu s2 ⟨y,H2,I2,r2,q2⟩=>?_;exact hf v u s2 x y H2 I2 r1 r2 q2
theorem Ae(ho:iy X (binaryOp op) r)(ha:PE X a ta)(hb:PE X b tb):PE X (.BinOp a op b pos) (G5 r ta tb):=by
 intro pins s σ H Q I h;exact wpAny_BinOp (Bf ha hb I h λv u s2 x y H2 I2 rx ry q=>ho pins s2 σ H2 x y v u Q I2 rx ry q)
theorem Ei{op:UnaryOp}{r:V->Hp->VK->Prop}(ho:HQ X (unaryOp op) r)(ha:PE X a ta):PE X (.UnaryOp op a pos) (KF r ta):=by
 intro pins s σ H Q I h;exact UnaryOp_ (bB (ha pins s σ H _ I h) λv s1 ⟨x,H1,I1,r1,q1⟩=>ho pins s1 σ H1 x v Q I1 r1 q1)
theorem DJ{f:N1->N1->Sem N1}{C:Int->Int->Prop}{g:Int->Int->Int}
  (rule:∀(i j:Int) (t u:Tok) (s:N3) (Q:N1->N3->Prop) (E:N1->N3->Prop),C i j->Q (.int (g i j) s.toks) { s with toks:=s.toks+1 }->N5 (N6 X.prog X.w) X.A (f (.int i t) (.int j u)) Q E s) :
  iy X f (rI C λi j=>.int (g i j)):=by
 intro pins s σ H x y v u Q I rx ry h;obtain⟨i,j,rfl,rfl,hc,q⟩:=h;obtain⟨t,rfl⟩:=rx;obtain⟨t',rfl⟩:=ry;exact rule i j t t' s _ _ hc ⟨.int (g i j),H,I.tok _,⟨_,rfl⟩,q⟩
theorem pf{f:N1->N1->Sem N1}{g:Int->Int->Int}
  (rule:∀(i j:Int) (t u:Tok) (s:N3) (Q:N1->N3->Prop) (E:N1->N3->Prop),Q (.int (g i j) s.toks) { s with toks:=s.toks+1 }->N5 (N6 X.prog X.w) X.A (f (.int i t) (.int j u)) Q E s) :
  iy X f (sL λi j=>.int (g i j)):=by
 intro pins s σ H x y v u Q I rx ry h;obtain⟨i,j,rfl,rfl,q⟩:=h;obtain⟨t,rfl⟩:=rx;obtain⟨t',rfl⟩:=ry;exact rule i j t t' s _ _ ⟨.int (g i j),H,I.tok _,⟨_,rfl⟩,q⟩
theorem xH{f:N1->N1->Sem N1}{g:Int->Int->Bool}
  (rule:∀(i j:Int) (t u:Tok) (s:N3) (Q:N1->N3->Prop) (E:N1->N3->Prop),Q (.bool (g i j)) s->N5 (N6 X.prog X.w) X.A (f (.int i t) (.int j u)) Q E s) :
  iy X f (sL λi j=>.bl (g i j)):=by
 intro pins s σ H x y v u Q I rx ry h;obtain⟨i,j,rfl,rfl,q⟩:=h;obtain⟨t,rfl⟩:=rx;obtain⟨t',rfl⟩:=ry;exact rule i j t t' s _ _ ⟨.bl (g i j),H,I,rfl,q⟩
noncomputable def HS(i j:Int):Prop:=0<=j/\j<=1000000/\i.natAbs<2^64
theorem ph(k:Nat):(0:Int)<=2^k:=by
 rw[two_pow_cast];exact Int.natCast_nonneg _
theorem Bg:iy X (binaryOp .Add) (sL λi j=>.int (i+j)):=pf λ_ _ _ _ _ _ _ q=>add_int q
theorem Bh:iy X (binaryOp .Sub) (sL λi j=>.int (i-j)):=pf λ_ _ _ _ _ _ _ q=>sub_int q
theorem Bi:iy X (binaryOp .Mod) (rI (λ_ j=>0<j) λi j=>.int (i%j)):=DJ λi j _ _ _ _ _ hc q=>by
 have h1:(0:Int)<j:=hc;exact mod_int' (by lia) (by rw[Int.fmod_eq_emod_of_nonneg i (by lia)];exact q)
theorem Bj:iy X (binaryOp .Pow) (rI HS λi j=>.int (i^j.toNat)):=DJ λ_ _ _ _ _ _ _ hc q=>pow_int_small hc.1 hc.2.1 hc.2.2 q
theorem Bk:iy X (binaryOp .RShift) (rI (λ_ j=>0<=j) λi j=>.int (i / 2^j.toNat)):=DJ λi j _ _ _ _ _ hc q=>
 rshift_int hc (by rw[M7 i (ph _)];exact q)
theorem Bl:iy X (binaryOp .BitAnd) (sL λi j=>.int (Builtin.bitAnd i j)):=pf λ_ _ _ _ _ _ _ q=>and_int q
theorem Ej:iy X (binaryOp .BitOr) (sL λi j=>.int (Builtin.bitOr i j)):=pf λ_ _ _ _ _ _ _ q=>or_int q
theorem Bm:iy X (binaryOp .BitXor) (sL λi j=>.int (Builtin.bitXor i j)):=pf λ_ _ _ _ _ _ _ q=>xor_int q
theorem xI:iy X (inplaceOp .Add) (sL λi j=>.int (i+j)):=pf λ_ _ _ _ _ _ _ q=>iadd_int q
theorem Bn:iy X (inplaceOp .BitOr) (sL λi j=>.int (Builtin.bitOr i j)):=pf λ_ _ _ _ _ _ _ q=>ior_int q
theorem KG{f:N1->Sem N1}{g:Int->Int}
  (rule:∀(i:Int) (t:Tok) (s:N3) (Q:N1->N3->Prop) (E:N1->N3->Prop),Q (.int (g i) s.toks) { s with toks:=s.toks+1 }->N5 (N6 X.prog X.w) X.A (f (.int i t)) Q E s) :
  HQ X f (rU λi=>.int (g i)):=by
 intro pins s σ H x v Q I rx h;obtain⟨i,rfl,q⟩:=h;obtain⟨t,rfl⟩:=rx;exact rule i t s _ _ ⟨.int (g i),H,I.tok _,⟨_,rfl⟩,q⟩
theorem Bo:HQ X (unaryOp .USub) (rU λi=>.int (-i)):=KG λ_ _ _ _ _ q=>neg_int q
end
section
variable {X:Cx} {a b c:N0} {ta tb tc:TE} {pos:Pos}
theorem Ek:iy X (compareOp .Lt) (sL λi j=>.bl (decide (i<j))):=xH λ_ _ _ _ _ _ _ q=>lt_int q
theorem El:iy X (compareOp .LtE) (sL λi j=>.bl (decide (i<=j))):=xH λ_ _ _ _ _ _ _ q=>le_int q
theorem Em:iy X (compareOp .Gt) (sL λi j=>.bl (decide (j<i))):=xH λ_ _ _ _ _ _ _ q=>gt_int q
theorem En:iy X (compareOp .GtE) (sL λi j=>.bl (decide (j<=i))):=xH λ_ _ _ _ _ _ _ q=>ge_int q
theorem xJ{op:Om}{r:R2}(ho:iy X (compareOp op) r)(ha:PE X a ta)(hb:PE X b tb)(hm:Oj op b=NZ):PE X (.Compare a [op] [b] pos) (G5 r ta tb):=by
 intro pins s σ H Q I h;exact wpAny_Compare1 (Bf ha hb I h λv u s2 x y H2 I2 rx ry q=>ho pins s2 σ H2 x y v u Q I2 rx ry q) hm
noncomputable def Af(t:TE):TT:=λσ H Q=>t σ H λx H'=>∃k,x=.bl k/\Q k H'
theorem qD{op:Om}(ho:iy X (compareOp op) r)(ha:PE X a ta)(hb:PE X b tb)(hm:Oj op b=NZ):PT X (.Compare a [op] [b] pos) (Af (G5 r ta tb)):=by
 intro pins s σ H Q I h
 refine wpAny_isTrue_Compare1 (bB (ha pins s σ H _ I h) λv s1 ⟨x,H1,I1,r1,q1⟩=>bB (hb pins s1 σ H1 _ I1 q1) λu s2 ⟨y,H2,I2,r2,q2⟩=>
  bB (ho pins s2 σ H2 x y v u _ I2 r1 r2 q2) λc s3 ⟨z,H3,I3,r3,k,e,q3⟩=>?_) hm
 subst e;cases r3;exact Oo ⟨H3,I3,q3⟩
noncomputable def uu(r r':R2)(ta tb tc:TE):TE:=λσ H Q=>ta σ H λx H1=>tb σ H1 λy H2=>r x y H2 λz H3=>∃k,z=.bl k/\
 (if k=NY then tc σ H3 λw' H4=>r' y w' H4 Q else Q (.bl NZ) H3)
theorem uw(ho:iy X (compareOp op) r)(ho':iy X (compareOp op') r')(ha:PE X a ta)(hb:PE X b tb)(hc:PE X c tc)(hm:lastMarks [op,op'] [b,c]=NZ:=by with_unfolding_all rfl):PT X (.Compare a [op,op'] [b,c] pos) (Af (uu r r' ta tb tc)):=by
 intro pins s σ H Q I h
 refine isTrue_chain (bB (ha pins s σ H _ I h) λv s1 ⟨x,H1,I1,r1,q1⟩=>test_link (bB (hb pins s1 σ H1 _ I1 q1) λu s2 ⟨y,H2,I2,r2,q2⟩=>
  bB (ho pins s2 σ H2 x y v u _ I2 r1 r2 q2) λd s3 ⟨z,H3,I3,r3,k,e,q3⟩=>?_)) hm
 subst e;cases r3;refine Oo ?_
 cases k with
 |false=>
  obtain⟨k',e',q'⟩:=q3;cases e';exact ite_ff ⟨H3,I3,q'⟩
 |true=>
  refine ite_tt (test_last (bB (hc pins s3 σ H3 _ I3 q3) λw' s4 ⟨z',H4,I4,r4,q4⟩=>bB (ho' pins s4 σ H4 y z' u w' _ I4 r2 r4 q4) λd' s5 ⟨z2,H5,I5,r5,k2,e2,q5⟩=>?_));subst e2;cases r5;exact Oo ⟨H5,I5,q5⟩
noncomputable def Bp(K:Lh)(x:V)(H:Hp)(k:Bool):Prop:=
 match x with
 |.non=>k=NZ
 |.bl b=>k=b
 |.int i=>k=(i != 0)
 |.str y=>y.length<=sizeLine/\k=((y.length:Int) != 0)
 |.byt y=>y.size<=sizeLine/\k=((y.size:Int) != 0)
 |.ref p=>(∃xs,SqL K H p xs/\k=!xs.isEmpty)\/(∃xs,SqT K H p xs/\k=!xs.isEmpty)\/∃kvs,H p=NW (.dK kvs)/\k=!kvs.isEmpty
 |_=>False
theorem pi{κ:Type}{kvs:List (κ×V)}{vs:List (κ×N1)}(r:KV kvs vs):(!vs.isEmpty)=!kvs.isEmpty:=by
 cases r<;>rfl
theorem jH{xs:List V}{its:List N1}(r:Vals xs its):(!its.toArray.isEmpty)=!xs.isEmpty:=by
 cases r<;>simp
theorem iA:(sizeLine:Nat)<2^63:=by rw[sizeLine_eq];decide
theorem iB:HR X (λx H Q=>∃k,Bp X.K x H k/\Q k H):=by
 intro pins s σ H x v Q I rx h;obtain⟨k,e,q⟩:=h;have hl:=iA;have hs:sizeLine=16777216:=sizeLine_eq
 cases x with
 |non=>
  cases rx;have e':k=NZ:=e;subst e';exact truthy_none ⟨H,I,q⟩
 |bl b=>
  cases rx;have e':k=b:=e;subst e';exact Oo ⟨H,I,q⟩
 |int i=>
  obtain⟨t,rfl⟩:=rx;have e':k=(i != 0):=e;subst e';exact PySem.P.truthy_int ⟨H,I,q⟩
 |str y=>
  obtain⟨t,rfl⟩:=rx;obtain⟨hy,e'⟩:y.length<=sizeLine/\k=((y.length:Int) != 0):=e;subst e';exact PySem.P.truthy_str (by lia) ⟨H,I.tok _,q⟩
 |byt y=>
  obtain⟨t,rfl⟩:=rx;obtain⟨hy,e'⟩:y.size<=sizeLine/\k=((y.size:Int) != 0):=e;subst e';exact PySem.W.truthy_bytes (by lia) ⟨H,I.tok _,q⟩
 |ref p=>
  cases rx;have e':(∃xs,SqL X.K H p xs/\k=!xs.isEmpty)\/(∃xs,SqT X.K H p xs/\k=!xs.isEmpty)\/∃kvs,H p=NW (.dK kvs)/\k=!kvs.isEmpty:=e;rcases e' with⟨xs,hx,e'⟩|⟨xs,hx,e'⟩|⟨kvs,hx,e'⟩
  ·subst e';obtain⟨its,r,pl,hz⟩:=I.list hx;have hlen:=r.length;exact wpAny_truthy_list pl.isList (by simp only[Lv];lia) ⟨H,I.tok _,by rw[jH r];exact q⟩
  ·subst e';obtain⟨its,r,pl,hz⟩:=I.tuple hx;have hlen:=r.length;exact truthy_tuple pl (by simp only[Lv];lia) ⟨H,I.tok _,by rw[jH r];exact q⟩
  ·subst e';obtain⟨hz,hS,vs,r,m⟩:kvs.length<=sizeLine/\(p==sysModules)=NZ/\∃vs,KV kvs vs/\s.heap.DictOf (bu X.prog X.w) p vs:=I.hok p _ hx;have hlen:kvs.length=vs.length:=Paired.length r;exact wpAny_truthy_dict hS m (by lia) ⟨H,I.tok _,by rw[pi r];exact q⟩
 |_=>exact(show False from e).elim
theorem uA(ha:PE X a ta)(he:∀whole,isTrue a X.env whole=(do let v <- whole;standAt a.pos;holding [v] (truthy v))) :
  PT X a (λσ H Q=>ta σ H λx H'=>∃k,Bp X.K x H' k/\Q k H'):=by
 intro pins s σ H Q I h;exact isTrue_plain (bB (ha pins s σ H _ I h) λv s1 ⟨x,H1,I1,r1,q1⟩=>iB pins s1 σ H1 x v Q I1 r1 q1) (he _)
theorem li{x:V}(r:Vals [x] us):∃u,us=[u]/\RelV x u:=by
 cases r with
 |cons r1 r2=>cases r2;exact⟨_,rfl,r1⟩
theorem Ag(r:Vals [x,y] us):∃u w',us=[u,w']/\RelV x u/\RelV y w':=by
 cases r with
 |cons r1 r2=>
  cases r2 with
  |cons r3 r4=>cases r4;exact⟨_,_,rfl,r1,r3⟩
theorem uB:i3 X (.builtin "abs") (λxs H Q=>∃i,xs=[.int i]/\Q (.int (if i<0 then -i else i)) H):=by
 intro pins s σ H xs us Q I r h;obtain⟨i,rfl,q⟩:=h;obtain⟨u,rfl,t,rfl⟩:=li r
 exact call_abs_int λu tk=>⟨.int (if i<0 then -i else i),H,I.tok _,⟨_,rfl⟩,q⟩
theorem sM(hc:X.calm=NY):i3 X (.builtin "min") (λxs H Q=>∃i j,xs=[.int i,.int j]/\Q (.int (if j<i then j else i)) H):=by
 intro pins s σ H xs us Q I r h;obtain⟨i,j,rfl,q⟩:=h;obtain⟨u,w',rfl,⟨t,rfl⟩,⟨t',rfl⟩⟩:=Ag r;refine min_two_ints (I.ok.hd hc) λh' tk k=>⟨_,H,I.kept k,?_,q⟩;by_cases hj:j<i
 ·rw[if_pos hj,if_pos hj];exact⟨_,rfl⟩
 ·rw[if_neg hj,if_neg hj];exact⟨_,rfl⟩
end
end L2
namespace L2
open PySem PySem.Spec PyProof.Rows
structure ObjM(h:Heap)(x dx C:Addr)(mA:Str->Option Value):Prop where
 obj:h.get? x=NW (Ni C dx)
 ns:h.Ns1 dx mA
 ne:dx≠x
theorem sN{h:Oc}{mA:Str->Option N1}(n:h.Ns1 dx mA):∃od,h.get? dx=NW od/\∀name,Nr name od=NW (mA name):=by
 obtain⟨o,es,ep,ho,hd,hk,_,hm⟩:=n;refine⟨o,ho,λname=>?_⟩;have e:=hm name;unfold nsFind findBy at e;rw[<- Array.find?_toList] at e;unfold Nr;rw[hd];dsimp only;split
 ·rename_i y q;rw[q] at e;exact congrArg NW e
 ·rename_i q;rw[q] at e
  have a:es.toList.any (·.refKey)=NZ:=by
   rw[NG];intro y hy;obtain⟨z,t,hkey⟩:=hk y (Array.mem_toList_iff.mp hy);simp[DictEntry.refKey,hkey]
  have a':¬es.toList.any (·.refKey)=NY:=by rw[a];exact Mj
  rw[if_neg a'];exact congrArg NW e
theorem ObjM.look{mA:Str->Option N1}(I:ObjM h x dx C mA):∃od,PySem.W.InstAt h x (Ni C dx) C (NW od)/\∀name,Nr name od=NW (mA name):=
 let ⟨od,ho,hl⟩:=sN I.ns
 ⟨od,⟨I.obj,rfl,rfl,ho⟩,hl⟩
section
variable {prog:N8} {w:Oa} {A:Od} {E:N1->N3->Prop} {s:N3} {K:Lh} {x dx C f:N2} {mA:Str->Option N1} {name:Str} {v:N1}
end
noncomputable def putF(f:Str)(v:V):List (Str×V)->List (Str×V)
 |[]=>[(f,v)]
 |(g,x)::r=>if g=f then(g,v)::r else(g,x)::putF f v r
theorem RelO.some_of(r:RelO (NW v) o):∃u,o=NW u/\RelV v u:=by
 cases o with
 |none=>exact(show False from r).elim
 |some u=>exact⟨u,rfl,r⟩
section
variable {P:N8} {w:Oa} {H H':Hp} {h h':Oc} {a C dx:N2} {fs fs':List (Str×V)}
theorem xK(hok:HOk P w H h)(e:H a=NW (.ins C dx fs)):∃mA,ObjM h a dx C mA/\(∀f,RelO (fs.lookup f) (mA f))/\PySem.Within mA (fs.map (·.1))/\fs.length<=1000/\H dx=NW (.own a):=by
 obtain⟨d,z,ne,ob,mA,n,r,q⟩:=(show ObjOk P w H h a (.ins C dx fs) from hok a _ e);exact⟨mA,⟨ob,n,ne⟩,r,q,z,d⟩
end
structure Cls(K:Lh)(C:Addr):Prop where
 pg:NP K C Str.empty=NY
 hd:PySem.W.hasDictIn K C=NY
 po:PySem.W.plainOver K C=NY
 sa:Mw K (.ref C) "__setattr__" = NW (NW (.builtin "object.__setattr__"))
theorem Cls.get{K:Lh}{C:N2}(c:Cls K C)(f:Str):NP K C f=NY:=c.pg
noncomputable def me(K:Lh)(C:N2)(f:Str):Prop:=Mw K (.ref C) f=NW NX
structure Lf(K:Lh)(C:Addr)(f:Str)(v:V)(u:Value):Prop where
 at_:Mw K (.ref C) f=NW (NW u)
 rel:RelV v u
 get:NH K u "__get__" = NW NX
 cp:PySem.W.copiedNames.contains f=NZ
structure KH(K:Lh)(C:Addr)(m:Str)(f:Addr):Prop where
 at_:Mw K (.ref C) m=NW (NW (.ref f))
 fn:NV K (.ref f)=NY
 kp:L8 K (.ref f)=NY
section
variable {X:Cx} {pins:List (N2×Obj)} {σ:St} {H:Hp} {s:N3} {a C dx:N2} {fs:List (Str×V)} {f:Str} {v:V} {A:Od} {E:N1->N3->Prop}
end
section
variable {X:Cx} {o e value:N0} {f:Str} {pos pos' tpos:Pos} {ta tv:TE}
end
section
variable {X:Cx} {pins:List (N2×Obj)} {σ:St} {H:Hp} {s:N3} {A:Od} {E:N1->N3->Prop} {Q:N1->N3->Prop} {c:N1} {b:Bool}
inductive gP (K:Lh) (H:Hp):V->Value->Prop where
 |non:gP K H .non (.type "NoneType")
 |bl (x:Bool):gP K H (.bl x) (.type "bool")
 |int (i:Int):gP K H (.int i) (.type "int")
 |str (x:Str):gP K H (.str x) (.type "str")
 |flt (x:UInt64):gP K H (.flt x) (.type "float")
 |lst {a:N2} {xs:List V} (e:H a=NW (.lst xs)):gP K H (.ref a) (.type "list")
 |frz {a:N2} {o:Obj} {xs:List V} (e:H a=NW (.frz o (.lst xs))):gP K H (.ref a) (.type "list")
 |tup {a:N2} {xs:List V} (e:H a=NW (.tup xs)):gP K H (.ref a) (.type "tuple")
 |dK {a:N2} {kvs:List (aV×V)} (e:H a=NW (.dK kvs)):gP K H (.ref a) (.type "dict")
 |dT {a:N2} {m ep:Nat} {kvs:List (List (aV ⊕ List aV)×V)} (e:H a=NW (.dT m ep kvs)):gP K H (.ref a) (.type "dict")
 |ins {a C dx:N2} {fs:List (Str×V)} (e:H a=NW (.ins C dx fs)) (cl:Cls K C) (ha:Mw K (.ref C) "__class__" = NW (NW (.builtin "object.__class__")))
   (hn:NH K (.builtin "object.__class__") "__get__" = NW (NW (.builtin "getset_descriptor.__get__"))) (htk:PySem.W.takesIn K (.builtin "object.__class__")=NW NY)
   (hm:PySem.W.mroIn K C (.type "object")=NW NY):gP K H (.ref a) (.ref C)
theorem sO(I:Inv X pins σ H s)(rx:RelV x u)(ty:gP X.K H x t)(e:Mb X.K t c=NW b)(h:∀tk,Q (.bool b) { s with toks:=tk }) :
  N5 (N6 X.prog X.w) A (call (.builtin "isinstance") [u,c]) Q E s:=by
 cases ty with
 |non=>cases(show u=Value.none from rx);exact L5 PySem.W.kitx_none I.kIn True.intro e (λz=>nomatch z) h
 |bl y=>cases(show u=Value.bool y from rx);exact L5 PySem.W.kitx_bool I.kIn True.intro e (λz=>nomatch z) h
 |int i=>obtain⟨t,q⟩:=(show ∃t,u=Value.int i t from rx);cases q;exact L5 PySem.W.kitx_int I.kIn True.intro e (λz=>nomatch z) h
 |str y=>obtain⟨t,q⟩:=(show ∃t,u=Value.str y t from rx);cases q;exact L5 PySem.W.kitx_str I.kIn True.intro e (λz=>nomatch z) h
 |flt y=>obtain⟨t,q⟩:=(show ∃t,u=Value.float y t from rx);cases q;exact L5 PySem.W.kitx_float I.kIn True.intro e (λz=>nomatch z) h
 |@lst a xs ea=>
  cases(show u=Value.ref a from rx);obtain⟨_,_,n,_,h1⟩:=(show ObjOk X.prog X.w H s.heap a (.lst xs) from I.hok a _ ea)
  exact L5 NI I.kIn ⟨_,h1,rfl⟩ e (λz=>nomatch z) h
 |@frz a ob xs ea=>
  cases(show u=Value.ref a from rx);obtain⟨_,_,_,n,_,h1⟩:=(show ObjOk X.prog X.w H s.heap a (.frz ob (.lst xs)) from I.hok a _ ea)
  exact L5 NI I.kIn ⟨_,h1,rfl⟩ e (λz=>nomatch z) h
 |@tup a xs ea=>
  cases(show u=Value.ref a from rx);obtain⟨_,_,_,p⟩:=(show ObjOk X.prog X.w H s.heap a (.tup xs) from I.hok a _ ea);obtain⟨o,h1,h2,_⟩:=p
  exact L5 PySem.W.kitx_tuple I.kIn ⟨o,h1,h2⟩ e (λz=>nomatch z) h
 |@dK a kvs ea=>
  cases(show u=Value.ref a from rx);obtain⟨_,_,vs,_,p⟩:=(show ObjOk X.prog X.w H s.heap a (.dK kvs) from I.hok a _ ea);obtain⟨o,es,ep,h1,h2,_⟩:=p
  exact L5 NJ I.kIn ⟨o,h1,h2.1⟩ e (λz=>nomatch z) h
 |@dT a m ep kvs ea=>
  cases(show u=Value.ref a from rx);obtain⟨_,_,xs,_,o,es,h1,h2,_⟩:=(show ObjOk X.prog X.w H s.heap a (.dT m ep kvs) from I.hok a _ ea)
  exact L5 NJ I.kIn ⟨o,h1,h2.1⟩ e (λz=>nomatch z) h
 |@ins a C dx fs ea cl ha hn htk hm=>
  cases(show u=Value.ref a from rx);obtain⟨mA,O,_⟩:=xK I.hok ea;obtain⟨od,J,_⟩:=O.look
  exact L5 (PySem.W.kitx_own (cl.get _) cl.hd ha hn htk hm) I.kIn J e (λz=>nomatch z) h
end
end L2
namespace L2
open PySem PySem.Spec PyProof.Rows
structure Room(k:Nat)(A:Around):Prop where
 hd:A.handled=NX
 dp:A.depth+3*k+5<recursionLimit
 un:A.units+16*k+200<cLine
 gd:A.guards=NW []
theorem Room.mono{j k:Nat}(r:Room k A)(h:j<=k):Room j A:=⟨r.hd,by have:=r.dp;lia,by have:=r.un;lia,r.gd⟩
theorem Room.deeper{k:Nat}{A:Od}(r:Room (k+1) A)(env:Env):Room k (A.deeper env):=
 ⟨r.hd,by have:=r.dp;show A.depth+1+3*k+5<_;lia,by have:=r.un;show A.units+3+16*k+200<_;lia,r.gd⟩
theorem Room.depth{k:Nat}{A:Od}(r:Room k A):A.depth<recursionLimit:=by have:=r.dp;lia
noncomputable def Bq:TA:=λ_ H Q=>Q [] H
noncomputable def Eo(ta:TE)(tr:TA):TA:=λσ H Q=>ta σ H λx H1=>tr σ H1 λxs H2=>Q (x::xs) H2
section
variable {X:Cx} {e:N0} {es:List N0} {te:TE} {t:TA} {pos:Pos}
theorem cq:PA X [] Bq:=λ_ _ _ _ H Q I h=>Calls.spliced_nil ⟨[],H,I,.nil,h⟩
theorem bd(ha:PE X e te)(hr:PA X es t)(hs:Ob (e::es) X.env=(NZ,eval e X.env)::Ob es X.env:=by rfl):PA X (e::es) (Eo te t):=by
 intro pos pins s σ H Q I h;rw[hs];show N5 _ _ (spliced ((NZ,eval e X.env)::backTo pos (Ob es X.env))) _ _ s;refine Calls.spliced_cons (bB (ha pins s σ H _ I h) λu s1 ⟨x,H1,I1,r1,q1⟩=>?_);exact bB (hr pos pins s1 σ H1 _ I1 q1) λus s2 ⟨xs,H2,I2,r2,q2⟩=>⟨x::xs,H2,I2,.cons r1 r2,q2⟩
noncomputable def HU(t:TA):TE:=λσ H Q=>t σ H λxs H1=>xs.length<=sizeLine/\∀p,H1 p=NX->Q (.ref p) (upd H1 p (.tup xs))
noncomputable def HV(t:TA):TE:=λσ H Q=>t σ H λxs H1=>xs.length<=sizeLine/\∀p,H1 p=NX->Q (.ref p) (upd H1 p (.lst xs))
theorem mf{x1}(h:PA X es t):PE X (.Tuple es x1 pos) (HU t):=by
 intro pins s σ H Q I hq;refine wpAny_Tuple_spliced (bB (h pos pins s σ H _ I hq) λus s1 ⟨xs,H1,I1,r,z,q⟩=>⟨by rw[<- r.length];exact z,?_⟩);have hf:H1 s1.heap.objs.size=NX:=I1.hok.fresh (Lo _);refine⟨.ref s1.heap.objs.size,upd H1 s1.heap.objs.size (.tup xs),I1.laid (t':=s1.toks) (λb u e=>Ls _ e) (Lo _) ?_,rfl,q _ hf⟩;exact⟨z,us,r,⟨_,LL _ rfl,rfl,_,rfl⟩⟩
theorem uC(h:PA X es t):PE X (.List es pos) (HV t):=by
 intro pins s σ H Q I hq;refine wpAny_List_spliced (bB (h pos pins s σ H _ I hq) λus s1 ⟨xs,H1,I1,r,z,q⟩=>⟨by rw[<- r.length];exact z,?_⟩);have hf:H1 s1.heap.objs.size=NX:=I1.hok.fresh (Lo _);refine⟨.ref s1.heap.objs.size,upd H1 s1.heap.objs.size (.lst xs),I1.laid (t':=s1.toks) (λb u e=>Ls _ e) (Lo _) ?_,rfl,q _ hf⟩;exact⟨z,us,0,r,LL _ rfl⟩
end
noncomputable abbrev Sp:=List V->Hp->VK->XK->Prop
noncomputable abbrev sP:=List Env->Hp->N3->XK->N1->N3->Prop
structure xL(P:Program)(w:World)(K:Lh)(mg:Str->Option Value)(base:Heap)(A:Around)(outer:List Env)(s:Shared)(H:Hp):Prop where
 frames:A.frames=NW outer
 mod:Mod K mg base
 bs:∀b o,base.get? b=NW o->s.heap.get? b=NW o/\H b=NX
 bsz:base.objs.size<=s.heap.objs.size
 funs:s.heap.FunFrames base outer
 frf:∀b∈t9 outer,H b=NX
 hok:HOk P w H s.heap
 bare:AllBare s.gens
noncomputable def CE(outer:List Env)(P:N8)(w:Oa)(H:Hp)(s:N3)(Q:VK)(u:N1)(s':N3):Prop:=
 ∃v H',s'.os=s.os/\AllBare s'.gens/\Un (t9 outer) [] H H' s.heap s'.heap/\HOk P w H' s'.heap/\RelV v u/\Q v H'
noncomputable def CR(CX:sP)(outer:List Env)(P:N8)(w:Oa)(H:Hp)(s:N3)(Q:VK)(E:XK)(r:Result)(s':N3):Prop:=
 match r with
 |.ok (.ret u)=>CE outer P w H s Q u s'
 |.ok _=>False
 |.error e=>CX outer H s E e s'
structure FnOk(P:Program)(w:World)(K:Lh)(mg:Str->Option Value)(base:Heap)(CX:sP)(k:Nat)(f:Addr)(fd:FuncData)(ps:List Str)(sp:Sp):Prop where
 len:∀vs H Q E,sp vs H Q E->vs.length=ps.length
 run:∀(A:Od) (outer:List Env) (s:N3) (H:Hp) (args:Args) (us:List N1) (vs:List V) (Q:VK) (E:XK),Room k A->xL P w K mg base A outer s H->BindsTo s fd args (ps.zip us)->Vals vs us->sp vs H Q E->
  codeAny (N6 P w) A (.call (.ref f) args) (CR CX outer P w H s Q E) s
theorem FnOk.mono{P:N8}{w:Oa}{K:Lh}{mg:Str->Option N1}{base:Oc}{CX:sP}{j k:Nat}{f:N2}{fd:On}{ps:List Str}{sp:Sp}(F:FnOk P w K mg base CX j f fd ps sp)(h:j<=k) :
  FnOk P w K mg base CX k f fd ps sp:=⟨F.len,λA outer s H args us vs Q E hr=>F.run A outer s H args us vs Q E (hr.mono h)⟩
theorem FnOk.imp{P:N8}{w:Oa}{K:Lh}{mg:Str->Option N1}{base:Oc}{CX:sP}{k:Nat}{f:N2}{fd:On}{ps:List Str}{sp sp':Sp}(F:FnOk P w K mg base CX k f fd ps sp)
  (h:∀vs H Q E,sp' vs H Q E->sp vs H Q E):FnOk P w K mg base CX k f fd ps sp':=
 ⟨λvs H Q E q=>F.len vs H Q E (h _ _ _ _ q),λA outer s H args us vs Q E hr he hb hv hs=>F.run A outer s H args us vs Q E hr he hb hv (h _ _ _ _ hs)⟩
section
variable {X:Cx} {pins:List (N2×Obj)} {σ:St} {H:Hp} {s s':N3}
theorem Inv.env0(I:Inv X pins σ H s):xL X.prog X.w X.K X.mg X.base X.A X.stack s H:=
 ⟨I.ok.frames,I.ok.mod,I.bs,LM I.ok.bsz I.sz,I.stack,I.stkFree,I.hok,I.bare⟩
theorem Inv.after(I:Inv X pins σ H s)(h:CE X.stack X.prog X.w H s Q u s'):EP X pins σ Q u s':=by
 obtain⟨v,H',os,bare,un,hok,r,q⟩:=h;obtain⟨hh,g,d,t,os'⟩:=s';obtain rfl:os'=s.os:=os;exact⟨v,H',I.call (h':=hh) (g':=g) (d':=d) (t':=t) (ch:=[]) un hok bare (λb z=>absurd z (by simp)),r,q⟩
end
noncomputable def Ah(sp:Sp)(dvs:List V)(E:XK)(t:TA):TE:=λσ H Q=>t σ H λvs H1=>sp (vs++dvs) H1 Q E
noncomputable def Binds(K:Lh)(fd:On)(ps:List Str)(ds:List N1):Prop:=
 ∀(s:N3) (us:List N1),K.In s.heap->(us++ds).length=ps.length->BindsTo s fd ⟨us,[]⟩ (ps.zip (us++ds))
theorem Binds.all{K:Lh}{fd:On}{ps:List Str}(h:∀us:List N1,us.length=ps.length->bindArgs fd ⟨us,[]⟩=pure (ps.zip us)):Binds K fd ps []:=λs us _ hl=>by
 rw[MM] at hl⊢;exact .of_eq (h us hl)
noncomputable def mh(CX:sP)(X:Cx)(E:XK):Prop:=∀(pins:List (N2×Obj)) (σ:St) (H:Hp) (s:N3) (e:N1) (s':N3),Inv X pins σ H s->CX X.stack H s E e s'->X.xe e s'
section
variable {X:Cx} {CX:sP} {k:Nat} {f C:N2} {fd:On} {ps:List Str} {sp:Sp} {dvs:List V} {ds:List N1} {E:XK} {x m:Str} {p pos apos:Pos} {e o:N0} {es:List N0} {ta:TE} {t:TA}
theorem uD{vs:List V}(F:FnOk X.prog X.w X.K X.mg X.base CX k f fd ps sp)(hr:Room k X.A)(hb:Binds X.K fd ps ds)(hd:Vals dvs ds)(hx:mh CX X E)(I:Inv X pins σ H s)(r:Vals vs us)(h:sp (vs++dvs) H Q E):N5 (N6 X.prog X.w) X.A (call (.ref f) us) (EP X pins σ Q) X.xe s:=by
 have r2:Vals (vs++dvs) (us++ds):=r.append hd;have hl:(us++ds).length=ps.length:=by rw[<- r2.length];exact F.len _ _ _ _ h
 refine wpAny_call (codeAny_mono (F.run X.A X.stack s H ⟨us,[]⟩ (us++ds) (vs++dvs) Q E hr I.env0 (hb s us I.kIn hl) r2 h) λr s' hq=>?_)
 cases r with
 |error e=>exact hx pins σ H s e s' I hq
 |ok fl=>
  cases fl with
  |ret u=>exact I.after hq
  |next=>exact False.elim hq
  |brk=>exact False.elim hq
  |cont=>exact False.elim hq
theorem qE(F:FnOk X.prog X.w X.K X.mg X.base CX k f fd ps sp)(hr:Room k X.A)(hg:Gl X x)(hm:X.mg x=NW (.ref f))(hk:L8 X.K (.ref f)=NY)(hb:Binds X.K fd ps ds)(hd:Vals dvs ds)(hx:mh CX X E)
  (ha:PA X (e::es) t) (hdb:(x==("__debug__":Str))=NZ:=by decide) (he:Ob (e::es) X.env=(NZ,eval e X.env)::Ob es X.env:=by rfl) (hpl:(backTo pos (Ob es X.env)).any (·.1)=NZ:=by rfl) :
  PE X (.Call (.Name x p) (e::es) [] pos) (Ah sp dvs E t):=by
 intro pins s σ H Q I h;refine wpAny_Call_Name_kw (l6 I hg hm ?_ hdb);refine PySem.W.callWith_K (h₀:=X.base) I.ok.mod.kin hk (bB (ha pos pins s σ H _ I h) λus s1 ⟨vs,H1,I1,r,q⟩=>⟨I1.kIn,?_⟩) he hpl;exact uD F hr hb hd hx I1 r q
theorem uE(F:FnOk X.prog X.w X.K X.mg X.base CX k f fd ps sp)(hr:Room k X.A)(hg:Gl X x)(hm:X.mg x=NW (.ref f))(hk:L8 X.K (.ref f)=NY)(hb:Binds X.K fd ps ds)(hd:Vals dvs ds)(hx:mh CX X E)
  (hdb:(x==("__debug__":Str))=NZ:=by decide):PE X (.Call (.Name x p) [] [] pos) (Ah sp dvs E Bq):=by
 intro pins s σ H Q I h;refine wpAny_Call_Name_kw (l6 I hg hm ?_ hdb);exact PySem.W.callWith_K0 I.kIn hk (uD (us:=[]) F hr hb hd hx I .nil h)
structure Mk(K:Lh)(C f:Addr):Prop where
 makes:PySem.W.makesIn K C=NY
 init:Mw K (.ref C) "__init__" = NW (NW (.ref f))
 fn:NV K (.ref f)=NY
 kp:L8 K (.ref C)=NY
end
section
variable {X:Cx} {CX:sP} {k:Nat} {f C:N2} {fd:On} {ps ks:List Str} {sp:Sp} {E:XK} {x m:Str} {p pos apos kpos:Pos} {e o:N0} {es:List N0} {kws:List Keyword} {te ta:TE} {t tk:TA} {nm:Option Str}
structure HW(K:Lh)(fd:FuncData)(ps ks:List Str)(g:List Value->List Value->List Value)(gV:List V->List V->List V):Prop where
 to:∀(s:N3) (us ws:List N1),K.In s.heap->(g us ws).length=ps.length->BindsTo s fd ⟨us,ks.zip ws⟩ (ps.zip (g us ws))
 rel:∀{vs:List V} {us:List N1} {zs:List V} {ws:List N1},Vals vs us->Vals zs ws->Vals (gV vs zs) (g us ws)
variable {g:List N1->List N1->List N1} {gV:List V->List V->List V}
end
structure aw(N P:List Str)(sc:Scope):Prop where
 kind:sc.kind=.function
 co:sc.isCoroutine=NZ
 gen:sc.isGenerator=NZ
 nd:N.Nodup
 pre:N.take P.length=P
 par:∀x∈P,sc.names.lookup x=NW .local\/sc.names.lookup x=NW .cell
 nofree:∀y∈sc.names,y.2≠.free
theorem lj{kindOf:Str->Option Ol}{x:Str}:∀{binds:List (Str×N1)} {m:Str->Option N1},(∀v,(x,v)∉binds)->bindL kindOf binds m x=m x
 |[],_,_=>rfl
 |(n,v)::r,m,h=>by
  unfold bindL;rw[lj λw hw=>h w (Lu _ hw)];split
  ·have:x≠n:=by rintro rfl;exact h v LC
   simp[this]
  ·rfl
theorem ll{kindOf:Str->Option Ol}{x:Str}:∀{binds:List (Str×N1)} {m:Str->Option N1},(∀v,(x,v)∉binds)->bindC kindOf binds m x=m x
 |[],_,_=>rfl
 |(n,v)::r,m,h=>by
  unfold bindC;rw[ll λw hw=>h w (Lu _ hw)];split
  ·rfl
  ·have:x≠n:=by rintro rfl;exact h v LC
   simp[this]
theorem ln{kindOf:Str->Option Ol}{x:Str}{v:N1}:∀{P:List Str} {vs:List N1} {i:Nat} {m:Str->Option N1},P.Nodup->P[i]?=NW x->vs[i]?=NW v->kindOf x=NW .local->
  bindL kindOf (P.zip vs) m x=NW v
 |[],_,_,_,_,h,_,_=>by simp at h
 |_::_,[],_,_,_,_,h,_=>by simp at h
 |p::P,w::vs,0,m,nd,h1,h2,hk=>by
  simp at h1 h2;subst h1;subst h2;show bindL kindOf ((p,w)::P.zip vs) m p=_;unfold bindL;rw[lj λv hv=>(LV.mp nd).1 (Nj hv).1,if_pos hk];simp
 |p::P,w::vs,i+1,m,nd,h1,h2,hk=>by
  show bindL kindOf ((p,w)::P.zip vs) m x=_;unfold bindL;exact ln (i:=i) (LV.mp nd).2 (by simpa using h1) (by simpa using h2) hk
theorem lp{kindOf:Str->Option Ol}{x:Str}{v:N1}:∀{P:List Str} {vs:List N1} {i:Nat} {m:Str->Option N1},P.Nodup->P[i]?=NW x->vs[i]?=NW v->kindOf x≠NW .local->
  bindC kindOf (P.zip vs) m x=NW v
 |[],_,_,_,_,h,_,_=>by simp at h
 |_::_,[],_,_,_,_,h,_=>by simp at h
 |p::P,w::vs,0,m,nd,h1,h2,hk=>by
  simp at h1 h2;subst h1;subst h2;show bindC kindOf ((p,w)::P.zip vs) m p=_;unfold bindC;rw[ll λv hv=>(LV.mp nd).1 (Nj hv).1,if_neg hk];simp
 |p::P,w::vs,i+1,m,nd,h1,h2,hk=>by
  show bindC kindOf ((p,w)::P.zip vs) m x=_;unfold bindC;exact lp (i:=i) (LV.mp nd).2 (by simpa using h1) (by simpa using h2) hk
noncomputable def cr(N:List Str)(vs:List V):St:=vs.map NW++List.replicate (N.length-vs.length) NX
noncomputable def mi(CX:sP)(P:N8)(w:Oa)(K:Lh)(mg:Str->Option N1)(base:Oc)(N:List Str)(qual:Str)(scope:Of)(f:N2)(cd:N1)(A:Od)(outer:List Env)(s:N3)(H:Hp)(E:XK):Cx where
 prog:=P
 w:=w
 K:=K
 mg:=mg
 base:=base
 A:=A.deeper (envOfC qual scope s.heap.objs.size f cd)
 N:=N
 s₀:=s
 H₀:=H
 env:=envOfC qual scope s.heap.objs.size f cd
 outer:=outer
 stack:=envOfC qual scope s.heap.objs.size f cd::outer
 ex:=[]
 calm:=NY
 fn:=λ_=>NY
 pn:=[]
 xe:=λe s'=>N5 (N6 P w) (A.deeper (envOfC qual scope s.heap.objs.size f cd)) (leaving (envOfC qual scope s.heap.objs.size f cd) e) (λ_ s''=>CX outer H s E e s'') (λe' s''=>CX outer H s E e' s'') s'
theorem nC{sc:Of}{n:Nat}{x:Str}(h:sc.names.lookup x=NW .cell):∃c,(Og n sc.names []).lookup x=NW c:=by
 have q:=Nm sc.names n [] (.inl h);exact Option.isSome_iff_exists.mp q
theorem sQ{CX:sP}{P:N8}{w:Oa}{K:Lh}{mg:Str->Option N1}{base:Oc}{N ps:List Str}{qual:Str}{scope:Of}{f:N2}{cd:N1}{A:Od}{outer:List Env}{s s1:N3}{H:Hp}{E:XK}{us:List N1}{vs:List V}
  (S:aw N ps scope) (hd:A.handled=NX) (e0:xL P w K mg base A outer s H) (hl:vs.length=ps.length) (r:Vals vs us)
  (x:InCallC s s.heap.objs.size (bindL (envOfC qual scope s.heap.objs.size f cd).kindOf (ps.zip us) λ_=>NX) (Og (s.heap.objs.size+1) scope.names []) (bindC (envOfC qual scope s.heap.objs.size f cd).kindOf (ps.zip us) λ_=>NX) s1) :
  Inv (mi CX P w K mg base N qual scope f cd A outer s H E) [] (cr N vs) H s1:=by
 have hpl:ps.length<=N.length:=by have:=congrArg Nn S.pre;rw[LU] at this;lia
 obtain⟨h1,tk,rfl,hk⟩:=x.done;have noA:∀b:N2,b∉(mi CX P w K mg base N qual scope f cd A outer s H E).ex:=λb z=>absurd (show b∈([]:List N2) from z) (by simp)
 refine⟨⟨e0.mod,S.kind,rfl,rfl,Lo _,λy z c h1 h2=>?_,λy hy=>?_,λy c _ h=>?_,λ_=>hd,Around.frames_deeper e0.frames,.inr ⟨rfl,rfl⟩,λb z=>absurd z (noA b),e0.bs,e0.bsz,λb _ _=>noA b,λb z=>absurd z (noA b),e0.funs,e0.frf⟩,
  rfl,e0.bare,Un.kept hk,⟨_,x.toInCall.ns,λi y v h1 h2 h3=>?_⟩,λy c h=>⟨_,x.cell y c h⟩,e0.hok.fresh (Lo _),λy c h=>?_,λp hp=>absurd (show p∈([]:List (N2×Obj)) from hp) (by simp),e0.hok.kept hk,?_⟩
 ·exact name_of_addr x.apart (PySem.mem_of_lookup h1) (PySem.mem_of_lookup h2)
 ·have hy:scope.names.lookup y=NW .cell\/scope.names.lookup y=NW .free:=hy;rcases hy with hy|hy
  ·exact nC hy
  ·exact absurd rfl (S.nofree _ (PySem.mem_of_lookup hy))
 ·exact Nd (x.above y c (PySem.mem_of_lookup h))
 ·have hi:i<vs.length:=by
   unfold cr at h2;by_cases hi:i<vs.length
   ·exact hi
   ·rw[LS (by simpa using hi)] at h2;rw[Ng] at h2
    split at h2<;>cases h2
  have ha:vs[i]?=NW v:=by
   unfold cr at h2;rw[LP (by simpa using hi),Ll] at h2
   cases e:vs[i]? with
   |none=>rw[e] at h2;cases h2
   |some a=>rw[e] at h2;cases h2;rfl
  obtain⟨u,hu,rv⟩:=r.get ha
  have hp:ps[i]?=NW y:=by
   rw[<- S.pre,List.getElem?_take_of_lt (by lia)];exact h1
  have ndP:ps.Nodup:=by rw[<- S.pre];exact S.nd.sublist (NK _ _)
  refine⟨u,rv,?_⟩;rcases S.par y (LD hp) with k|k
  ·exact .inl ⟨k,ln ndP hp hu k⟩
  ·obtain⟨c,e⟩:=nC (n:=s.heap.objs.size+1) k;refine .inr ⟨.inl k,c,e,?_⟩;have q:=x.cell y c e;rw[lp ndP hp hu (by show scope.names.lookup y≠_;rw[k];decide)] at q;exact q
 ·exact e0.hok.fresh (Nd (x.above y c (PySem.mem_of_lookup h)))
 ·unfold cr;show _=N.length;rw[LZ,Li,Nt]
  lia
theorem Ep{CX:sP}{P:N8}{w:Oa}{K:Lh}{mg:Str->Option N1}{base:Oc}{k:Nat}{f:N2}{name qual:Str}{params:Arguments}{body:List N9}{scope:Of}{dV kV doc pm cdv ct oc:N1}{an od:Option N2}
  {osl:Array (Option N1)} {N ps:List Str} {sp:Sp} (lk:K.lookup f=NW ⟨oc,od,.func (Mm name qual params body scope dV kV doc pm an cdv ct),osl⟩) (hcd:M0 K cdv qual=NY) (S:aw N ps scope)
  (len:∀vs H Q E,sp vs H Q E->vs.length=ps.length)
  (hbody:∀(A:Od) (outer:List Env) (s:N3) (H:Hp) (vs:List V) (Q:VK) (E:XK),Room k (A.deeper (envOfC qual scope s.heap.objs.size f cdv))->sp vs H Q E->
   ∃t,PSs (mi CX P w K mg base N qual scope f cdv A outer s H E) body t/\t { nx:=λ_ H'=>Q .non H',rt:=Q } (cr N vs) H) :
  FnOk P w K mg base CX (k+1) f (Mm name qual params body scope dV kV doc pm an cdv ct) ps sp:=by
 refine⟨len,λA outer s H args us vs Q E hr e0 hb r hsp=>?_⟩;have hl:=len _ _ _ _ hsp;have KX:K.In s.heap:=e0.mod.kin.keeps λb o e=>(e0.bs b o e).1;have lim:s.heap.NoLimit:=e0.mod.nolimit.keeps λb o e=>(e0.bs b o e).1
 have hkind:∀y∈ps.zip us,scope.names.lookup y.1=NW .local\/(scope.names.lookup y.1=NW .cell/\((Og (s.heap.objs.size+1) scope.names []).lookup y.1).isSome=NY):=λ⟨n,v⟩ hy=>by
  rcases S.par n (Nj hy).1 with q|q
  ·exact .inl q
  ·exact .inr ⟨q,Nm _ _ _ (.inl q)⟩
 refine codeAny_call_function hr.depth (KX _ _ lk) rfl S.co S.gen rfl (PySem.W.codeRec_of KX hcd) (hb _ _ _ _ ?_);refine wpAny_newFunctionEnv_cells S.kind hkind λenv he s1 x=>?_;subst he;refine⟨lim.keeps x.toInCall.keep,codeAny_func ?_⟩;obtain⟨t,ht,hq⟩:=hbody A outer s H vs Q E (hr.deeper _) hsp;have I:Inv (mi CX P w K mg base N qual scope f cdv A outer s H E) [] (cr N vs) H s1:=sQ S hr.hd e0 hl r x;refine wpAny_mono (ht [] s1 (cr N vs) H _ I hq) (λfl s' hs=>?_) λe s' hs=>hs
 have fin:∀{σ':St} {H':Hp} {v:V} {u:N1},Inv (mi CX P w K mg base N qual scope f cdv A outer s H E) [] σ' H' s'->RelV v u->Q v H'->CE outer P w H s Q u s':=
  λ{σ' H' v u} J rv q=>⟨v,H',J.os,J.bare,J.base,J.hok,rv,q⟩
 cases fl with
 |ret u=>
  obtain⟨v,σ',H',J,rv,q⟩:=hs;exact fin J rv q
 |next=>
  obtain⟨σ',H',J,q⟩:=hs;exact fin (v:=V.non) (u:=Value.none) J rfl q
 |brk=>
  obtain⟨_,_,_,q⟩:=hs;exact False.elim q
 |cont=>
  obtain⟨_,_,_,q⟩:=hs;exact False.elim q
end L2
namespace L2
open PySem PySem.Spec PyProof.Rows
section
variable {X:Cx} {x:Str} {p pos:Pos} {e:N0} {es:List N0} {t:TA} {id T:String} {r:List V->Hp->VK->Prop}
noncomputable def Kf(r:List V->Hp->VK->Prop)(t:TA):TE:=λσ H Q=>t σ H λvs H1=>r vs H1 Q
theorem gQ(hc:i3 X (.builtin id) r)(hg:Gl X x)(hm:X.mg x=NX)(hv:bootBuiltins x=NW (.builtin id))(ha:PA X (e::es) t)(hn:x≠"__name__":=by decide)(hdb:(x==("__debug__":Str))=NZ:=by decide)
  (he:Ob (e::es) X.env=(NZ,eval e X.env)::Ob es X.env:=by rfl) (hpl:(backTo pos (Ob es X.env)).any (·.1)=NZ:=by rfl):PE X (.Call (.Name x p) (e::es) [] pos) (Kf r t):=by
 intro pins s σ H Q I h;refine wpAny_Call_Name_kw (dX I hg hm hv ?_ hn hdb);exact PyProof.Rows.callWith_builtin1 (bB (ha pos pins s σ H _ I h) λus s1 ⟨vs,H1,I1,r1,q1⟩=>hc pins s1 σ H1 vs us Q I1 r1 q1) he hpl
theorem fC(hc:i3 X (.type T) r)(hg:Gl X x)(hm:X.mg x=NX)(hv:bootBuiltins x=NW (.type T))(ha:PA X (e::es) t)(hn:x≠"__name__":=by decide)(hdb:(x==("__debug__":Str))=NZ:=by decide)
  (he:Ob (e::es) X.env=(NZ,eval e X.env)::Ob es X.env:=by rfl) (hpl:(backTo pos (Ob es X.env)).any (·.1)=NZ:=by rfl):PE X (.Call (.Name x p) (e::es) [] pos) (Kf r t):=by
 intro pins s σ H Q I h;refine wpAny_Call_Name_kw (dX I hg hm hv ?_ hn hdb);exact PyProof.Rows.callWith_type1 (bB (ha pos pins s σ H _ I h) λus s1 ⟨vs,H1,I1,r1,q1⟩=>hc pins s1 σ H1 vs us Q I1 r1 q1) he hpl
end
end L2
namespace HT
open PySem PyProof.Rows
section
open PySem.SeqAt
open PySem.AutoSeq1 (wpAny_loadPart')
open PySem.MeetsSeq PySem.MeetsSeq2 PySem.MeetsSeq3
end
section
variable {prog:N8} {w:Oa} {A:Od} {E:N1->N3->Prop} {s:N3}
noncomputable def jI(n d:Nat):Option Int->Nat
 |none=>d
 |some v=>if v<0 then(v+(n:Int)).toNat else min v.toNat n
theorem uF(n d:Nat):jI n d NX=d:=rfl
theorem xM(n d k:Nat):jI n d (NW (k:Int))=min k n:=by
 show(if(k:Int)<0 then((k:Int)+(n:Int)).toNat else min (k:Int).toNat n)=min k n
 rw[if_neg (by lia),LN]
end
end HT
namespace L2
open PySem PySem.Spec PyProof.Rows
noncomputable abbrev TO:=St->Hp->(Option Int->Hp->Prop)->Prop
noncomputable def PO(X:Cx)(e:Option N0)(t:TO):Prop:=
 ∀(pins:List (N2×Obj)) (s:N3) (σ:St) (H:Hp) (Q:Option Int->Hp->Prop),Inv X pins σ H s->t σ H Q->
  N5 (N6 X.prog X.w) X.A (evalPart e X.env) (λu s'=>∃o H',Inv X pins σ H' s'/\IsPart u o/\Q o H') X.xe s
noncomputable def xN:TO:=λ_ H Q=>Q NX H
noncomputable def Er(t:TE):TO:=λσ H Q=>t σ H λx H1=>∃i,x=.int i/\Q (NW i) H1
section
variable {X:Cx} {e:N0} {te:TE} {lo hi:Option N0} {tl th:TO} {pos p2:Pos}
theorem qF:PO X NX xN:=by
 intro pins s σ H Q I h;rw[evalPart_none];exact N7 ⟨NX,H,I,.none,h⟩
theorem qG(h:PE X e te):PO X (NW e) (Er te):=by
 intro pins s σ H Q I hw;rw[evalPart_some];refine bB (h pins s σ H _ I hw) λu s1 ⟨x,H1,I1,r1,q1⟩=>?_;obtain⟨i,rfl,q⟩:=q1;obtain⟨t,rfl⟩:=r1;exact⟨NW i,H1,I1,.int i t,q⟩
noncomputable def Kg(X:Cx)(r:V->Option Int->Option Int->Hp->VK->Prop):Prop:=
 ∀(pins:List (N2×Obj)) (s:N3) (σ:St) (H:Hp) (x:V) (v vl vu:N1) (lo hi:Option Int) (sl:N2) (Q:VK),Inv X pins σ H s->RelV x v->s.heap.IsSliceOf sl vl vu .none->IsPart vl lo->IsPart vu hi->r x lo hi H Q->
  ∃T id,typeLookup (.type T) "__getitem__" = pure (NW (.builtin id))/\s.TypeIs v T/\N5 (N6 X.prog X.w) X.A (getItem v (.ref sl)) (EP X pins σ Q) X.xe s
noncomputable def KI(r:V->Option Int->Option Int->Hp->VK->Prop)(te:TE)(tl th:TO):TE:=λσ H Q=>te σ H λx H1=>tl σ H1 λl H2=>th σ H2 λu H3=>r x l u H3 Q
theorem jJ(hr:Kg X r)(he:PE X e te)(hl:PO X lo tl)(hu:PO X hi th):PE X (.Subscript e (.Slice lo hi NX p2) pos) (KI r te tl th):=by
 intro pins s σ H Q I h;refine Subscript_ (bB (he pins s σ H _ I h) λv s1 ⟨x,H1,I1,r1,q1⟩=>?_);refine wpAny_Slice (bB (hl pins s1 σ H1 _ I1 q1) λvl s2 ⟨l,H2,I2,pl,q2⟩=>bB (hu pins s2 σ H2 _ I2 q2) λvu s3 ⟨u,H3,I3,pu,q3⟩=>?_);rw[evalPart_none];refine N7 ?_;have I4:Inv X pins σ H3 { s3 with heap:=s3.heap.push { cls:=.type "slice",data:=.fields #[vl,vu,.none] } }:=I3.kept (t':=s3.toks) λb ob q=>Ls _ q;obtain⟨T,id,hT,ht,hg⟩:=hr pins { s3 with heap:=s3.heap.push { cls:=.type "slice",data:=.fields #[vl,vu,.none] } } σ H3 x v vl vu l u s3.heap.objs.size Q I4 r1 (Heap.IsSliceOf.new ..) pl pu q3;show N5 (N6 X.prog X.w) X.A (subscriptTail e (.Slice lo hi NX p2) v (.ref s3.heap.objs.size)) (EP X pins σ Q) X.xe { s3 with heap:=s3.heap.push { cls:=.type "slice",data:=.fields #[vl,vu,.none] } };exact tail_any (ops:=[.ref s3.heap.objs.size,v]) ht hT hg (by with_unfolding_all rfl)
noncomputable def sR(xs:List V)(lo hi:Option Int):List V:=(xs.drop (HT.jI xs.length 0 lo)).take (HT.jI xs.length xs.length hi-HT.jI xs.length 0 lo)
theorem nD(xs:List V)(lo hi:Option Int):(sR xs lo hi).length<=xs.length:=by
 unfold sR;rw[LU,NQ]
 lia
end
end L2
namespace L2
open PySem PySem.Spec PyProof.Rows
noncomputable def i4(n:Nat)(i:Int):Option Nat:=if 0<=i then(if i<n then NW i.toNat else NX) else if -(n:Int)<=i then NW (i+n).toNat else NX
noncomputable def oV{α:Type}(xs:List α)(i:Int):Option α:=(i4 xs.length i).bind λj=>xs[j]?
theorem mj{n:Nat}{i:Int}{j:Nat}(h:i4 n i=NW j):seqIndex? i n=NW j/\j<n/\-(n:Int)<=i/\i<n:=by
 unfold i4 at h;by_cases h0:0<=i
 ·rw[if_pos h0] at h;by_cases h1:i<n
  ·rw[if_pos h1] at h;have e:i.toNat=j:=Option.some.inj h;exact⟨by rw[seqIndex_of h0 h1,e],by lia,by lia,h1⟩
  ·rw[if_neg h1] at h;cases h
 ·rw[if_neg h0] at h;by_cases h1:-(n:Int)<=i
  ·rw[if_pos h1] at h;have e:(i+n).toNat=j:=Option.some.inj h;exact⟨by rw[seqIndex_neg (by lia) h1,e],by lia,h1,by lia⟩
  ·rw[if_neg h1] at h;cases h
theorem mn{α:Type}{xs:List α}{i:Int}{v:α}(h:oV xs i=NW v):∃j,seqIndex? i xs.length=NW j/\xs[j]?=NW v/\j<xs.length/\-(xs.length:Int)<=i/\i<xs.length:=by
 unfold oV at h
 cases e:i4 xs.length i with
 |none=>rw[e] at h;cases h
 |some j=>
  rw[e] at h;obtain⟨h1,h2,h3,h4⟩:=mj e;exact⟨j,h1,h,h2,h3,h4⟩
noncomputable def qH(b:N0):Prop:=∀o i,subscripted b NZ o i=operate [o,i] (getItem o i)
noncomputable def IxR(X:Cx)(r:R2):Prop:=
 ∀(value slice:N0) (pins:List (N2×Obj)) (s:N3) (σ:St) (H:Hp) (x y:V) (v u:N1) (Q:VK),Inv X pins σ H s->RelV x v->RelV y u->r x y H Q->
  subscripted slice NZ v u=operate [v,u] (getItem v u)->N5 (N6 X.prog X.w) X.A (subscriptTail value slice v u) (EP X pins σ Q) X.xe s
noncomputable def HX(X:Cx)(id:String)(r:V->List V->Hp->VK->Prop):Prop:=
 ∀(pins:List (N2×Obj)) (s:N3) (σ:St) (H:Hp) (x:V) (xs:List V) (v:N1) (us:List N1) (Q:VK),Inv X pins σ H s->RelV x v->Vals xs us->r x xs H Q->
  N5 (N6 X.prog X.w) X.A (call (.builtin id) (v::us)) (EP X pins σ Q) X.xe s
section
variable {X:Cx} {a b:N0} {ta tb:TE} {pos:Pos}
theorem IxR.or{r r':R2}(h:IxR X r)(h':IxR X r'):IxR X (λx y H Q=>r x y H Q\/r' x y H Q):=by
 intro value slice pins s σ H x y v u Q I rx ry q hs;rcases q with q|q
 ·exact h value slice pins s σ H x y v u Q I rx ry q hs
 ·exact h' value slice pins s σ H x y v u Q I rx ry q hs
theorem qI(hr:IxR X r)(ha:PE X a ta)(hb:PE X b tb)(hs:qH b):PE X (.Subscript a b pos) (G5 r ta tb):=by
 intro pins s σ H Q I h;exact Subscript_ (Bf ha hb I h λv u s2 x y H2 I2 rx ry q=>hr a b pins s2 σ H2 x y v u Q I2 rx ry q (hs _ _))
noncomputable def Es(K:Lh):R2:=λx y H Q=>∃p xs i v,x=.ref p/\y=.int i/\SqL K H p xs/\oV xs i=NW v/\Q v H
noncomputable def Et(K:Lh):R2:=λx y H Q=>∃p xs i v,x=.ref p/\y=.int i/\SqT K H p xs/\oV xs i=NW v/\Q v H
noncomputable def Eu:R2:=λx y H Q=>∃z i c,x=.str z/\y=.int i/\z.length<=sizeLine/\oV z.cps.toList i=NW c/\Q (.str ⟨#[c]⟩) H
theorem ix_list:IxR X (Es X.K):=by
 intro value slice pins s σ H x y v u Q I rx ry h hs;obtain⟨p,xs,i,z,rfl,rfl,hq,he,q⟩:=h;cases rx;obtain⟨t,rfl⟩:=ry;obtain⟨its,r,pl,hz⟩:=I.list hq;obtain⟨j,h1,h2,h3,h4,h5⟩:=mn he;obtain⟨w,ew,rw'⟩:=r.get h2;have hl:=r.length;have hn:=iA;have fin:EP X pins σ Q w s:=⟨z,H,I,rw',q⟩;by_cases h0:0<=i
 ·have hj:i.toNat=j:=by
   rw[seqIndex_of h0 h5] at h1;exact Option.some.inj h1
  exact item_listR pl.isList h0 (by lia) (by rw[hj];simpa using ew) fin hs
 ·have hj:(i+(its.toArray.size:Int)).toNat=j:=by
   rw[seqIndex_neg (by lia) h4] at h1;rw[Lv,<- hl];exact Option.some.inj h1
  exact subscriptTail_builtinR (x:=w) pl.isList.typeIs slot_list_getitem.lookup
   (wpAny_getItem_list_neg (Q:=λr s'=>r=w/\EP X pins σ Q r s') pl.isList (by lia) (by rw[Lv]<;>lia) (by lia) (by rw[hj];simpa using ew) ⟨rfl,fin⟩) hs
theorem ix_tup:IxR X (Et X.K):=by
 intro value slice pins s σ H x y v u Q I rx ry h hs;obtain⟨p,xs,i,z,rfl,rfl,hq,he,q⟩:=h;cases rx;obtain⟨t,rfl⟩:=ry;obtain⟨its,r,pl,hz⟩:=I.tuple hq;obtain⟨j,h1,h2,h3,h4,h5⟩:=mn he;obtain⟨w,ew,rw'⟩:=r.get h2;have hl:=r.length;have hn:=iA;have fin:EP X pins σ Q w s:=⟨z,H,I,rw',q⟩;exact subscriptTail_builtinR (x:=w) pl.typeIs slot_tuple_getitem.lookup
  (getItem_tuple (j:=j) (Q:=λr s'=>r=w/\EP X pins σ Q r s') pl (by lia) (by lia) (by rw[Lv,<- hl];exact h1) (by simpa using ew) ⟨rfl,fin⟩) hs
theorem Br:IxR X Eu:=by
 intro value slice pins s σ H x y v u Q I rx ry h hs;obtain⟨z,i,c,rfl,rfl,hz,he,q⟩:=h;obtain⟨t,rfl⟩:=rx;obtain⟨t',rfl⟩:=ry;obtain⟨j,h1,h2,h3,h4,h5⟩:=mn he;have hl:z.cps.toList.length=z.length:=by simp[Str.length]
 rw[hl] at h1 h4 h5;have hn:=iA
 exact tail_any (typeIs_str s z t) slot_str_getitem.lookup (getItem_str (c:=c) (by
  have e1:decide (i < -(2^63:Int))=NZ:=decide_eq_false (by lia);have e2:decide (i ≥ 2^63)=NZ:=decide_eq_false (by lia);rw[e1,e2,Bool.or_false]) (by rw[h1];simpa using h2) ⟨.str ⟨#[c]⟩,H,I.tok _,⟨_,rfl⟩,q⟩) hs
noncomputable def Kh(K:Lh):R2:=λx y H Q=>Es K x y H Q\/Et K x y H Q\/Eu x y H Q
theorem mq:IxR X (Kh X.K):=ix_list.or (ix_tup.or Br)
theorem pj(its:List N1)(n j:Nat)(u:N1):Obj.mapSeq (·.setIfInBounds j u) { cls:=.type "list",data:=.seq its.toArray n }={ cls:=.type "list",data:=.seq (its.set j u).toArray n }:=by
 simp[Obj.mapSeq]
theorem Inv.lst{pins:List (N2×Obj)}{σ:St}{H:Hp}{s:N3}{p:N2}{xs:List V}(I:Inv X pins σ H s)(h:H p=NW (.lst xs)) :
  ∃(its:List N1) (n:Nat),Vals xs its/\s.heap.get? p=NW { cls:=.type "list",data:=.seq its.toArray n }/\xs.length<=sizeLine:=by
 obtain⟨z,its,n,r,e⟩:=I.hok p _ h;exact⟨its,n,r,e,z⟩
theorem Inv.lstUpd{H:Hp}{s:N3}{xs ys:List V}{its its':List N1}{n n':Nat}(I:Inv X pins σ H s)(h:H p=NW (.lst xs))(ho:s.heap.get? p=NW { cls:=.type "list",data:=.seq its.toArray n })(hf:f { cls:=.type "list",data:=.seq its.toArray n }={ cls:=.type "list",data:=.seq its'.toArray n' })(r:Vals ys its')(hz:ys.length<=sizeLine)(t:Nat) :
  Inv X pins σ (upd H p (.lst ys)) { s with heap:=s.heap.update p f,toks:=t }:=by
 have e:(s.heap.update p f).get? p=NW { cls:=.type "list",data:=.seq its'.toArray n' }:=by
  rw[Nu f ho (by rw[hf]<;>rfl),hf]
 refine I.write (x:=p) (e:=p) (by rw[h];trivial) (.inl rfl) (λb u hb q=>(No _ _ (Ne.symm hb)).trans q) ⟨_,e⟩ ?_;exact⟨hz,its',n',r,e⟩
noncomputable def Ev:V->V->V->Hp->(Hp->Prop)->Prop:=λo i v H Q=>∃p xs k j,o=.ref p/\i=.int k/\H p=NW (.lst xs)/\i4 xs.length k=NW j/\Q (upd H p (.lst (xs.set j v)))
theorem nE:Ec X Ev:=by
 intro pins s σ H o i v ov iv u Q I ro ri rv h;obtain⟨p,xs,k,j,rfl,rfl,hp,hj,q⟩:=h;cases ro;obtain⟨t,rfl⟩:=ri;obtain⟨its,n,r,ho,hz⟩:=I.lst hp;obtain⟨h1,h2,h3,h4⟩:=mj hj;have hl:=r.length;have hn:=iA
 have I':Inv X pins σ (upd H p (.lst (xs.set j v))) { s with heap:=s.heap.update p (Obj.mapSeq (·.setIfInBounds j u)) }:=
  I.lstUpd hp ho (pj its n j u) (r.set rv j) (by rw[MA];exact hz) s.toks
 by_cases h0:0<=k
 ·have hk:k.toNat=j:=by
   rw[seqIndex_of h0 h4] at h1;exact Option.some.inj h1
  exact PySem.W.ki_setAt ho h0 (by lia) (by rw[Lv,<- hl];exact h4) (by rw[hk];exact⟨_,I',q⟩)
 ·have hk:(k+(its.toArray.size:Int)).toNat=j:=by
   rw[seqIndex_neg (by lia) h3] at h1;rw[Lv,<- hl];exact Option.some.inj h1
  exact PySem.W.ki_setBack ho (by lia) (by rw[Lv,<- hl];exact h3) (by lia) (by rw[hk];exact⟨_,I',q⟩)
theorem mr(lo hi:Option Int)(n:Nat):(sliceBounds lo hi NX n).1=((HT.jI n 0 lo:Nat):Int)/\(sliceBounds lo hi NX n).2.1=((HT.jI n n hi:Nat):Int)/\(sliceBounds lo hi NX n).2.2=1:=by
 refine⟨?_,?_,rfl⟩
 ·cases lo with
  |none=>simp[sliceBounds,HT.jI]
  |some i=>
   simp only[sliceBounds,HT.jI,Nf,show(1:Int) > 0 by decide,if_true];by_cases h:i<0
   ·simp only[h,if_true]<;>lia
   ·simp only[h,if_false]<;>lia
 ·cases hi with
  |none=>simp[sliceBounds,HT.jI]
  |some i=>
   simp only[sliceBounds,HT.jI,Nf,show(1:Int) > 0 by decide,if_true];by_cases h:i<0
   ·simp only[h,if_true]<;>lia
   ·simp only[h,if_false]<;>lia
theorem kW(its:List N1)(lo hi:Option Int):slicePick its.toArray lo hi NX=((its.drop (HT.jI its.length 0 lo)).take (HT.jI its.length its.length hi-HT.jI its.length 0 lo)).toArray:=by
 obtain⟨h1,h2,h3⟩:=mr lo hi its.toArray.size;unfold slicePick;rw[h1,h2,h3]
 simp only[sliceRange_one,pick_run,Lv]<;>rfl
noncomputable def HY(K:Lh):V->Option Int->Option Int->Hp->VK->Prop:=λx lo hi H Q=>∃a xs,x=.ref a/\SqL K H a xs/\∀p,H p=NX->Q (.ref p) (upd H p (.lst (sR xs lo hi)))
theorem mt:Kg X (HY X.K):=by
 intro pins s σ H x v vl vu lo hi sl Q I rx hs pl pu h;obtain⟨a,xs,rfl,hx,q⟩:=h;cases rx;obtain⟨its,r,ht,hz⟩:=I.list hx;have hlen:=r.length;refine⟨"list",_,slot_list_getitem.lookup,ht.isList.typeIs,?_⟩
 refine wpAny_getItem_list_slice ht.isList hs pl pu .none (by simp) ?_ (by rw[Lv]<;>lia)
 rw[kW,<- hlen];refine⟨.ref s.heap.objs.size,_,I.laid (t':=s.toks) (o:=.lst (sR xs lo hi)) (λb ob q=>Ls _ q) (Lo _) ?_,rfl,q _ (I.hok.fresh (Lo _))⟩;exact⟨LM (nD xs lo hi) hz,_,0,(r.drop (HT.jI xs.length 0 lo)).take (HT.jI xs.length xs.length hi-HT.jI xs.length 0 lo),LL _ rfl⟩
theorem mw:i3 X (.builtin "len") (λxs H Q=>∃p ys,xs=[.ref p]/\(SqL X.K H p ys\/SqT X.K H p ys)/\Q (.int ys.length) H):=by
 intro pins s σ H xs us Q I r h;obtain⟨p,ys,rfl,hq,q⟩:=h;obtain⟨u,rfl,rx⟩:=li r;cases rx;have hn:=iA;rcases hq with hq|hq
 ·obtain⟨its,r',pl,hz⟩:=I.list hq;have hlen:=r'.length
  exact Calls.call_len_list pl.isList (by simp only[Lv]<;>lia) ⟨.int ys.length,H,I.tok _,⟨s.toks+1,by rw[Lv,hlen]⟩,q⟩
 ·obtain⟨its,r',pl,hz⟩:=I.tuple hq;have hlen:=r'.length
  exact len_tuple pl (by simp only[Lv]<;>lia) ⟨.int ys.length,H,I.tok _,⟨s.toks+1,by rw[Lv,hlen]⟩,q⟩
theorem eI:i3 X (.type "list") (λxs H Q=>∃p ys,xs=[.ref p]/\(SqL X.K H p ys\/SqT X.K H p ys)/\∀l,H l=NX->Q (.ref l) (upd H l (.lst ys))):=by
 intro pins s σ H xs us Q I r h;obtain⟨p,ys,rfl,hq,q⟩:=h;obtain⟨u,rfl,rx⟩:=li r;cases rx
 have fin:∀(its:List N1),Vals ys its->ys.length<=sizeLine->∀(h':Oc) (c':Nat),(∀b o',s.heap.get? b=NW o'->h'.get? b=NW o')->
   h'.get? s.heap.objs.size=NW { cls:=.type "list",dict:=NX,data:=.seq its.toArray c',slots:=#[] }->EP X pins σ Q (.ref s.heap.objs.size) { s with heap:=h' }:=λits r' hz h' c' kp e=>
  ⟨.ref s.heap.objs.size,_,I.laid (t':=s.toks) kp (Lo _) (show ObjOk X.prog X.w _ h' _ (.lst ys) from⟨hz,its,c',r',e⟩),rfl,q _ (I.hok.fresh (Lo _))⟩
 rcases hq with hq|hq
 ·obtain⟨its,r',pl,hz⟩:=I.list hq;have hlen:=r'.length;obtain⟨o,ho,hc,n,hd⟩:=pl.isList
  exact call_list_seq p (.inl rfl) ho hc hd (λh' c' kp e=>fin its r' hz h' c' kp e) (by simp only[Lv]<;>lia)
 ·obtain⟨its,r',pl,hz⟩:=I.tuple hq;have hlen:=r'.length;obtain⟨o,ho,hc,n,hd⟩:=pl
  exact call_list_seq p (.inr rfl) ho hc hd (λh' c' kp e=>fin its r' hz h' c' kp e) (by simp only[Lv]<;>lia)
theorem kX:i3 X (.type "tuple") (λxs H Q=>∃p ys,xs=[.ref p]/\((SqL X.K H p ys/\∀l,H l=NX->Q (.ref l) (upd H l (.tup ys)))\/(SqT X.K H p ys/\Q (.ref p) H))):=by
 intro pins s σ H xs us Q I r h;obtain⟨p,ys,rfl,h⟩:=h;obtain⟨u,rfl,rx⟩:=li r;cases rx;rcases h with⟨hq,q⟩|⟨hq,q⟩
 ·obtain⟨its,r',pl,hz⟩:=I.list hq;have hlen:=r'.length
  refine call_tuple_list pl.isList (λh' kp=>?_) (by simp only[Lv]<;>lia)
  have I1:Inv X pins σ H { s with heap:=h' }:=I.kept (t':=s.toks) kp
  have I2:Inv X pins σ (upd H h'.objs.size (.tup ys)) { s with heap:=h'.push { cls:=.type "tuple",data:=.seq its.toArray } }:=
   I1.laid (t':=s.toks) (λb o e=>Ls _ e) (Lo _) (show ObjOk X.prog X.w _ _ _ (.tup ys) from⟨hz,its,r',IsTup.new _ _⟩)
  exact⟨.ref h'.objs.size,_,I2,rfl,q _ (I1.hok.fresh (Lo _))⟩
 ·obtain⟨its,r',pl,hz⟩:=I.tuple hq;exact call_tuple_same pl ⟨.ref p,H,I,rfl,q⟩
noncomputable def Ki(K:Lh)(T:String)(x:V)(H:Hp):Prop:=match x with
 |.str _=>T="str"
 |.int _=>T="int"
 |.ref p=>(T="list"/\∃xs,SqL K H p xs)\/(T="tuple"/\∃o,K.lookup p=NW o/\o.cls=.type "tuple"/\o.dict=NX)\/
   (T="dict"/\((∃kvs,H p=NW (.dK kvs))\/∃m ep kvs,H p=NW (.dT m ep kvs)))\/(T="set"/\∃S n,H p=NW (.set S n))
 |_=>False
theorem Bs{s:N3}{T:String}(I:Inv X pins σ H s)(r:RelV x v)(ty:Ki X.K T x H) :
  s.TypeIs v T/\∀a,v=.ref a->∃ob,s.heap.get? a=NW ob/\ob.dict=NX:=by
 cases x with
 |str z=>
  obtain⟨t,rfl⟩:=r;cases(show T="str" from ty)
  exact⟨typeIs_str s z t,λ_ e=>nomatch e⟩
 |int i=>
  obtain⟨t,rfl⟩:=r;cases(show T="int" from ty)
  exact⟨typeIs_int s i t,λ_ e=>nomatch e⟩
 |ref p=>
  cases r;rcases ty with⟨rfl,xs,hq⟩|⟨rfl,o,hk,hc,hd⟩|⟨rfl,hk⟩|⟨rfl,S,n,hk⟩
  ·obtain⟨its,_,pl,_⟩:=I.list hq;refine⟨pl.isList.typeIs,λa e=>?_⟩;cases e;obtain⟨o,n,e,c,hd,_⟩:=pl;exact⟨o,e,hd⟩
  ·refine⟨⟨o,I.kIn p o hk,hc⟩,λa e=>?_⟩;cases e;exact⟨o,I.kIn _ o hk,hd⟩
  ·have z:∃o,s.heap.get? p=NW o/\o.ExactDict:=by
    rcases hk with⟨kvs,hk⟩|⟨_,_,kvs,hk⟩
    ·obtain⟨_,_,_,_,o,_,_,e,ex,_⟩:=I.hok p _ hk;exact⟨o,e,ex⟩
    ·obtain⟨_,_,_,_,o,_,e,ex,_⟩:=I.hok p _ hk;exact⟨o,e,ex⟩
   obtain⟨o,e,ex⟩:=z;refine⟨⟨o,e,ex.1⟩,λa e2=>?_⟩;cases e2;exact⟨o,e,ex.2.1⟩
  ·obtain⟨o,_,_,_,e,ex,_⟩:=I.hok p _ hk;refine⟨⟨o,e,ex.1⟩,λa e2=>?_⟩;cases e2;exact⟨o,e,ex.2.1⟩
 |_=>exact False.elim ty
noncomputable def KJ(K:Lh)(T:String)(r:V->List V->Hp->VK->Prop)(to:TE)(t:TA):TE:=λσ H Q=>to σ H λx H1=>Ki K T x H1/\t σ H1 λxs H2=>r x xs H2 Q
variable {o e:N0} {es:List N0} {to:TE} {t:TA} {name:Str} {apos cpos:Pos} {T id:String} {r:V->List V->Hp->VK->Prop}
theorem qJ(pa:PlainAttrs T)(slot:Slot T name id)(hty:typeOf (.builtin id)=pure (.type "method_descriptor"))(hm:HX X id r)(ho:PE X o to)(ha:PA X (e::es) t)
  (hbase:attributeBase o name X.env (eval o X.env)=eval o X.env:=by rfl)
  (hfew:((backTo cpos (Ob (e::es) X.env)).all (λx=>!x.1)&&(backToKw cpos (keywordEach [] X.env)).all (λx=>x.1.isSome)
   && decide ((e::es).length+([]:List Keyword).length+(if([]:List Keyword).isEmpty then 0 else 1)<30))=NY:=by rfl)
  (hline:(apos.endLine==cpos.line)=NY:=by rfl) (hs:Ob (e::es) X.env=(NZ,eval e X.env)::Ob es X.env:=by rfl) (hplain:(backTo cpos (Ob es X.env)).any (·.1)=NZ:=by rfl) :
  PE X (.Call (.Attribute o name apos) (e::es) [] cpos) (KJ X.K T r to t):=by
 intro pins s σ H Q I h;refine wpAny_Call_method_late hbase hfew hline rfl (bB (ho pins s σ H _ I h) λv s1 ⟨x,H1,I1,r1,ty,q1⟩=>?_);obtain⟨h1,h2⟩:=Bs I1 r1 ty;refine⟨T,id,pa,slot,hty,h1,h2,?_⟩;have hA:=ha cpos pins s1 σ H1 _ I1 q1;rw[hs] at hA⊢
 refine Calls.callWith_builtin (by show(NZ||(backTo cpos (Ob es X.env)).any (·.1))=NZ;rw[hplain]<;>rfl) (Calls.evalArgs_plain ?_)
 exact bB hA λus s2 ⟨vs,H2,I2,r2,q2⟩=>hm pins s2 σ H2 x vs v us Q I2 r1 r2 q2
/- xs.append(e),list.index on a module's tuple .. are HX facts of 06m -/
end
end L2
namespace L2
open PySem PySem.Spec PyProof.Rows
noncomputable def Kj(X:Cx)(id:String)(r:V->List V->Hp->VK->Prop):Prop:=
 ∀(pins:List (N2×Obj)) (s:N3) (σ:St) (H:Hp) (x:V) (xs:List V) (v:N1) (us:List N1) (Q:VK),Inv X pins σ H s->RelV x v->Vals xs us->r x xs H Q->
  N5 (N6 X.prog X.w) X.A (call (.builtin id) (v::us)) (EP X pins σ Q) X.xe s
theorem Vals.one:∀{x:V} {us:List N1},Vals [x] us->∃u,us=[u]/\RelV x u
 |_,_,.cons r .nil=>⟨_,rfl,r⟩
theorem Vals.eraseIdx:∀{xs:List V} {us:List N1} (i:Nat),Vals xs us->Vals (xs.eraseIdx i) (us.eraseIdx i)
 |_,_,_,.nil=>.nil
 |_,_,0,.cons _ t=>t
 |_,_,i+1,.cons r t=>.cons r (Vals.eraseIdx i t)
theorem Vals.reverse{xs:List V}{us:List N1}(h:Vals xs us):Vals xs.reverse us.reverse:=by
 induction h with
 |nil=>exact .nil
 |cons r t ih=>rw[MJ,MJ];exact Vals.append ih (.cons r .nil)
theorem lq{α:Type}:∀(l:List α) (i:Nat),(l.eraseIdx i).length<=l.length
 |[],_=>Lo _
 |_::_,0=>Mz _
 |_::r,i+1=>Nat.succ_le_succ (lq r i)
section
variable {X:Cx} {pins:List (N2×Obj)} {σ:St} {H:Hp} {s:N3} {l b:N2} {xs ys zs:List V}
theorem Inv.lset{its its':List N1}{n:Nat}{f:Array N1->Array N1}{t':Nat}(I:Inv X pins σ H s)(hH:H l=NW (.lst xs))
  (e:s.heap.get? l=NW { cls:=.type "list",data:=.seq its.toArray n }) (hf:f its.toArray=its'.toArray) (hv:Vals ys its') (hz:ys.length<=sizeLine) :
  Inv X pins σ (upd H l (.lst ys)) { s with heap:=s.heap.update l (Obj.mapSeq f),toks:=t' }:=by
 have q:=PySem.IsL.update e f;rw[hf] at q;refine I.write (x:=l) (e:=l) (by rw[hH];exact trivial) (.inl rfl) (λb' u hb hu=>(No s.heap (Obj.mapSeq f) (Ne.symm hb)).trans hu) ⟨_,q⟩ ?_;exact⟨hz,its',_,hv,q⟩
theorem Inv.lnew{its:List N1}{t':Nat}(I:Inv X pins σ H s)(hv:Vals ys its)(hz:ys.length<=sizeLine) :
  Inv X pins σ (upd H s.heap.objs.size (.lst ys)) { s with heap:=s.heap.push { cls:=.type "list",data:=.seq its.toArray },toks:=t' }:=
 I.laid (λ_ _ q=>Ls _ q) (Lo _) ⟨hz,its,0,hv,LL _ rfl⟩
theorem Inv.fresh(I:Inv X pins σ H s):H s.heap.objs.size=NX:=I.hok.fresh (Lo _)
theorem Inv.lstM(I:Inv X pins σ H s)(hH:H l=NW (.lst xs)):xs.length<=sizeLine/\∃(its:List N1) (n:Nat),Vals xs its/\xs.length=its.length/\s.heap.get? l=NW { cls:=.type "list",data:=.seq its.toArray n }:=by
 obtain⟨z,its,n,r,e⟩:=I.hok l _ hH;exact⟨z,its,n,r,r.length,e⟩
end
section
variable {X:Cx}
noncomputable def qK:V->List V->Hp->VK->Prop:=λx vs H Q=>∃l xs y,x=.ref l/\vs=[y]/\H l=NW (.lst xs)/\xs.length<sizeLine/\Q .non (upd H l (.lst (xs++[y])))
theorem fD:Kj X "list.append" qK:=by
 intro pins s σ H x vs v us Q I rx rv h;obtain⟨l,xs,y,rfl,rfl,hH,hz,q⟩:=h;cases rx;obtain⟨u,rfl,ru⟩:=rv.one;obtain⟨z,its,n,r,hl,e⟩:=I.lstM hH;refine call_meets F.slot_list_append ⟨_,e,rfl⟩ F.entry_list_append (F.args_list_append_2 _ _) (PySem.list_append l its.toArray n u (by rw[Lv];lia)) ⟨e,?_⟩;refine⟨.non,_,I.lset (its':=its++[u]) hH e (by simp) (r.append (.cons ru .nil)) ?_,rfl,q⟩;rw[LZ,List.length_singleton]
 lia
noncomputable def uG:V->List V->Hp->VK->Prop:=λx vs H Q=>∃l xs i k y,x=.ref l/\vs=[.int i]/\H l=NW (.lst xs)/\-(2^63)<=i/\i<2^63/\seqIndex? i xs.length=NW k/\xs[k]?=NW y/\Q y (upd H l (.lst (xs.eraseIdx k)))
theorem uH:Kj X "list.pop" uG:=by
 intro pins s σ H x vs v us Q I rx rv h;obtain⟨l,xs,i,k,y,rfl,rfl,hH,h1,h2,hk,hy,q⟩:=h;cases rx;obtain⟨u,rfl,ru⟩:=rv.one;obtain⟨t,rfl⟩:=ru;obtain⟨z,its,n,r,hl,e⟩:=I.lstM hH;obtain⟨w,hw,rw'⟩:=r.get hy;refine call_meets F.slot_list_pop ⟨_,e,rfl⟩ F.entry_list_pop (F.args_list_pop_2 _ _)
  (MeetsSeq.list_pop_at l its.toArray n i t k w (fitsIndex_both h1 h2) (by rw[Lv,<- hl];exact hk) (by rw[<- Array.getElem?_toList];exact hw) (by rw[Lv];lia)) ⟨e,?_⟩
 refine⟨y,_,I.lset (its':=its.eraseIdx k) hH e ?_ (r.eraseIdx k) ?_,rw',q⟩
 ·show its.toArray.eraseIdxIfInBounds k=(its.eraseIdx k).toArray;rw[List.eraseIdxIfInBounds_toArray]
 ·have:=lq xs k
  lia
noncomputable def HZ:R2:=λx y H Q=>∃l b xs zs,x=.ref l/\y=.ref b/\H l=NW (.lst xs)/\H b=NW (.lst zs)/\xs.length+zs.length<=sizeLine/\∀p,H p=NX->Q (.ref p) (upd H p (.lst (xs++zs)))
theorem Bt:iy X (binaryOp .Add) HZ:=by
 intro pins s σ H x y v u Q I rx ry h;obtain⟨l,b,xs,zs,rfl,rfl,hH,hB,hz,q⟩:=h;cases rx;cases ry;obtain⟨z,its,n,r,hl,e⟩:=I.lstM hH;obtain⟨z2,its2,n2,r2,hl2,e2⟩:=I.lstM hB;refine PySem.P.add_list e e2 ?_ (by rw[Lv,Lv];lia);have ea:its.toArray++its2.toArray=(its++its2).toArray:=by simp
 rw[ea];exact⟨.ref _,_,I.lnew (t':=s.toks) (r.append r2) (by rw[LZ];lia),rfl,q _ I.fresh⟩
end
section
variable {prog:N8} {w:Oa} {A:Od} {E:N1->N3->Prop} {s:N3}
end
section
variable {X:Cx}
end
end L2
namespace Att
open PySem PySem.W PySem.Calls PyProof.Rows
theorem ji:∀(ns:List Int) (vs:List N1),WellAll P h vs (ns.map WData.int)->IntsAre vs ns:=by
 intro ns
 induction ns with
 |nil=>
  intro vs w;rw[MN] at w;cases w;exact .nil
 |cons n ns ih=>
  intro vs w;rw[LJ] at w
  cases w with
  |cons a b=>
   cases a;exact .cons _ _ (ih _ b)
theorem sS{l:OpenLaw}{n:Nat}(hn:l.most=NW n){P:Params}{h:Oc}{args:List WData}{vals:List N1}
  (hpre:l.row.toRowW.claim.pre args=NY) (hwl:WellAll P h vals args) :
  ∃a vs ns,vals=[Value.ref a]/\args=[WData.list (ns.map WData.int)]/\h.get? a=NW { cls:=.type "list",data:=.seq vs.toArray }/\IntsAre vs ns/\ns.length<=n:=by
 have hsh:WShape.hasAll [] args [.list .int]=NY:=(pre_splitW hpre).1;have hc:l.pre.holds [] { args:=args }=NY:=(pre_splitW hpre).2;obtain⟨d,r,rfl,h1,h2⟩:=hasAllW_cons hsh;obtain rfl:=hasAllW_nil h2;obtain⟨xs,rfl,h3⟩:=hasW_list h1;obtain⟨ns,rfl⟩:=items_int h3
 have hlen:ns.length<=n:=by
  unfold OpenLaw.pre at hc
  have h4:(WTm.not (.lt (.lit (.int (n:Int))) (.len (.arg 0)))).holds [] { args:=[.list (ns.map .int)] }=NY:=by
   have h4:=(holds_andW hc).1;rw[hn] at h4;exact h4
  have h5:=condW_of h4 (w_not (w_lt w_lit (w_len_list (w_arg rfl))));rw[Li] at h5;refine Nat.le_of_not_lt λq=>?_;have q':(n:Int)<((ns.length:Nat):Int):=by lia
  first
   |(rw[decide_eq_true q'] at h5;exact absurd h5 (by decide))
   |(simp at h5;lia)
 cases hwl with
 |cons w1 w2=>
  cases w2
  cases w1 with
  |list ho hall=>exact⟨_,_,ns,rfl,rfl,ho,ji ns _ hall,hlen⟩
theorem sT(l:OpenLaw)(args:List WData):l.row.toRowW.claim.post args (.bool NY) args=NY:=
 postW_of (r:=l.row.toRowW) (X:=(NY==NY))
  (show WShape.has [] (.bool NY) .bool=NY by first|rfl|decide|simp[WShape.has,WShape.arms,WShape.armsAll])
  (show(WTm.eq .res (.lit (.bool NY))).value [] { args:=args,res:=NW (.bool NY),after:=args }=NW (.bool (NY==NY)) from w_eq_bool (w_res rfl) w_lit) rfl
theorem nG{l:OpenLaw}{n:Nat}{YP:Oa->Oc->Prop}{d:DefRec}(hn:l.most=NW n)(hdf:d.params.defaults=[])(call:∀(w:Oa) (s₀ s₁:N3) (mg mb:Str->Option N1) (fa:N2) (o:Obj) (pm cd doc:N1) (a:N2) (vs:List N1) (ns:List Int),
   Ground q loose [] XP w s₀ mg mb s₁.heap->YP w s₁.heap->
   s₁.heap.get? fa=NW o->o.data=.func (docDef d.name d.params d.body d.scope pm cd doc)->s₁.heap.CodeRec cd d.name->mg d.name=NW (.ref fa)->
   s₁.heap.get? a=NW { cls:=.type "list",data:=.seq vs.toArray }->IntsAre vs ns->ns.length<=n->s₁.gens=#[]->
   codeAny (N6 l.prog w) callerA (.call (.ref fa) ⟨[.ref a],[]⟩) (λr s'=>r=.ok (.ret (.bool NY))/\OldK s₁.heap s'.heap/\s'.os=s₁.os/\AllBare s'.gens) s₁) :
  WalkO q loose XP YP l.row.toRowW d [] (λf vs=>PySem.call f vs):=by
 intro w s₀ s₁ mg mb G Y fa o pm cd doc dV kV ho hd hcd hD hmg hg args vals as hpre hlay hrd hwl hlo;obtain rfl:dV=.none:=Dflts.none hD hdf;obtain rfl:kV=.none:=Dflts.noKw hD;obtain⟨a,vs,ns,rfl,rfl,hobj,hints,hlen⟩:=sS hn hpre hwl;refine enter_call (codeAny_mono (call w s₀ s₁ mg mb fa o pm cd doc a vs ns G Y ho (fd_plain hd) hcd hmg hobj hints hlen hg) λr s' hq=>?_);obtain⟨rfl,h2,h3,h4⟩:=hq
 exact⟨.inl ⟨.bool NY,.bool NY,[],rfl,λ_=>rfl,.bool NY,sT l _,λ_=>⟨List.Pairwise.nil,λ_ hm=>(nomatch hm)⟩⟩,h2,h3,h4⟩
section
variable {prog:N8} {w:Oa} {A:Od} {E:N1->N3->Prop} {s:N3} {K:Frag}
end
end Att
namespace L2
open PySem PySem.Spec PyProof.Rows
theorem lr:∀{vs:List N1} {ns:List Int},IntsAre vs ns->Vals (ns.map V.int) vs
 |_,_,.nil=>.nil
 |_,_,.cons n t h=>.cons ⟨t,rfl⟩ (lr h)
noncomputable def Bu(H:Hp):Prop:=∀b,H b=NX\/∃o xs,H b=NW (.frz o (.lst xs))
theorem uI{K:Lh}{mg mb:Str->Option N1}{k:Nat}{x:Str}{s₁:N3}{vs:List N1}{ns:List Int}(KX:K.In s₁.heap)(hns:s₁.heap.Ns Oh mg)(hb:s₁.heap.Ns builtinsNs mb)(hbb:∀x:Str,x≠"__name__"->mb x=bootBuiltins x)(hlim:s₁.heap.NoLimit)(hg:s₁.gens=#[])(ha:s₁.heap.get? a=NW { cls:=.type "list",data:=.seq vs.toArray })(hi:IntsAre vs ns)(hl:ns.length<=sizeLine)(hr:Room k callerA)(F:∀base:Oc,K.In base->base.Ns Oh mg->FnOk P w K mg base CX k fa fd [x] sp)(hbind:∀(s:N3) (u:N1),BindsTo s fd ⟨[u],[]⟩ [(x,u)])(hsp:∀H:Hp,Bu H->SqL K H a (ns.map V.int)->sp [.ref a] H (λv _=>v=.bl NY) λ_ _ _=>False)(hCX:∀H e s',CX [] H s₁ (λ_ _ _=>False) e s'->False) :
  codeAny (N6 P w) callerA (.call (.ref fa) ⟨[.ref a],[]⟩) (λr s'=>r=.ok (.ret (.bool NY))/\OldK s₁.heap s'.heap/\s'.os=s₁.os/\AllBare s'.gens) s₁:=by
 have rv:=lr hi;have lenV:=hi.length
 -- from an abstract heap in which nothing but the script may be tracked
 have core:∀H:Hp,Bu H->SqL K H a (ns.map V.int)->HOk P w H s₁.heap->(∀b,H b≠NX->b=a)->(H a≠NX->K.lookup a=NX)->
   codeAny (N6 P w) callerA (.call (.ref fa) ⟨[.ref a],[]⟩) (λr s'=>r=.ok (.ret (.bool NY))/\OldK s₁.heap s'.heap/\s'.os=s₁.os/\AllBare s'.gens) s₁:=by
  intro H hO hS hok hA hK;have base_of:∀{b:N2} {o:Obj},s₁.heap.get? b=NW o->H b=NX->(l5 s₁.heap H).get? b=NW o:=λe n=>uf e n
  have noA:∀{b:N2} {o:Obj} {es:Array DictEntry} {ep:Nat},s₁.heap.get? b=NW o->o.data=.dict es ep->H b=NX:=λ{b o es ep} e d=>by
   cases q:H b with
   |none=>rfl
   |some u=>
    have e':b=a:=hA b (by rw[q];simp);subst e';rw[ha] at e;cases e;have d':Data.seq vs.toArray _=Data.dict es ep:=d;cases d'
  have eJ:∀{b:N2} {m:Str->Option N1},s₁.heap.Ns b m->(l5 s₁.heap H).Ns b m:=λ{b m} ⟨o,es,ep,e,d,r⟩=>⟨o,es,ep,base_of e (noA e d),d,r⟩
  have hKb:K.In (l5 s₁.heap H):=λb o e=>base_of (KX b o e) (by
   cases q:H b with
   |none=>rfl
   |some u=>
    have e':b=a:=hA b (by rw[q];simp);subst e';rw[hK (by rw[q];simp)] at e;cases e)
  have hM:Mod K mg (l5 s₁.heap H):=⟨hKb,eJ hns,⟨mb,eJ hb,hbb⟩,let ⟨mc,h1,h2⟩:=hlim;⟨mc,eJ h1,h2⟩⟩;have e0:xL P w K mg (l5 s₁.heap H) callerA [] s₁ H:=⟨rfl,hM,λb o e=>xA e,Nat.le_of_eq (sH _ _),trivial,λb hb=>absurd (show b∈([]:List N2) from hb) (by simp),hok,.of_eq hg⟩;refine codeAny_mono ((F _ hKb (eJ hns)).run callerA [] s₁ H ⟨[.ref a],[]⟩ [.ref a] [.ref a] _ _ hr e0 (hbind s₁ (.ref a)) (.cons rfl .nil) (hsp H hO hS)) λr s' h=>?_
  cases r with
  |error e=>exact(hCX H e s' h).elim
  |ok fl=>
   cases fl with
   |next=>exact False.elim h
   |brk=>exact False.elim h
   |cont=>exact False.elim h
   |ret u=>
    obtain⟨v,H',os,bare,un,hok',r',q⟩:=h;have q':v=.bl NY:=q;subst q';obtain rfl:u=Value.bool NY:=r';refine⟨rfl,OldK.of_keep λb o e=>?_,os,bare⟩
    cases q:H b with
    |none=>exact un.keep b o e q (by intro z;exact absurd (show b∈([]:List N2) from z) (by simp)) (by simp)
    |some u=>
     rcases hO b with z|⟨ob,xs,z⟩
     ·rw[q] at z;cases z
     ·have z2:=un.frzs b ob _ z;obtain⟨e1,_⟩:=hok b _ z;obtain⟨e2,_⟩:=hok' b _ z2;rw[e] at e1;cases e1;exact e2
 cases hk:K.lookup a with
 |some o=>
  -- the script is one of the module's own objects
  have e:=KX a o hk;rw[ha] at e;cases e;refine core (λ_=>NX) (λ_=>.inl rfl) (.inr ⟨_,vs.toArray,_,hk,rfl,rfl,rfl,by rw[Lv,lenV];exact hl,by simpa using rv⟩) (λb u z=>by have z':(NX:Option HO)=NW u:=z;cases z') (λb z=>absurd rfl z) λz=>absurd rfl z
 |none=>
  refine core (λb=>if b=a then NW (.frz { cls:=.type "list",data:=.seq vs.toArray } (.lst (ns.map V.int))) else NX) (λb=>?_) (.inl (.inr ⟨{ cls:=.type "list",data:=.seq vs.toArray },if_pos rfl⟩)) (λb u z=>?_) (λb z=>?_) λ_=>hk
  ·by_cases hb:b=a
   ·exact .inr ⟨_,_,if_pos hb⟩
   ·exact .inl (if_neg hb)
  ·by_cases hb:b=a
   ·have z':=(if_pos hb).symm.trans z;cases z';subst hb;exact⟨ha,by rw[Li];exact hl,vs,_,rv,ha⟩
   ·have z':=(if_neg hb).symm.trans z;cases z'
  ·by_cases hb:b=a
   ·exact hb
   ·exact absurd (if_neg hb) z
end L2
namespace L2
open PySem PySem.Spec PyProof.Rows
theorem xO{l:PySem.W.OpenLaw}{n k:Nat}{YP:Oa->Oc->Prop}{d:DefRec}{K:Params->Lh}{CX:Oa->sP}{sp:Oa->Sp}{x:Str}(hn:l.most=NW n)(hn2:n<=sizeLine)(hdf:d.params.defaults=[])(hr:Room k callerA)(hY:∀(w:Oa) (h:Oc),YP w h->(K w.params).In h)(F:∀(w:Oa) (mg:Str->Option N1) (fa:N2) (h:Oc),(K w.params).In h->h.Ns Oh mg->mg d.name=NW (.ref fa)->
   ∃fd:On,(∀(s:N3) (u:N1),BindsTo s fd ⟨[u],[]⟩ [(x,u)])/\
    ∀base:Oc,(K w.params).In base->base.Ns Oh mg->FnOk l.prog w (K w.params) mg base (CX w) k fa fd [x] (sp w))(hsp:∀(w:Oa) (H:Hp) (a:N2) (ns:List Int),ns.length<=n->Bu H->SqL (K w.params) H a (ns.map V.int)->sp w [.ref a] H (λv _=>v=.bl NY) λ_ _ _=>False)(hCX:∀(w:Oa) (H:Hp) (s:N3) (e:N1) (s':N3),CX w [] H s (λ_ _ _=>False) e s'->False) :
  PySem.W.WalkO q loose XP YP l.row.toRowW d [] (λf vs=>PySem.call f vs):=by
 refine Att.nG hn hdf λw s₀ s₁ mg mb fa o pm cd doc a vs ns G Y ho hd hcd hmg hobj hints hlen hg=>?_;have KX:=hY w _ Y;obtain⟨fd,hb,hF⟩:=F w mg fa _ KX G.T.g hmg;exact uI KX G.T.g G.T.b G.T.builtins G.T.nolimit hg hobj hints (LM hlen hn2) hr hF hb (λH hO hS=>hsp w H a ns hlen hO hS) λH e s'=>hCX w H s₁ e s'
end L2
namespace L2
open PySem PySem.Spec PyProof.Rows
noncomputable def dP(s:N9):Arguments:=match s with
 |.FunctionDef _ a _ _ _ _ _ _ _ _=>a
 |_=>{ posonlyargs:=[],args:=[],vararg:=NX,kwonlyargs:=[],kw_defaults:=[],kwarg:=NX,defaults:=[] }
noncomputable def bA(s:N9):List N9:=match s with
 |.FunctionDef _ _ b _ _ _ _ _ _ _=>b
 |_=>[]
noncomputable def ah(s:N9):Of:=match s with
 |.FunctionDef _ _ _ _ _ _ sc _ _ _=>sc
 |_=>{ kind:=.function,names:=[],isGenerator:=NZ,isCoroutine:=NZ }
noncomputable abbrev oW:sP:=λ_ _ _ _ _ _=>False
noncomputable abbrev E0:XK:=λ_ _ _=>False
theorem uJ:mh oW X E0:=λ_ _ _ _ _ _ _ h=>h.elim
structure Fun(K:Lh)(x qual:Str)(st:Stmt)(f:Addr)(fd:FuncData):Prop where
 ex:∃(oc:N1) (od:Option N2) (kV doc pm:N1) (an:Option N2) (cdv ct:N1) (osl:Array (Option N1)),
  fd=Mm x qual (dP st) (bA st) (ah st) .none kV doc pm an cdv ct/\K.lookup f=NW ⟨oc,od,.func fd,osl⟩/\M0 K cdv qual=NY
 kp:L8 K (.ref f)=NY
section
variable {P:N8} {w:Oa} {K:Lh} {mg:Str->Option N1} {base:Oc}
theorem Fun.ok{x qual:Str}{st:N9}{f:N2}{fd:On}{N ps:List Str}{k:Nat}{sp:Sp}(F:Fun K x qual st f fd)(S:aw N ps (ah st))(len:∀vs H Q E,sp vs H Q E->vs.length=ps.length)
  (hbody:∀(cdv:N1) (A:Od) (outer:List Env) (s:N3) (H:Hp) (vs:List V) (Q:VK) (E:XK),Room k (A.deeper (envOfC qual (ah st) s.heap.objs.size f cdv))->sp vs H Q E->
   ∃t,PSs (mi oW P w K mg base N qual (ah st) f cdv A outer s H E).nox (bA st) t/\t { nx:=λ_ H'=>Q .non H',rt:=Q } (cr N vs) H):FnOk P w K mg base oW (k+1) f fd ps sp:=by
 obtain⟨oc,od,kV,doc,pm,an,cdv,ct,osl,rfl,lk,hcd⟩:=F.ex;refine Ep lk hcd S len λA outer s H vs Q E hr hsp=>?_;obtain⟨t,h,q⟩:=hbody cdv A outer s H vs Q E hr hsp;exact⟨t,h.nox,q⟩
theorem Fun.binds{x qual:Str}{st:N9}{f:N2}{fd:On}{ps:List Str}(F:Fun K x qual st f fd)
  (h:∀(kV doc pm:N1) (an:Option N2) (cdv ct:N1) (us:List N1),us.length=ps.length->bindArgs (Mm x qual (dP st) (bA st) (ah st) .none kV doc pm an cdv ct) ⟨us,[]⟩=pure (ps.zip us)):Binds K fd ps []:=by
 obtain⟨oc,od,kV,doc,pm,an,cdv,ct,osl,rfl,lk,hcd⟩:=F.ex;exact .all (h kV doc pm an cdv ct)
theorem Bv{x qual:Str}{st:N9}{f:N2}{oc:N1}{od an:Option N2}{osl:Array (Option N1)}{kV doc pm cdv ct:N1}(l:K.lookup f=NW ⟨oc,od,.func (Mm x qual (dP st) (bA st) (ah st) .none kV doc pm an cdv ct),osl⟩)
  (c:M0 K cdv qual=NY) (k:L8 K (.ref f)=NY):Fun K x qual st f (Mm x qual (dP st) (bA st) (ah st) .none kV doc pm an cdv ct):=⟨⟨oc,od,kV,doc,pm,an,cdv,ct,osl,rfl,l,c⟩,k⟩
end
section
variable {X:Cx}
end
theorem uK{A B:Prop}(h:B):if NZ=NY then A else B:=by
 rw[if_neg Mj];exact h
theorem uL{A B:Prop}(h:A):if NY=NY then A else B:=by
 rw[if_pos rfl];exact h
noncomputable def Same(H H':Hp):Prop:=∀b o,H b=NW o->H' b=NW o
theorem Same.refl(H:Hp):Same H H:=λ_ _ h=>h
theorem Same.trans(a:Same H H1)(b:Same H1 H2):Same H H2:=λc o h=>b c o (a c o h)
theorem Same.free{H H':Hp}(e:Same H H'){l:N2}(h:H' l=Option.none):H l=Option.none:=by
 cases q:H l with
 |none=>rfl
 |some o=>
  rw[e l o q] at h;cases h
end L2
namespace HT
open PySem PySem.Spec PyProof.Rows
section
variable {prog:N8} {w:Oa} {A:Od} {E:N1->N3->Prop} {s:N3}
end
end HT
namespace L2
open PySem PySem.Spec PyProof.Rows
section
variable {X:Cx}
end
end L2
namespace L2
open PySem PySem.Spec PyProof.Rows
section
variable {κ:Type} [DecidableEq κ]
noncomputable def gR(kvs:List (κ×V))(k:κ):Option V:=(kvs.find? λkv=>decide (kv.1=k)).map (·.2)
noncomputable def di(kvs:List (κ×V))(k:κ)(v:V):List (κ×V):=
 if(kvs.any λkv=>decide (kv.1=k))=NY then kvs.map (λkv=>if kv.1=k then(kv.1,v) else kv) else kvs++[(k,v)]
theorem jK{p:κ×V}(e:p.1=k):gR (p::r) k=NW p.2:=by simp[gR,Mn,e]
theorem jL{p:κ×V}(e:¬p.1=k):gR (p::r) k=gR r k:=by simp[gR,Mn,e]
theorem nH(k:κ):∀kvs:List (κ×V),(kvs.any λkv=>decide (kv.1=k))=(gR kvs k).isSome
 |[]=>rfl
 |p::r=>by
  rw[ML];by_cases e:p.1=k
  ·simp only[jK e,decide_eq_true e,Bool.true_or,NA]
  ·rw[jL e,decide_eq_false e,Bool.false_or];exact nH k r
theorem i5(kvs:List (κ×V))(k:κ)(v:V):(di kvs k v).length<=kvs.length+1:=by
 unfold di;split
 ·rw[Li];lia
 ·rw[LZ,LW,Nk];lia
theorem RelO.isSome_eq{o:Option V}{u:Option N1}(r:RelO o u):o.isSome=u.isSome:=by
 cases o with
 |none=>cases u with
  |none=>rfl
  |some _=>exact(show False from r).elim
 |some _=>cases u with
  |none=>exact(show False from r).elim
  |some _=>rfl
theorem KV.val(r:KV kvs vs)(k:κ):RelO (gR kvs k) (valueAt vs k):=by
 unfold KV at r
 induction r with
 |nil=>exact True.intro
 |@cons p q ps qs h t ih=>
  obtain⟨h1,h2⟩:=h;by_cases e:p.1=k
  ·have e':q.1=k:=h1.symm.trans e;have b:valueAt (q::qs) k=NW q.2:=by simp[valueAt,Mn,e']
   rw[jK e,b];exact h2
  ·have e':¬q.1=k:=λz=>e (h1.trans z);have b:valueAt (q::qs) k=valueAt qs k:=by simp[valueAt,Mn,e']
   rw[jL e,b];exact ih
theorem KV.any{kvs:List (κ×V)}{vs:List (κ×N1)}(r:KV kvs vs)(k:κ):(kvs.any λkv=>decide (kv.1=k))=vs.any λkv=>decide (kv.1=k):=by
 unfold KV at r
 induction r with
 |nil=>rfl
 |cons h t ih=>rw[ML,ML,ih,h.1]
theorem KV.repl{kvs:List (κ×V)}{vs:List (κ×N1)}(r:KV kvs vs)(k:κ){y:V}{u:N1}(ry:RelV y u) :
  KV (kvs.map λkv=>if kv.1=k then(kv.1,y) else kv) (vs.map λkv=>if kv.1=k then(kv.1,u) else kv):=by
 unfold KV at r⊢
 induction r with
 |nil=>exact .nil
 |@cons p q ps qs h t ih=>
  rw[LJ,LJ];refine .cons ?_ ih;obtain⟨h1,h2⟩:=h;by_cases e:p.1=k
  ·rw[if_pos e,if_pos (h1.symm.trans e)];exact⟨h1,ry⟩
  ·rw[if_neg e,if_neg (λz=>e (h1.trans z))];exact⟨h1,h2⟩
theorem KV.put(r:KV kvs vs)(k:κ){y:V}{u:N1}(ry:RelV y u):KV (di kvs k y) (stored vs k u):=by
 unfold di stored;rw[r.any k];by_cases e:(vs.any λkv=>decide (kv.1=k))=NY
 ·rw[if_pos e,if_pos e];exact r.repl k ry
 ·rw[if_neg e,if_neg e];exact Paired.snoc r ⟨rfl,ry⟩
theorem KV.length{kvs:List (κ×V)}{vs:List (κ×N1)}(r:KV kvs vs):kvs.length=vs.length:=Paired.length r
end
theorem nI(r:RelV (kV k) u):(bu P w).is k u=NY:=by
 cases k with
 |inl i=>obtain⟨t,e⟩:=(show ∃t,u=Value.int i t from r);subst e;exact nw P w i t
 |inr x=>obtain⟨t,e⟩:=(show ∃t,u=Value.str x t from r);subst e;exact ny P w x t
theorem lu:∀{ks:List aV} {us:List N1},Vals (ks.map kV) us->ItemsAre (bu P w) ks us
 |[],_,r=>by rw[MN] at r;cases r;exact .nil
 |k::ks,_,r=>by
  rw[LJ] at r
  cases r with
  |cons h t=>exact .cons (nI h) (lu t)
noncomputable abbrev KT(m:Nat)(H:Hp):List (List (aV ⊕ List aV)×V)->List (List (aV ⊕ List aV)×N2×N1)->Prop:=Paired λp q=>p.1=q.1/\TkAt H m p.1 q.2.1/\RelV p.2 q.2.2
theorem KT.val{m:Nat}(r:KT m H kvs xs)(k:List (aV ⊕ List aV)):RelO (gR kvs k) ((atKey xs k).map (·.2)):=by
 induction r with
 |nil=>exact True.intro
 |@cons p q ps qs h t ih=>
  obtain⟨h1,_,h2⟩:=h;by_cases e:p.1=k
  ·have e':q.1=k:=h1.symm.trans e;have b:atKey (q::qs) k=NW q.2:=by simp[atKey,Mn,e']
   rw[jK e,b];exact h2
  ·have e':¬q.1=k:=λz=>e (h1.trans z);have b:atKey (q::qs) k=atKey qs k:=by simp[atKey,Mn,e']
   rw[jL e,b];exact ih
theorem KT.repl{m:Nat}{kvs:List (List (aV ⊕ List aV)×V)}{xs:List (List (aV ⊕ List aV)×N2×N1)}(r:KT m H kvs xs)(k:List (aV ⊕ List aV)){y:V}{u:N1}(ry:RelV y u) :
  KT m H (kvs.map λkv=>if kv.1=k then(kv.1,y) else kv) (xs.map (putAt k u)):=by
 induction r with
 |nil=>exact .nil
 |@cons p q ps qs h t ih=>
  rw[LJ,LJ];refine .cons ?_ ih;obtain⟨h1,h2,h3⟩:=h;unfold putAt;by_cases e:p.1=k
  ·rw[if_pos e,if_pos (h1.symm.trans e)];exact⟨h1,h2,ry⟩
  ·rw[if_neg e,if_neg (λz=>e (h1.trans z))];exact⟨h1,h2,h3⟩
theorem KT.put{m:Nat}{H:Hp}{kvs:List (List (aV ⊕ List aV)×V)}{xs:List (List (aV ⊕ List aV)×N2×N1)}(r:KT m H kvs xs)(k:List (aV ⊕ List aV)){b:N2}{y:V}{u:N1}(hb:TkAt H m k b)(ry:RelV y u) :
  KT m H (di kvs k y) (storedH xs k b u):=by
 have e:(kvs.any λkv=>decide (kv.1=k))=(atKey xs k).isSome:=by
  rw[nH,(r.val k).isSome_eq,NL]
 unfold di storedH;rw[e];by_cases q:(atKey xs k).isSome=NY
 ·rw[if_pos q,if_pos q];exact r.repl k ry
 ·rw[if_neg q,if_neg q];exact Paired.snoc r ⟨rfl,hb,ry⟩
theorem KT.keeps{m:Nat}{H H':Hp}(r:KT m H kvs xs)(ht:∀b ys,H b=NW (.tup ys)->H' b=NW (.tup ys)):KT m H' kvs xs:=
 Paired.mapP r λ_ _ z=>⟨z.1,z.2.1.keep ht,z.2.2⟩
section
variable {P:N8} {w:Oa} {H:Hp} {h:Oc} {a:N2}
theorem Ai(ok:HOk P w H h)(e:Rd H a u):ObjOk P w H h a u:=e.ok ok
theorem qL{kvs:List (aV×V)}(ok:HOk P w H h)(e:Rd H a (.dK kvs)):kvs.length<=sizeLine/\(a==sysModules)=NZ/\∃vs,KV kvs vs/\h.DictOf (bu P w) a vs:=
 show ObjOk P w H h a (.dK kvs) from Ai ok e
theorem Ew{kvs:List (aV×V)}(ok:HOk P w H h)(e:H a=NW (.dK kvs)):kvs.length<=sizeLine/\(a==sysModules)=NZ/\∃vs,KV kvs vs/\h.DictOf (bu P w) a vs:=qL ok (.inl e)
theorem Bw{ks:List aV}(ok:HOk P w H h)(e:H a=NW (.tup (ks.map kV))):(tupleKind (bu P w)).is h ks a:=by
 obtain⟨_,its,r,o,h1,h2,n,h3⟩:=(show ObjOk P w H h a (.tup (ks.map kV)) from ok a _ e);exact⟨o,its.toArray,n,h1,h2,h3,by simpa using lu r⟩
theorem iC{A:Od}{m:Nat}(hu:A.units+9<cLine):(dD m (bu P w)).room A.in1:=by
 show A.units+1+8<cLine
 lia
theorem jM:∀{m:Nat} {ks:List (aV ⊕ List aV)} {vs:List V} {us:List N1},HOk P w H h->TkIts H m ks vs->Vals vs us->Its2 (bu P w) h m ks us
 |_,[],_,_,ok,r,v=>by cases(show _=[] from r);cases v;exact .nil
 |m,.inl k::xs,_,_,ok,r,v=>by
  obtain⟨r',rfl,z,t⟩:=r
  cases v with
  |cons h1 h2=>exact .key z (nI h1) (jM ok t h2)
 |m,.inr ks::xs,_,_,ok,r,v=>by
  obtain⟨b,r',rfl,z,g,t⟩:=r
  cases v with
  |@cons _ u _ _ h1 h2=>
   cases(show u=Value.ref b from h1);exact .tup z (Bw ok g) (jM ok t h2)
theorem gT{m:Nat}(ok:HOk P w H h)(e:TkAt H m ks a):(dD m (bu P w)).is h ks a:=by
 obtain⟨vs,g,r⟩:=e;obtain⟨_,its,q,o,h1,h2,n,h3⟩:=(show ObjOk P w H h a (.tup vs) from ok a _ g);exact⟨o,its.toArray,n,h1,h2,h3,by simpa using jM ok r q⟩
theorem qM{m ep:Nat}{kvs:List (List (aV ⊕ List aV)×V)}(ok:HOk P w H h)(e:Rd H a (.dT m ep kvs)):kvs.length<=sizeLine/\(a==sysModules)=NZ/\
  ∃xs,KT m H kvs xs/\h.DictOfH (dD m (bu P w)) a xs:=by
 obtain⟨z,y,xs,r,o,es,h1,h2,h3,h4,h5⟩:=(show ObjOk P w H h a (.dT m ep kvs) from Ai ok e);refine⟨z,y,xs,r,o,es,ep,h1,h2,h3,h4,λx hx=>?_,h5⟩
 have all:∀{l:List (List (aV ⊕ List aV)×V)} {n:List (List (aV ⊕ List aV)×N2×N1)},KT m H l n->∀x∈n,(dD m (bu P w)).is h x.1 x.2.1:=by
  intro l n q
  induction q with
  |nil=>intro x hx;exact nomatch hx
  |@cons p q ps qs hq t ih=>
   intro x hx;rcases Lq.mp hx with e|hx
   ·subst e;exact gT ok (by rw[<- hq.1];exact hq.2.1)
   ·exact ih x hx
 exact all r x hx
theorem Aj{m ep:Nat}{kvs:List (List (aV ⊕ List aV)×V)}(ok:HOk P w H h)(e:H a=NW (.dT m ep kvs)):kvs.length<=sizeLine/\(a==sysModules)=NZ/\
  ∃xs,KT m H kvs xs/\h.DictOfH (dD m (bu P w)) a xs:=qM ok (.inl e)
end
noncomputable def DGet(H:Hp)(a:N2)(y:V)(r:Option V):Prop:=
 (∃kvs k,Rd H a (.dK kvs)/\y=kV k/\r=gR kvs k)\/∃m ep kvs k b,Rd H a (.dT m ep kvs)/\y=.ref b/\TkAt H m k b/\r=gR kvs k
noncomputable def DPut(H:Hp)(a:N2)(y v:V)(F:Nat->Hp):Prop:=
 (∃kvs k,H a=NW (.dK kvs)/\y=kV k/\kvs.length<sizeLine/\F=λ_=>upd H a (.dK (di kvs k v)))\/
 ∃m ep kvs k b,H a=NW (.dT m ep kvs)/\y=.ref b/\TkAt H m k b/\kvs.length<sizeLine/\F=λe=>upd H a (.dT m e (di kvs k v))
theorem DGet.k{H:Hp}{a:N2}{kvs:List (aV×V)}{k:aV}(e:H a=NW (.dK kvs)):DGet H a (kV k) (gR kvs k):=.inl ⟨kvs,k,.inl e,rfl,rfl⟩
theorem DGet.t{H:Hp}{a b:N2}{m ep:Nat}{kvs:List (List (aV ⊕ List aV)×V)}{k:List (aV ⊕ List aV)}(e:H a=NW (.dT m ep kvs))(eb:TkAt H m k b):DGet H a (.ref b) (gR kvs k):=.inr ⟨m,ep,kvs,k,b,.inl e,rfl,eb,rfl⟩
theorem DPut.k{H:Hp}{a:N2}{kvs:List (aV×V)}{k:aV}{v:V}(e:H a=NW (.dK kvs))(hl:kvs.length<sizeLine):DPut H a (kV k) v λ_=>upd H a (.dK (di kvs k v)):=.inl ⟨kvs,k,e,rfl,hl,rfl⟩
theorem DPut.t{H:Hp}{a b:N2}{m ep:Nat}{kvs:List (List (aV ⊕ List aV)×V)}{k:List (aV ⊕ List aV)}{v:V}(e:H a=NW (.dT m ep kvs))(eb:TkAt H m k b)(hl:kvs.length<sizeLine) :
  DPut H a (.ref b) v λe=>upd H a (.dT m e (di kvs k v)):=.inr ⟨m,ep,kvs,k,b,e,rfl,eb,hl,rfl⟩
section
variable {X:Cx} {pins:List (N2×Obj)} {σ:St} {H:Hp} {s:N3} {a:N2} {y v:V} {u r:N1} {o:Option V} {A:Od} {E:N1->N3->Prop}
theorem Inv.big(I:Inv X pins σ H s):sysModules<s.heap.objs.size:=by
 have h:Oh<s.heap.objs.size:=(I.mod.glob.keeps I.bk).lt;exact MG (by decide) h
theorem sU{Q:N1->N3->Prop}(hu:A.units+9<cLine)(I:Inv X pins σ H s)(g:DGet H a y (NW v))(ry:RelV y u)(h:∀w' s',Inv X pins σ H s'->RelV v w'->Q w' s') :
  N5 (N6 X.prog X.w) A (getItem (.ref a) u) Q E s:=by
 rcases g with⟨kvs,k,e,ey,l⟩|⟨m,ep,kvs,k,b,e,ey,eb,l⟩
 ·subst ey;obtain⟨z,hd,vs,rel,dd⟩:=qL I.hok e;obtain⟨w',hw,rw'⟩:=RelO.some_of (v:=v) (o:=valueAt vs k) (by rw[l];exact rel.val k);exact wpAny_getItem_of (nI ry) dd.mapOf hw (h w' _ (I.tok _) rw')
 ·subst ey;cases(show u=Value.ref b from ry);obtain⟨z,hd,xs,rel,dd⟩:=qM I.hok e;obtain⟨w',hw,rw'⟩:=RelO.some_of (v:=v) (o:=(atKey xs k).map (·.2)) (by rw[l];exact rel.val k);obtain⟨p,hp,hp2⟩:=Option.map_eq_some_iff.mp hw;refine wpAny_getItem_heap (iC hu) (gT I.hok eb) dd hp ?_;rw[hp2];exact h w' _ (I.tok _) rw'
theorem xP{Q:N1->N3->Prop}(hu:A.units+9<cLine)(I:Inv X pins σ H s)(g:DGet H a y o)(ry:RelV y u)(h:∀s',Inv X pins σ H s'->Q (.bool (!o.isSome)) s') :
  N5 (N6 X.prog X.w) A (compareOp .NotIn u (.ref a)) Q E s:=by
 rcases g with⟨kvs,k,e,ey,l⟩|⟨m,ep,kvs,k,b,e,ey,eb,l⟩
 ·subst ey;obtain⟨z,hd,vs,rel,dd⟩:=qL I.hok e;refine wpAny_notIn_of (nI ry) hd dd.mapOf ?_;rw[<- (rel.val k).isSome_eq,<- l];exact h _ (I.tok _)
 ·subst ey;cases(show u=Value.ref b from ry);obtain⟨z,hd,xs,rel,dd⟩:=qM I.hok e;refine wpAny_notIn_heap (iC hu) (gT I.hok eb) hd dd ?_;have q:=(rel.val k).isSome_eq;rw[NL] at q;rw[<- q,<- l];exact h _ (I.tok _)
theorem mx{h':Oc}{t':Nat}(I:Inv X pins σ H s)(mu:D7 (H a))(hs:Heap.SameBut a s.heap h')(he:∃q,h'.get? a=NW q)(new:ObjOk X.prog X.w (upd H a ob) h' a ob) :
  Inv X pins σ (upd H a ob) { s with heap:=h',toks:=t' }:=
 I.write (x:=a) (e:=a) mu (.inl rfl) (λb q hb z=>(hs.2 b hb).trans z) he new
theorem Bx{h':Oc}{kvs:List (aV×V)}(z:kvs.length<=sizeLine)(hd:(a==sysModules)=NZ)(rel:KV kvs vs)(dd:h'.DictOf (bu P w) a vs) :
  ObjOk P w H' h' a (.dK kvs):=⟨z,hd,vs,rel,dd⟩
theorem sV{F:Nat->Hp}{Q:Unit->N3->Prop}(hu:A.units+9<cLine)(I:Inv X pins σ H s)(g:DPut H a y v F)(ry:RelV y u)(rv:RelV v r)(h:∀e s',Inv X pins σ (F e) s'->Q () s') :
  N5 (N6 X.prog X.w) A (setItem (.ref a) u r) Q E s:=by
 rcases g with⟨kvs,k,e,ey,l,eH⟩|⟨m,ep,kvs,k,b,e,ey,eb,l,eH⟩
 ·subst ey eH;obtain⟨z,hd,vs,rel,dd⟩:=Ew I.hok e;have hz:vs.length<=sizeLine:=by rw[<- rel.length];exact z
  have hl:(di kvs k v).length<=sizeLine:=by have:=i5 kvs k v;lia
  refine wpAny_setItem_pairs (hsz:=hz) (nI ry) dd λh' dd' hs=>h 0 _ ?_;have he:∃q,h'.get? a=NW q:=let ⟨q,_,_,hq,_⟩:=dd';⟨q,hq⟩;exact mx I (by rw[e];exact True.intro) hs he (Bx hl hd (rel.put k rv) dd')
 ·subst ey eH;cases(show u=Value.ref b from ry);obtain⟨z,hd,xs,rel,dd⟩:=Aj I.hok e;have hz:xs.length<=sizeLine:=by rw[<- Paired.length rel];exact z
  have hl:(di kvs k v).length<=sizeLine:=by have:=i5 kvs k v;lia
  refine wpAny_setItem_heap (hsz:=hz) (iC hu) (gT I.hok eb) dd λh' dd' hs=>?_;obtain⟨q,es,ep,hq,h2,h3,h4,_,h5⟩:=dd';refine h ep _ ?_;refine mx I (by rw[e];exact True.intro) hs ⟨q,hq⟩ ⟨hl,hd,_,(rel.put k eb rv).keeps λc ys ec=>?_,q,es,hq,h2,h3,h4,h5⟩
  rw[al (Aa ec e (λz=>nomatch z))]
  exact ec
end
section
variable {X:Cx} {pins:List (N2×Obj)} {σ:St} {H:Hp} {s:N3} {a:N2} {kvs:List (aV×V)} {k:aV} {u:N1} {A:Od} {E:N1->N3->Prop}
end
noncomputable def Ex(i:N0):Prop:=∀ov iv,subscripted i NZ ov iv=operate [ov,iv] (getItem ov iv)
theorem xQ{T id:String}(hl:typeLookup (.type T) "__getitem__" = pure (NW (.builtin id)))(hs:Ex slice)(h:N5 (N6 prog w) A (eval value env) (λo s₁=>N5 (N6 prog w) A (eval slice env) (λi s₂=>s₂.TypeIs o T/\N5 (N6 prog w) A (getItem o i) Q E s₂) E s₁) E s) :
  N5 (N6 prog w) A (eval (.Subscript value slice pos) env) Q E s:=by
 refine Subscript_ (wpAny_mono h (λo s₁ h₁=>wpAny_mono h₁ (λi s₂ h₂=>?_) λ_ _ x=>x) λ_ _ x=>x);obtain⟨hT,h₂⟩:=h₂;unfold subscriptTail;refine N4 ?_;rw[getitemInPython_of_ne hT.not_modules];refine N4 (wpAny_specialOf hT hl ?_)
 have fin:N5 (N6 prog w) A (subscripted slice NZ o i) (λr s₃=>N5 (N6 prog w) A (letTemporaryGo value o r >>= λ_=>pure r) Q E s₃) E s₂:=by
  rw[hs o i];exact wpAny_operating (wpAny_mono h₂ (λr s₃ h₃=>N4 (wpAny_letTemporaryGo (N7 h₃))) λ_ _ x=>x)
 first
  |exact N7 (N4 fin)
  |exact N4 (N7 (N4 fin))
  |exact N4 fin
theorem nJ{s:N3}(I:Inv X pins σ H s)(g:DGet H a y o):s.TypeIs (.ref a) "dict":=by
 rcases g with⟨kvs,k,e,_,_⟩|⟨m,ep,kvs,k,b,e,_,_,_⟩
 ·obtain⟨_,_,vs,_,dd⟩:=qL I.hok e;exact dd.typeIs
 ·obtain⟨_,_,xs,_,dd⟩:=qM I.hok e;exact dd.typeIs
noncomputable def Ey(td ty:TE):TE:=λσ H Q=>td σ H λx H1=>ty σ H1 λy H2=>∃a v,x=.ref a/\DGet H2 a y (NW v)/\Q v H2
noncomputable def Ez(td ty tv:TE):TS:=λD σ H=>tv σ H λv H1=>td σ H1 λx H2=>ty σ H2 λy H3=>∃a F,x=.ref a/\DPut H3 a y v F/\∀e,D.nx σ (F e)
section
variable {X:Cx} {o i e value:N0} {pos pos' tpos:Pos} {td ty tv:TE}
theorem my(hu:X.A.units+9<cLine)(ho:PE X o td)(hi:PE X i ty)(hs:Ex i):PE X (.Subscript o i pos) (Ey td ty):=by
 intro pins s σ H Q I h;refine xQ PySem.F.slot_dict_getitem.lookup hs (bB (ho pins s σ H _ I h) λu s1 ⟨x,H1,I1,rx,q1⟩=>bB (hi pins s1 σ H1 _ I1 q1) λiv s2 ⟨y,H2,I2,ry,a,v,ex,g,q2⟩=>?_);subst ex;obtain rfl:u=Value.ref a:=rx;exact⟨nJ I2 g,sU hu I2 g ry λw' s3 I3 rw'=>⟨v,H2,I3,rw',q2⟩⟩
theorem xR(hu:X.A.units+9<cLine)(ho:PE X o td)(hi:PE X i ty)(hv:PE X value tv)(hs:swapsWith value (NW (.Subscript o i pos')) pos.line X.env=pure NZ) :
  PS X (.Assign [.Subscript o i pos'] value pos) (Ez td ty tv):=by
 intro pins s σ H D I h;refine wpAny_Assign_Subscript (bB (hv pins s σ H _ I h) λr s1 ⟨v,H1,I1,rv,q1⟩=>bB (ho pins s1 σ H1 _ I1 q1) λu s2 ⟨x,H2,I2,rx,q2⟩=>bB (hi pins s2 σ H2 _ I2 q2) λiv s3 ⟨y,H3,I3,ry,a,F,ex,g,q3⟩=>?_) hs;subst ex;obtain rfl:u=Value.ref a:=rx;exact sV hu I3 g ry rv λe s4 I4=>⟨σ,F e,I4,q3 e⟩
end
theorem uM(h:Oc)(hb:sysModules<h.objs.size):ObjOk P w H (h.push { cls:=.type "dict",data:=.dict #[] }) h.objs.size (.dK []):=
 ⟨LF _,beq_eq_false_iff_ne.mpr (Ne.symm (LG hb)),[],.nil,Heap.DictOf.new h⟩
theorem nK{m:Nat}(h:Oc)(hb:sysModules<h.objs.size):ObjOk P w H (h.push { cls:=.type "dict",data:=.dict #[] }) h.objs.size (.dT m 0 []):=
 ⟨LF _,beq_eq_false_iff_ne.mpr (Ne.symm (LG hb)),[],.nil,_,#[],LL _ rfl,⟨rfl,rfl,rfl⟩,rfl,rfl,List.nodup_nil⟩
noncomputable def By:TE:=λ_ H Q=>∀p,H p=NX->Q (.ref p) (upd H p (.dK []))
noncomputable def Bz(m:Nat):TE:=λ_ H Q=>∀p,H p=NX->Q (.ref p) (upd H p (.dT m 0 []))
section
variable {X:Cx} {pos:Pos}
theorem uN:PE X (.Dict [] [] pos) By:=λpins s σ H Q I h=>
 wpAny_Dict_empty ⟨.ref s.heap.objs.size,_,I.laid (a:=s.heap.objs.size) (o:=.dK []) (t':=s.toks) (λ_ _ q=>Ls _ q) (Lo _) (uM s.heap I.big),rfl,h _ (I.hok.fresh (Lo _))⟩
theorem uO{m:Nat}:PE X (.Dict [] [] pos) (Bz m):=λpins s σ H Q I h=>
 wpAny_Dict_empty ⟨.ref s.heap.objs.size,_,I.laid (a:=s.heap.objs.size) (o:=.dT m 0 []) (t':=s.toks) (λ_ _ q=>Ls _ q) (Lo _) (nK s.heap I.big),rfl,h _ (I.hok.fresh (Lo _))⟩
end
structure M1(X:Cx)(o:Expr)(m:Str)(apos:Pos)(e:Expr)(cpos:Pos):Prop where
 base:attributeBase o m X.env (eval o X.env)=eval o X.env
 few:((backTo cpos (Ob [e] X.env)).all (λx=>!x.1)&&(backToKw cpos (keywordEach [] X.env)).all (λx=>x.1.isSome)
  && decide (([e]:List N0).length+([]:List Keyword).length+(if([]:List Keyword).isEmpty then 0 else 1)<30))=NY
 line:(apos.endLine==cpos.line)=NY
 trees:backTo cpos (Ob [e] X.env)=[(NZ,eval e X.env)]
structure M2(X:Cx)(o:Expr)(m:Str)(apos:Pos)(e f:Expr)(cpos:Pos):Prop where
 base:attributeBase o m X.env (eval o X.env)=eval o X.env
 few:((backTo cpos (Ob [e,f] X.env)).all (λx=>!x.1)&&(backToKw cpos (keywordEach [] X.env)).all (λx=>x.1.isSome)
  && decide (([e,f]:List N0).length+([]:List Keyword).length+(if([]:List Keyword).isEmpty then 0 else 1)<30))=NY
 line:(apos.endLine==cpos.line)=NY
 trees:backTo cpos (Ob [e,f] X.env)=[(NZ,eval e X.env),(NZ,eval f X.env)]
section
variable {X:Cx} {pins:List (N2×Obj)} {σ:St} {H:Hp} {s:N3} {a:N2} {y d:V} {u r:N1} {o:Option V} {A:Od} {E:N1->N3->Prop}
end
section
variable {X:Cx} {o e f:N0} {apos cpos:Pos} {td ty tx:TE}
end
section
variable {X:Cx} {pins:List (N2×Obj)} {σ:St} {H:Hp} {s:N3} {a:N2} {kvs:List (aV×V)} {A:Od} {E:N1->N3->Prop}
end
section
variable {X:Cx} {pins:List (N2×Obj)} {σ:St} {H:Hp} {s:N3} {a:N2} {y:V} {u:N1} {A:Od} {E:N1->N3->Prop}
end
end L2
namespace L2
open PySem PySem.Spec PyProof.Rows
section
variable {prog:N8} {w:Oa} {A:Od} {E:N1->N3->Prop} {s:N3}
theorem uP{k v:N0}{Q:N1->N3->Prop}(h:N5 (N6 prog w) A (eval k env) (λkv s1=>N5 (N6 prog w) A (eval v env) (λvv s2=>N5 (N6 prog w) A (dictSet s.heap.objs.size kv vv) (λ_ s3=>Q (.ref s.heap.objs.size) s3) E s2) E s1) E { s with heap:=s.heap.push { cls:=.type "dict",data:=.dict #[] } }) :
  N5 (N6 prog w) A (eval (.Dict [NW k] [v] pos) env) Q E s:=by
 rw[arm_eval_Dict,zip_pairTrees [NW k] [v] env pos rfl rfl,dictDisplay_pairs _ (by simp[pairTrees]) (by simp[pairTrees])];refine N4 (wpAny_standAt (N4 ?_));unfold subDict;refine N4 (wpAny_alloc (N4 (Oq ?_)));rw[if_pos (by simp[pairTrees])];refine N4 (pairTrees_cons_walk (wpAny_mono h (λkv s1 h1=>wpAny_mono h1 (λvv s2 h2=>pairTrees_nil_walk (Oq ?_)) λ_ _ e=>e) λ_ _ e=>e));rw[NU];refine N4 (N4 (show N5 _ _ (dictSet s.heap.objs.size kv vv >>= λ_=>pure (ForInStep.yield PUnit.unit)) _ _ _ from N4 (wpAny_mono h2 (λ_ s3 q=>?_) λ_ _ e=>e)));refine N7 ?_;show N5 _ _ (forIn [] _ _) _ _ _;rw[List.forIn_nil];exact N7 (N7 (N7 (N7 q)))
end
noncomputable def EA(m:Nat)(tk tv:TE):TE:=λσ H Q=>∀p,H p=NX->tk σ (upd H p (.dT m 0 [])) λx H1=>tv σ H1 λy H2=>H2 p=NW (.dT m 0 [])/\∃k b,x=.ref b/\TkAt H2 m k b/\∀ep,Q (.ref p) (upd H2 p (.dT m ep [(k,y)]))
theorem xS{X:Cx}{k v:N0}{m:Nat}(hu:X.A.units+8<cLine)(hk:PE X k tk)(hv:PE X v tv):PE X (.Dict [NW k] [v] pos) (EA m tk tv):=by
 intro pins s σ H Q I h;have I1:=I.laid (a:=s.heap.objs.size) (o:=.dT m 0 []) (h':=s.heap.push { cls:=.type "dict",data:=.dict #[] }) (t':=s.toks) (λ_ _ q=>Ls _ q) (Lo _) (nK s.heap I.big);refine uP (bB (hk pins _ σ _ _ I1 (h _ (I.hok.fresh (Lo _)))) λkv s1 ⟨x,H1,I2,rx,q1⟩=>bB (hv pins s1 σ H1 _ I2 q1) λvv s2 ⟨y,H2,I3,ry,hp,kk,b,ex,tk,q⟩=>?_);subst ex;cases(show kv=Value.ref b from rx);obtain⟨z,hd,xs,rel,dd⟩:=Aj I3.hok hp;cases rel;refine wpAny_dictSet_heap (hsz:=LF _) (knd:=dD m (bu X.prog X.w)) hu (gT I3.hok tk) dd λh' dd' hs=>?_;obtain⟨ob,es,ep,hq,h2,h3,h4,_,h5⟩:=dd';have one:storedH ([]:List (List (aV ⊕ List aV)×N2×N1)) kk b vv=[(kk,b,vv)]:=rfl;rw[one] at h4 h5;refine⟨.ref s.heap.objs.size,_,mx I3 (by rw[hp];exact True.intro) hs ⟨ob,hq⟩ (ob:=.dT m ep [(kk,y)]) ⟨by show 1<=sizeLine;decide,hd,[(kk,b,vv)],.cons ⟨rfl,tk.keep λc ys ec=>?_,ry⟩ .nil,ob,es,hq,h2,h3,h4,h5⟩,rfl,q ep⟩
 rw[al (Aa ec hp (λz=>nomatch z))]
 exact ec
end L2
namespace L2
open PySem PySem.Spec PyProof.Rows
section
variable {prog:N8} {w:Oa} {K:Type} [DecidableEq K] {knd:HeapKind prog w K} {A:Od} {E:N1->N3->Prop} {s:N3} {d a:N2} {k:K} {xs:List (K×N2×N1)}
end
section
variable {X:Cx} {pins:List (N2×Obj)} {σ:St} {H:Hp} {s:N3} {a b:N2} {m ep:Nat} {kvs:List (List (aV ⊕ List aV)×V)} {k:List (aV ⊕ List aV)} {v:V} {r:N1} {A:Od} {E:N1->N3->Prop}
end
end L2
namespace L2
open PySem PySem.Spec PyProof.Rows
section
variable {prog:N8} {w:Oa} {A:Od} {E:N1->N3->Prop} {s:N3} {d:N2}
end
end L2
namespace L2
open PySem PySem.Spec PyProof.Rows
section
variable {prog:N8} {w:Oa} {A:Od} {E:N1->N3->Prop} {s:N3} {d it:N2} {o:Obj} {es:Array DictEntry} {ep i:Nat}
end
end L2
namespace L2
open PySem PySem.Spec PyProof.Rows
noncomputable def gh(cells:List (Str×N2)):List (Str×Ol)->List (Str×N2)->List (Str×N2)
 |[],acc=>acc
 |(n,k)::r,acc=>gh cells r (if k=.free then(match cells.lookup n with|some c=>(n,c)::acc|none=>acc) else acc)
theorem ed{cells:List (Str×N2)}:∀{names:List (Str×Ol)} {acc:List (Str×N2)},(∀x c,acc.lookup x=NW c->cells.lookup x=NW c)->
  ∀x c,(gh cells names acc).lookup x=NW c->cells.lookup x=NW c
 |[],_,h=>h
 |(n,k)::r,acc,h=>by
  unfold gh;refine ed (names:=r) λx c=>?_;split
  ·cases e:cells.lookup n with
   |none=>exact h x c
   |some d=>
    dsimp only;intro q;rw[LH] at q
    cases hx:x==n with
    |true=>
     rw[hx] at q;have:x=n:=by simpa using hx
     subst this;cases q;exact e
    |false=>
     rw[hx] at q;exact h x c q
  ·exact h x c
theorem lw:∀{names:List (Str×Ol)} {acc:List (Str×N2)} {x:Str},(∃c,acc.lookup x=NW c)->∃c,(gh cells names acc).lookup x=NW c
 |[],_,_,h=>h
 |(n,k)::r,acc,x,h=>by
  unfold gh;refine lw (names:=r) ?_;split
  ·cases e:cells.lookup n with
   |none=>exact h
   |some d=>
    dsimp only;rw[LH]
    cases x==n with
    |true=>exact⟨d,rfl⟩
    |false=>exact h
  ·exact h
theorem jN{cells:List (Str×N2)}:∀{names:List (Str×Ol)} {acc:List (Str×N2)} {x:Str},(x,NameKind.free)∈names->(∃c,cells.lookup x=NW c)->∃c,(gh cells names acc).lookup x=NW c
 |(n,k)::r,acc,x,h,hc=>by
  unfold gh;rcases Lq.mp h with e|h
  ·cases e;obtain⟨c,hc⟩:=hc;refine lw ⟨c,?_⟩;rw[if_pos rfl,hc];simp
  ·exact jN h hc
theorem kY{scope:Of}{env:Env}(h:∀y∈scope.names,y.2=.free->∃c,env.cells.lookup y.1=NW c):closureFor scope env=pure (gh env.cells scope.names []):=by
 have key:∀(names:List (Str×Ol)) (acc:List (Str×N2)),(∀y∈names,y.2=.free->∃c,env.cells.lookup y.1=NW c)->
   (forIn names acc λ(x:Str×Ol) (r:List (Str×N2))=>(match x with|(name,kind)=>if(kind==.free)=NY then do let a <- cellOf env name;pure (ForInStep.yield ((name,a)::r)) else pure (ForInStep.yield r):Sem (ForInStep (List (Str×N2)))))=pure (gh env.cells names acc):=by
  intro names
  induction names with
  |nil=>intro acc _;rfl
  |cons y r ih=>
   intro acc hh;obtain⟨n,k⟩:=y;rw[NU];dsimp only;by_cases hk:k=.free
   ·obtain⟨c,hc⟩:=hh (n,k) LC hk;subst hk;have e:cellOf env n=pure c:=by unfold cellOf;rw[hc]
    rw[e];simp only[beq_self_eq_true,if_true,pure_bind];rw[ih _ λy hy=>hh y (Lu _ hy)]
    conv=>rhs;unfold gh
    rw[if_pos rfl];have hc':env.cells.lookup n=NW c:=hc;rw[hc']
   ·have e:(k==NameKind.free)=NZ:=by simpa using hk
    rw[e];simp only[Ml,if_false,pure_bind];rw[ih _ λy hy=>hh y (Lu _ hy)]
    conv=>rhs;unfold gh
    rw[if_neg hk]
 unfold closureFor;exact(congrArg (λm=>m >>= λr=>pure r) (key scope.names [] h)).trans (by simp)
theorem cQ:∀(names:List (Str×Ol)) (n:Nat) (acc:List (Str×N2)),Og n names acc=Og n names []++acc
 |[],n,acc=>rfl
 |(x,k)::r,n,acc=>by
  unfold Og;split
  ·rw[cQ r (n+1) ((x,n)::acc),cQ r (n+1) [(x,n)],List.append_assoc];rfl
  ·exact cQ r n acc
theorem uQ{x:Str}{c:N2}:∀{names:List (Str×Ol)} {n:Nat} {acc:List (Str×N2)},(Og n names acc).lookup x=NW c->((x,NameKind.cell)∈names/\n<=c)\/acc.lookup x=NW c
 |[],_,_,h=>.inr h
 |(y,k)::r,n,acc,h=>by
  unfold Og at h;split at h
  ·rename_i hk;have hk:k=.cell:=by simpa using hk
   subst hk;rcases uQ h with⟨h1,h2⟩|h1
   ·exact .inl ⟨Lu _ h1,M9 h2⟩
   ·rw[LH] at h1
    cases hx:x==y with
    |true=>
     rw[hx] at h1;have:x=y:=by simpa using hx
     subst this;cases h1;exact .inl ⟨LC,Lo _⟩
    |false=>rw[hx] at h1;exact .inr h1
  ·rcases uQ h with⟨h1,h2⟩|h1
   ·exact .inl ⟨Lu _ h1,h2⟩
   ·exact .inr h1
theorem pp{x:Str}:∀{names:List (Str×Ol)} {n:Nat} {acc:List (Str×N2)},(x,NameKind.cell)∉names->(Og n names acc).lookup x=acc.lookup x
 |[],_,_,_=>rfl
 |(y,k)::r,n,acc,h=>by
  unfold Og;have hr:(x,NameKind.cell)∉r:=λz=>h (Lu _ z);split
  ·rename_i hk;have hk:k=.cell:=by simpa using hk
   subst hk;rw[pp hr,LH]
   have:(x==y)=NZ:=by
    have:x≠y:=λz=>h (by rw[z];exact LC);simpa using this
   rw[this]
  ·exact pp hr
theorem mz{x:Str}:∀{names:List (Str×Ol)} {n:Nat} {acc:List (Str×N2)},((x,NameKind.cell)∈names\/∃c,acc.lookup x=NW c)->∃c,(Og n names acc).lookup x=NW c
 |[],_,_,h=>by
  rcases h with h|h
  ·simp at h
  ·exact h
 |(y,k)::r,n,acc,h=>by
  unfold Og;split
  ·rename_i hk;have hk:k=.cell:=by simpa using hk
   subst hk;refine mz ?_;by_cases hx:x=y
   ·subst hx;exact .inr ⟨n,by rw[LH];simp⟩
   ·have e:(x==y)=NZ:=by simpa using hx
    rcases h with h|h
    ·rcases Lq.mp h with z|z
     ·exact absurd (by cases z;rfl) hx
     ·exact .inl z
    ·exact .inr (by rw[LH,e];exact h)
  ·rename_i hk;refine mz ?_;rcases h with h|h
   ·rcases Lq.mp h with z|z
    ·exact absurd (by cases z;rfl) hk
    ·exact .inl z
   ·exact .inr h
theorem pq{x:Str}{m:Nat}:∀{names:List (Str×Ol)} {n:Nat} {acc:List (Str×N2)},((x,NameKind.cell)∈names\/∀c,acc.lookup x=NW c->m<=c)->m<=n->∀c,(Og n names acc).lookup x=NW c->m<=c
 |[],_,_,h,_,c,e=>by
  rcases h with h|h
  ·simp at h
  ·exact h c e
 |(y,k)::r,n,acc,h,hm,c,e=>by
  unfold Og at e;split at e
  ·rename_i hk;have hk:k=.cell:=by simpa using hk
   subst hk;refine pq ?_ (Nat.le_succ_of_le hm) c e;by_cases hx:x=y
   ·subst hx;refine .inr λc e=>?_;rw[LH] at e;simp at e;exact e▸hm
   ·have e2:(x==y)=NZ:=by simpa using hx
    rcases h with h|h
    ·rcases Lq.mp h with z|z
     ·exact absurd (by cases z;rfl) hx
     ·exact .inl z
    ·exact .inr (by intro c e;rw[LH,e2] at e;exact h c e)
  ·rename_i hk;refine pq ?_ hm c e;rcases h with h|h
   ·rcases Lq.mp h with z|z
    ·exact absurd (by cases z;rfl) hk
    ·exact .inl z
   ·exact .inr h
theorem pv:∀{names:List (Str×Ol)} {n:Nat} {acc:List (Str×N2)},(∀x c,acc.lookup x=NW c->c<n)->(∀x y c,acc.lookup x=NW c->acc.lookup y=NW c->x=y)->∀x y c,(Og n names acc).lookup x=NW c->(Og n names acc).lookup y=NW c->x=y
 |[],_,_,_,h=>h
 |(z,k)::r,n,acc,hb,h=>by
  unfold Og;split
  ·refine pv (λx c e=>?_) λx y c e1 e2=>?_
   ·rw[LH] at e
    cases hx:x==z with
    |true=>rw[hx] at e;cases e;exact My _
    |false=>rw[hx] at e;exact Na (hb x c e)
   ·rw[LH] at e1 e2
    cases hx:x==z with
    |true=>
     rw[hx] at e1;cases e1
     cases hy:y==z with
     |true=>rw[(by simpa using hx:x=z),(by simpa using hy:y=z)]
     |false=>rw[hy] at e2;exact absurd (hb y _ e2) (Mo _)
    |false=>
     rw[hx] at e1
     cases hy:y==z with
     |true=>rw[hy] at e2;cases e2;exact absurd (hb x _ e1) (Mo _)
     |false=>rw[hy] at e2;exact h x y c e1 e2
  ·exact pv hb h
noncomputable def DL(cells:List (Str×N2))(names:List (Str×Ol))(C:N2):List (Str×N2):=Og (C+1) names (gh cells names [])
theorem uR{cells:List (Str×N2)}{C:N2}{x:Str}(h:(DL cells names C).lookup x=NW c):C+1<=c\/cells.lookup x=NW c:=by
 rcases uQ h with h|h
 ·exact .inl h.2
 ·exact .inr (ed (λ_ _ z=>by cases z) x c h)
theorem kZ{s:N3}{scope:Of}{qual:Str}{Q:Env->N3->Prop}(hQ:Q (newEnv scope s.heap.objs.size globals (Og (s.heap.objs.size+1) scope.names cl) qual NX .none (NW outer) builtinsNs) { s with heap:=pushCells (s.heap.push { cls:=.type "dict",data:=.dict #[] }) scope.names }) :
  N5 M A (newFunctionEnv scope globals cl [] qual NX .none (NW outer)) Q E s:=by
 simp only[newFunctionEnv,NA,if_true];refine N4 (wpAny_alloc ?_)
 refine N4 (wpAny_layCells _ (λname kind cells=>by cases hkc:kind==NameKind.cell<;>simp[hkc]) _ _ _ _ ?_)
 rw[show({ s with heap:=s.heap.push { cls:=.type "dict",data:=.dict #[] } }:N3).heap.objs.size=s.heap.objs.size+1 from MH ..];rw[List.forIn_nil];exact N4 (N7 (N7 hQ))
noncomputable def aX(X:Cx)(N':List Str)(scope:Of)(C:N2)(s:N3)(H:Hp)(ex:List N2):Cx where
 prog:=X.prog
 w:=X.w
 K:=X.K
 mg:=X.mg
 base:=X.base
 A:=X.A
 N:=N'
 s₀:=s
 H₀:=H
 env:=compEnvC scope (DL X.env.cells scope.names C) C X.env
 outer:=X.stack
 stack:=X.stack
 ex:=ex
 fn:=λx=>scope.names.lookup x==NW .cell
 calm:=X.calm
 pn:=[]
 xe:=λ_ _=>False
theorem cJ{α β:Type}[BEq α][LawfulBEq α]:∀{l:List (α×β)} {x:α} {y:β},l.lookup x=NW y->(x,y)∈l
 |(a,b)::r,x,y,h=>by
  rw[LH] at h
  cases e:x==a with
  |true=>
   rw[e] at h;have:x=a:=by simpa using e
   subst this;cases h;exact LC
  |false=>
   rw[e] at h;exact Lu _ (cJ h)
theorem jO{scope:Of}{x:Str}(h:(relabel scope env).names.lookup x=NW .cell\/(relabel scope env).names.lookup x=NW .free):(x,NameKind.cell)∈scope.names\/(x,NameKind.free)∈scope.names:=by
 have key:∀k,(k=NameKind.cell\/k=NameKind.free)->(x,k)∈(relabel scope env).names->(x,NameKind.cell)∈scope.names\/(x,NameKind.free)∈scope.names:=λk hk hm=>by
  obtain⟨⟨n,k'⟩,hy,e⟩:=LX.mp hm;dsimp only at e;split at e
  ·rename_i q
   have:k'=NameKind.free:=by
    simp only[Lj,beq_iff_eq] at q;exact q.1.1
   subst this;cases e;exact .inr hy
  ·cases e;rcases hk with rfl|rfl
   ·exact .inl hy
   ·exact .inr hy
 rcases h with h|h
 ·exact key _ (.inl rfl) (cJ h)
 ·exact key _ (.inr rfl) (cJ h)
section
variable {X:Cx} {pins:List (N2×Obj)} {σ:St} {H:Hp} {s:N3}
theorem uS(I:Inv X pins σ H s){fp:List N2}{N':List Str}{scope:Of}{C:N2}(hf:∀b∈fp,jG X pins H b)(hfo:∀b∈fp,b<s.heap.objs.size)(hkind:scope.kind=.function)(hC:s.heap.objs.size<=C)
  (hfree:∀y∈scope.names,y.2=.free->X.env.kindOf y.1=NW .cell\/X.env.kindOf y.1=NW .free):(aX X N' scope C s H fp).Ok where
 mod:=I.ok.mod
 kind:=hkind
 glob:=I.ok.glob
 blt:=I.ok.blt
 above:=hC
 inj:=pv (λx c h=>by
   obtain⟨v,o,g,_⟩:=I.cell x c (ed (λ_ _ z=>by cases z) x c h);exact Na (Lr (Lp g) hC)) λx y c h1 h2=>I.ok.inj x y c (ed (λ_ _ z=>by cases z) x c h1) (ed (λ_ _ z=>by cases z) y c h2)
 has:=λx hx=>by
  rcases jO hx with m|m
  ·exact mz (.inl m)
  ·exact mz (.inr (jN m (I.ok.has x (hfree _ m rfl))))
 cab:=λx c h e=>by
  have h:scope.names.lookup x=NW .cell:=by simpa[aX] using h
  exact LM hC (M9 (pq (.inl (cJ h)) (Lo _) c e))
 hd:=I.ok.hd
 frames:=I.ok.frames
 stk:=.inl rfl
 exf:=λb hb=>⟨LG (Lr (hfo b hb) hC),λx c h=>by
  rcases uR h with h|h
  ·exact Mr (Lr (Na (Lr (hfo b hb) hC)) h)
  ·exact(hf b hb).2.2.2.2.1 x c h⟩
 bs:=I.bs
 bsz:=LM I.ok.bsz I.sz
 noex:=λb o e hb=>by
  obtain⟨_,_,_,h,_⟩:=hf b hb;rcases h with h|h
  ·exact I.ok.noex b o e h
  ·exact absurd (Lr (Lp e) (LM I.ok.bsz h)) (Mo _)
 exfs:=λb hb hz=>by
  obtain⟨_,h1,h2,_⟩:=hf b hb;rcases Lq.mp (I.stkSub b hz) with e|e
  ·exact h1 e
  ·exact h2 e
 funs:=I.stack
 frf:=I.stkFree
noncomputable def dQ(σ:St)(cap:List (Option Nat)):St:=cap.map λo=>o.bind λi=>(σ[i]?).join
structure jP(X:Cx)(N':List Str)(scope:Scope)(cap:List (Option Nat)):Prop where
 kind:scope.kind=.function
 cell:∀y∈scope.names,y.2=.cell->scope.names.lookup y.1=NW .cell
 names:∀y∈scope.names,y.2=.local->scope.names.lookup y.1=NW .local
 free:∀y∈scope.names,y.2=.free->X.env.kindOf y.1=NW .cell\/X.env.kindOf y.1=NW .free
 len:cap.length=N'.length
 cap:∀(j i:Nat) (x:Str),N'[j]?=NW x->cap[j]?=NW (NW i)->X.N[i]?=NW x/\scope.names.lookup x=NW .free/\(X.env.kindOf x=NW .cell\/X.env.kindOf x=NW .free)
theorem gU{scope:Of}{env:Env}{x:Str}:∀{names:List (Str×Ol)},names.lookup x=NW .free->
  (names.map λ(n,k)=>if(k==NameKind.free&&env.scope.kind==.function&&env.kindOf n==NW .cell) then(n,NameKind.cell) else(n,k)).lookup x=NW .cell\/
  (names.map λ(n,k)=>if(k==NameKind.free&&env.scope.kind==.function&&env.kindOf n==NW .cell) then(n,NameKind.cell) else(n,k)).lookup x=NW .free
 |(n,k)::r,h=>by
  have ih:=@gU scope env x r
  show Np x ((if(k==NameKind.free&&env.scope.kind==.function&&env.kindOf n==NW .cell)=NY then(n,NameKind.cell) else(n,k))::_)=_\/Np x ((if(k==NameKind.free&&env.scope.kind==.function&&env.kindOf n==NW .cell)=NY then(n,NameKind.cell) else(n,k))::_)=_
  cases hx:x==n with
  |true=>
   simp only[LH,hx] at h;cases h;by_cases hc:(NameKind.free==NameKind.free&&env.scope.kind==.function&&env.kindOf n==NW .cell)=NY
   ·rw[if_pos hc];left;simp only[LH,hx]
   ·rw[if_neg hc];right;simp only[LH,hx]
  |false=>
   simp only[LH,hx] at h;by_cases hc:(k==NameKind.free&&env.scope.kind==.function&&env.kindOf n==NW .cell)=NY
   ·rw[if_pos hc];simp only[LH,hx];exact ih h
   ·rw[if_neg hc];simp only[LH,hx];exact ih h
theorem uT(I:Inv X pins σ H s){fp:List N2}{N':List Str}{scope:Of}{cap:List (Option Nat)}{C D:N2}{h₁:Oc}{tk n:Nat}{m:Str->Option N1}(O:jP X N' scope cap)(hf:∀b∈fp,jG X pins H b)(hfo:∀b∈fp,b<s.heap.objs.size)
  (hC:s.heap.objs.size<=C) (hD:s.heap.objs.size<=D) (hDC:D<C) (hcs:∀x c,(Og (C+1) scope.names []).lookup x=NW c->h₁.IsCell c NX) (hn:h₁.Ns C m) (old:∀b o,s.heap.get? b=NW o->h₁.get? b=NW o)
  (new:h₁.get? D=NW { cls:=.type "list",data:=.seq ([]:List N1).toArray n }) :
  Inv (aX X N' scope C s H fp) [] (dQ σ cap) (upd H D (.lst [])) { s with heap:=h₁,toks:=tk }:=by
 have sub:∀x c,(gh X.env.cells scope.names []).lookup x=NW c->X.env.cells.lookup x=NW c:=ed (λ_ _ z=>by cases z)
 have offc:∀x,scope.names.lookup x=NW .free->(DL X.env.cells scope.names C).lookup x=(gh X.env.cells scope.names []).lookup x:=λx h=>pp λz=>by
  have:=O.cell _ z rfl;rw[h] at this;cases this
 refine⟨uS I hf hfo O.kind hC O.free,rfl,I.bare,Un.laid old hD (I.hok.fresh hD),⟨m,hn,λj x v h1 h2 h3=>?_⟩,λx c e=>?_,?_,λx c e=>?_,λp hp=>absurd hp (by simp[aX]),I.hok.laid old hD ⟨LF _,[],n,.nil,new⟩,?_⟩
 ·have h2':(dQ σ cap)[j]?=NW (NW v):=h2;unfold dQ at h2';rw[Ll] at h2'
  cases hc:cap[j]? with
  |none=>rw[hc] at h2';cases h2'
  |some o=>
   rw[hc] at h2'
   cases o with
   |none=>cases h2'
   |some i=>
    have hv:(σ[i]?).join=NW v:=by simpa using h2'
    have hv2:σ[i]?=NW (NW v):=by
     cases q:σ[i]? with
     |none=>rw[q] at hv;cases hv
     |some z=>rw[q] at hv;have:z=NW v:=hv;rw[this]
    obtain⟨c1,c2,c3⟩:=O.cap j i x h1 hc;obtain⟨mo,hno,hl⟩:=I.loc;have vis:D8 X.env.scope x:=c3.elim (λz=>.inr (.inl z)) λz=>.inr (.inr z);obtain⟨u,ru,l⟩:=hl i x v c1 hv2 vis;refine⟨u,ru,?_⟩;rcases l with⟨k,_⟩|⟨_,c,ec,ic⟩
    ·rcases c3 with z|z
     ·rw[z] at k;cases k
     ·rw[z] at k;cases k
    ·obtain⟨c',ec'⟩:=jN (cells:=X.env.cells) (acc:=[]) (cJ c2) ⟨c,ec⟩;have e2:=sub x c' ec';rw[ec] at e2;cases e2;obtain⟨oc,hoc,hdc⟩:=ic;exact .inr ⟨gU (scope:=scope) c2,c,(offc x c2).trans ec',oc,old _ _ hoc,hdc⟩
 ·have e:(DL X.env.cells scope.names C).lookup x=NW c:=e;unfold DL at e;rw[cQ,List.lookup_append] at e
  cases q:(Og (C+1) scope.names []).lookup x with
  |some c'=>
   rw[q] at e;cases e;exact⟨NX,hcs x _ q⟩
  |none=>
   rw[q] at e;obtain⟨v,oc,hoc,hdc⟩:=I.cell x c (sub x c e);exact⟨v,oc,old _ _ hoc,hdc⟩
 ·rw[show(aX X N' scope C s H fp).env.locals=C from rfl,al (Ne.symm (LG hDC))];exact I.hok.fresh hC
 ·rcases uR e with e'|e'
  ·rw[al (Mr (MG hDC e'))];exact I.hok.fresh (LM hC (M9 e'))
  ·obtain⟨v,oc,hoc,hdc⟩:=I.cell x c e';rw[al (LG (Lr (Lp hoc) hD))];exact I.freeC x c e'
 ·show(dQ σ cap).length=N'.length;unfold dQ;rw[Li,O.len]
theorem nL(I:Inv X pins σ H s){fp:List N2}{N':List Str}{scope:Of}{C:N2}{σ':St}{H':Hp}{s':N3}{h':Oc}(hf:∀b∈fp,jG X pins H b)(J:Inv (aX X N' scope C s H fp) [] σ' H' s')(hsb:Heap.SameBut C s'.heap h') :
  Inv X pins σ H' { s' with heap:=h' }:=by
 have hC:s.heap.objs.size<=C:=J.ok.above;have neC:∀b o,s.heap.get? b=NW o->b≠C:=λb o e=>LG (Lr (Lp e) hC);have U:Un (t9 X.stack) fp H H' s.heap s'.heap:=J.base;refine I.call' (s':={ s' with heap:=h' }) (ch:=fp) (J.os) ⟨λb o e n h1 h2=>?_,λb o e n h1 h2=>?_,U.free,λb o e h2=>?_,U.tups,U.frzs,U.tbls⟩ (λb o e=>?_) J.bare λb hb=>?_
 ·exact(hsb.2 b (neC b o e)).trans (U.keep b o e n h1 h2)
 ·obtain⟨sl,q⟩:=U.slot b o e n h1 h2;exact⟨sl,(hsb.2 b (neC b o e)).trans q⟩
 ·obtain⟨o',q⟩:=U.there b o e h2;exact⟨o',(hsb.2 b (neC b o e)).trans q⟩
 ·have fr:H' C=NX:=J.free;refine(J.hok b o e).stay (λc v hc q=>(hsb.2 c ?_).trans q) (λ_ q=>q) λ_ _ q=>q
  rintro rfl
  rcases hc with rfl|hc
  ·rw[fr] at e;cases e
  ·rw[fr] at hc;cases hc
 ·obtain⟨h0,h1,h2,h3,h4,h5⟩:=hf b hb;exact⟨h3,h1,h4,h5⟩
theorem mB{R:Result->N3->Prop}{s:N3}(I:Nat->N3->Prop)(turn:∀n s,I n s->N5 (N6 prog w) A (pyNext it) (λr s₁=>match r with
   |none=>R (.ok .next) s₁
   |some v=>N5 (N6 prog w) A (letOwnedTupleGo target it v) (λ_ s₁'=>N5 (N6 prog w) A (assign target env v) (λ_ s₂=>
     N5 (N6 prog w) A (forIn ifs NY λc r=>if r=NY then do let ok <- isTrue c env (eval c env);pure (ForInStep.yield ok) else pure (ForInStep.yield r)) (λok s₃=>
      if ok=NY then N5 (N6 prog w) A (eval elt env) (λx s₄=>
       N5 (N6 prog w) A (call (.builtin "list.append") [acc,x]) (λ_ s₅=>∃m,m<n/\I m s₅) (λ_ _=>False) s₄) (λ_ _=>False) s₃
      else ∃m,m<n/\I m s₃) (λ_ _=>False) s₂) (λ_ _=>False) s₁') (λ_ _=>False) s₁) (λ_ _=>False) s)(n:Nat)(h:I n s) :
  codeAny (N6 prog w) A (.compLoop (.ListComp elt [⟨target,iter,ifs,0⟩] scope pos) 0 it acc env) R s:=by
 refine codeAny_loop rfl I (λn s hI=>?_) n h;show N5 _ A ((compTurn (.ListComp elt [⟨target,iter,ifs,0⟩] scope pos) 0 it acc env).onRaise (λx=>do noteFrame x env;theTreesLotGoes x)) _ _ s;refine wpAny_noted ?_;rw[compTurn_list];refine N4 (wpAny_standAt (N4 (wpAny_mono (turn n s hI) (λr s₁ h₁=>?_) λ_ _ h'=>h'.elim)))
 cases r with
 |none=>exact N7 h₁
 |some v=>
  refine N4 (wpAny_mono h₁ (λ_ s₁' h₁'=>?_) λ_ _ h'=>h'.elim);refine N4 (wpAny_mono h₁' (λ_ s₂ h₂=>N4 (wpAny_mono h₂ (λok s₃ h₃=>?_) λ_ _ h'=>h'.elim)) λ_ _ h'=>h'.elim)
  cases ok with
  |false=>exact N7 ⟨rfl,h₃⟩
  |true=>
   exact N4 (N4 (wpAny_mono h₃ (λx s₄ h₄=>N4 (wpAny_mono h₄ (λ_ s₅ h₅=>N7 (N7 ⟨rfl,h₅⟩)) λ_ _ h'=>h'.elim)) λ_ _ h'=>h'.elim))
end
end L2
namespace L2
open PySem PySem.Spec PyProof.Rows
section
variable {X:Cx} {pins:List (N2×Obj)} {σ:List (Option V)} {H:Hp} {s:N3} {h':Oc}
theorem Inv.junk(I:Inv X pins σ H s)(hs:Heap.SameBut C s.heap h')(h0:X.s₀.heap.objs.size<=C)(hL:X.env.locals≠C)(hc:∀x c,X.env.cells.lookup x=NW c->c≠C)(hp:∀p∈X.pn++pins,p.1≠C)(hH:H C=NX):Inv X pins σ H { s with heap:=h' }:=by
 have ne:∀b o,X.s₀.heap.get? b=NW o->b≠C:=λb o e=>LG (Lr (Lp e) h0);obtain⟨m,hn,hl⟩:=id I.loc;refine⟨I.ok,I.os,I.bare,⟨λb o e n hb hx=>?_,λb o e n hb hx=>?_,I.base.free,λb o e hx=>?_,I.base.tups,I.base.frzs,I.base.tbls⟩,⟨m,hn.sameBut hs hL,λj y v' e1 e2 e3=>?_⟩,λy c e=>?_,I.free,I.freeC,λp hpp=>?_,λb ob e=>?_,I.len⟩
 ·exact(hs.2 b (ne b o e)).trans (I.base.keep b o e n hb hx)
 ·obtain⟨sl,e1⟩:=I.base.slot b o e n hb hx;exact⟨sl,(hs.2 b (ne b o e)).trans e1⟩
 ·obtain⟨o',e1⟩:=I.base.there b o e hx;exact⟨o',(hs.2 b (ne b o e)).trans e1⟩
 ·obtain⟨u',r',q⟩:=hl j y v' e1 e2 e3;refine⟨u',r',?_⟩;rcases q with⟨k,e⟩|⟨k,c,e,z⟩
  ·exact .inl ⟨k,e⟩
  ·refine .inr ⟨k,c,e,?_⟩;obtain⟨o,g,d⟩:=z;exact⟨o,(hs.2 c (hc y c e)).trans g,d⟩
 ·obtain⟨v,o,g,d⟩:=I.cell y c e;exact⟨v,o,(hs.2 c (hc y c e)).trans g,d⟩
 ·obtain⟨g,r⟩:=I.pin p hpp;exact⟨(hs.2 _ (hp p hpp)).trans g,r⟩
 ·refine(I.hok b ob e).stay (λc w' hcc q=>(hs.2 c ?_).trans q) (λ_ q=>q) λ_ _ q=>q
  rintro rfl
  rcases hcc with rfl|hcc
  ·rw[hH] at e;cases e
  ·rw[hH] at hcc;cases hcc
noncomputable def H9(te tst:TE):TE:=λσ H Q=>te σ H λx H1=>tst σ H1 λy H2=>∃a xs,x=.ref a/\y=.int (-1)/\SqL X.K H2 a xs/\∀p,H2 p=NX->Q (.ref p) (upd H2 p (.lst xs.reverse))
theorem BA{e st:N0}{te tst:TE}{p2 pos:Pos}(he:PE X e te)(hst:PE X st tst):PE X (.Subscript e (.Slice NX NX (NW st) p2) pos) (H9 (X:=X) te tst):=by
 intro pins s σ H Q I h;refine Subscript_ (bB (he pins s σ H _ I h) λv s1 ⟨x,H1,I1,r1,q1⟩=>?_);refine wpAny_Slice ?_;rw[evalPart_none];refine N7 (N7 ?_);refine bB (hst pins s1 σ H1 _ I1 q1) λvst s3 ⟨y,H3,I3,r3,q3⟩=>?_;obtain⟨a,xs,rfl,rfl,hx,q⟩:=q3;obtain⟨t,rfl⟩:=r3;cases r1;have I4:Inv X pins σ H3 { s3 with heap:=s3.heap.push { cls:=.type "slice",data:=.fields #[.none,.none,.int (-1) t] } }:=I3.kept (t':=s3.toks) λb ob q=>Ls _ q;obtain⟨its,r,ht,hz⟩:=I4.list hx;show N5 (N6 X.prog X.w) X.A (subscriptTail e (.Slice NX NX (NW st) p2) (.ref a) (.ref s3.heap.objs.size)) (EP X pins σ Q) X.xe { s3 with heap:=s3.heap.push { cls:=.type "slice",data:=.fields #[.none,.none,.int (-1) t] } };refine tail_any (ops:=[.ref a,.ref s3.heap.objs.size]) ht.isList.typeIs slot_list_getitem.lookup ?_ (by with_unfolding_all rfl);refine wpAny_getItem_list_slice ht.isList (Heap.IsSliceOf.new ..) .none .none (.int _ _) (by simp) ?_ (by rw[Lv,<- r.length];exact hz);rw[PySem.W.krv_pick];refine⟨.ref _,_,I4.laid (t':=s3.toks) (o:=.lst xs.reverse) (λb ob q=>Ls _ q) (Lo _) ?_,rfl,q _ (I4.hok.fresh (Lo _))⟩;exact⟨by rw[List.length_reverse];exact hz,_,0,r.reverse,LL _ rfl⟩
noncomputable def Ia(K:Lh)(n:Nat)(t:ul):TG:=λv σ H Q=>∃a xs,v=.ref a/\SqL K H a xs/\xs.length=n/\t xs σ H Q
theorem BB{k:Nat}{n:Nat}(hc:X.calm=NY)(h:A6 X es t)(hn:(Oi es X.env).length=n)(hst:(Oi es X.env).findIdx? (·.1)=NX):PG X (.Tuple es k pos) (Ia X.K n t):=by
 intro pins s σ H v u Q I r hw;obtain⟨a,xs,e1,hq,hl,hw⟩:=hw;subst e1;cases r;obtain⟨its,rv,ht,hz⟩:=I.list hq;rw[assign_Tuple];refine N4 (wpAny_standAt ?_);unfold unpack;rw[hst,show(Oi es X.env).length=its.toArray.size by rw[hn,<- hl,rv.length,Lv]];refine N4 (Oq (PySem.W.kun_itemsOf (I.ok.hd hc) ht.isList λh' hx=>?_));have I1:Inv X pins σ H { s with heap:=h' }:=I.kept (t':=s.toks) λb o e=>hx b o (LG (Lp e)) e;exact h pins _ σ H xs _ Q I1 (by simpa using rv) hw
end
end L2
namespace G
open PySem PySem.Spec PyProof.Rows L2
inductive D where
 |non|bl (b:Bool)|int (i:Int)|str (x:Str)|lst (xs:List D)|tup (xs:List D)|scr (ns:List Int)|dic (ks:List aV) (vs:List D)
noncomputable def EB(K:Lh)(a:N2)(xs:List V):Prop:=
 ∃(o:Obj) (its:Array N1) (n:Nat),K.lookup a=NW o/\o.cls=.type "list"/\o.dict=NX/\o.data=.seq its n/\its.size<=sizeLine/\Vals xs its.toList
mutual
noncomputable def Rp(K:Lh)(H:Hp)(S:List N2):D->V->Prop
 |.non,v=>v=.non
 |.bl b,v=>v=.bl b
 |.int i,v=>v=.int i
 |.str x,v=>v=.str x
 |.lst ds,v=>∃a xs,v=.ref a/\a∉S/\H a=NW (.lst xs)/\RpL K H S ds xs
 |.tup ds,v=>∃a xs,v=.ref a/\a∉S/\H a=NW (.tup xs)/\RpL K H S ds xs
 |.scr ns,v=>∃a,v=.ref a/\((a∉S/\Rd H a (.lst (ns.map V.int)))\/EB K a (ns.map V.int))
 |.dic ks vs,v=>∃a kvs,v=.ref a/\a∉S/\H a=NW (.dK kvs)/\kvs.map (·.1)=ks/\RpL K H S vs (kvs.map (·.2))
noncomputable def RpL(K:Lh)(H:Hp)(S:List N2):List D->List V->Prop
 |[],xs=>xs=[]
 |d::ds,xs=>∃y ys,xs=y::ys/\Rp K H S d y/\RpL K H S ds ys
end
section
variable {K:Lh} {H H':Hp} {S S':List N2}
end
inductive Kd where
 |sh|fr|bo
 deriving DecidableEq
noncomputable def VR(K:Lh)(H0 H:Hp)(S:List N2):Kd->D->V->Prop
 |.sh,d,v=>Rp K H S d v
 |.fr,.lst ds,v=>∃a xs,v=.ref a/\H0 a=NX/\H a=NW (.lst xs)/\RpL K H (a::S) ds xs
 |.bo,.lst ds,v=>∃a xs,v=.ref a/\H a=NW (.lst xs)/\RpL K H S ds xs
 |_,_,_=>False
section
variable {K:Lh} {H0 H H':Hp} {S:List N2}
end
end G
namespace G
open PySem PySem.Spec PyProof.Rows L2
section
variable {X:Cx}
section
variable {pins:List (N2×Obj)} {s:N3} {σ:L2.St} {H:Hp}
end
end
noncomputable def G6(K:Lh)(a:N2):It:=
 ⟨λi H=>∃xs x,SqL K H a xs/\xs[i]?=NW x,λi H x H'=>∃p v,H p=NX/\H'=upd H p (.tup [.int i,v])/\x=.ref p/\∀xs,SqL K H a xs->xs[i]?=NW v,λi H=>∃xs,SqL K H a xs/\xs.length<=i⟩
theorem sW{P:N8}{w:Oa}{K:Lh}{es:List N0}{kk:Nat}{tp:Pos}(a e it:N2)(hne:e≠it):o8 P w K (.Tuple es kk tp) (G6 K a) [e,it] e (λi h=>(∃old,IsEnum h e it ((i:Nat):Int) old)/\h.IsListIter it a i) where
 mem:=by simp
 obj:=λi h st b hb=>by
  obtain⟨⟨old,h1⟩,o,h2,h3,h4⟩:=st;rcases Lq.mp hb with rfl|hb
  ·exact⟨_,h1,λv z=>by
    have z':Data.fields _=Data.cell v:=z;cases z'⟩
  ·have:b=it:=by simpa using hb
   subst this;exact⟨o,h2,λv z=>by rw[h4] at z;cases z⟩
 keep:=λi h h' st k=>by
  obtain⟨⟨old,h1⟩,h2⟩:=st;exact⟨⟨old,k e (by simp) _ h1⟩,h2.at λo q=>k it (by simp) o q⟩
 item:=by
  intro X hP hw hK hc i pins s σ H E I hf st hg;subst hP hw hK;obtain⟨⟨old,he⟩,hit⟩:=st;obtain⟨xs,x,hq,hx⟩:=hg;obtain⟨its,rv,p,hz⟩:=I.list hq;obtain⟨u,hu,ru⟩:=rv.get hx;obtain⟨f0,f1,f2,f3,f4,f5⟩:=hf e (by simp);obtain⟨g0,g1,g2,g3,g4,g5⟩:=hf it (by simp);have hes:=Lp he;refine wpAny_pyNext_enum_item he hit p.isList (x:=u) (by simpa using hu) hne λh1 ho hit1 ht hs1 kk1=>?_;refine⟨_,rfl,wpAny_letOwnedTupleGo_enum ho λh2 he2 sb2=>?_⟩;have sb2':Heap.SameBut e h1 h2:=sb2;have step1:∀b o,b≠e->b≠it->s.heap.get? b=NW o->h2.get? b=NW o:=λb o n1 n2 q=>(sb2'.2 b n1).trans (kk1 b o n1 n2 q);have fr:=I.hok.fresh (Lo s.heap.objs.size);have htup:h2.get? s.heap.objs.size=NW { cls:=.type "tuple",data:=.seq #[.int i s.toks,u] }:=(sb2'.2 _ (Mr hes)).trans ht
  have I1:Inv X pins σ (upd H s.heap.objs.size (.tup [.int i,x])) { s with heap:=h2,toks:=s.toks+1 }:=by
   have nit:∀b o,H b=NW o->b≠e/\b≠it:=λb o q=>⟨(λz=>by rw[z,f0] at q;cases q),(λz=>by rw[z,g0] at q;cases q)⟩
   have hok':HOk X.prog X.w (upd H s.heap.objs.size (.tup [.int i,x])) h2:=λb o q=>by
    by_cases hb:b=s.heap.objs.size
    ·subst hb;rw[aG] at q;cases q;exact⟨(by show 2<=sizeLine;decide),[.int i s.toks,u],.cons ⟨_,rfl⟩ (.cons ru .nil),_,htup,rfl,_,rfl⟩
    ·rw[al hb] at q;refine(I.hok b o q).stay (λc v hc' q'=>step1 c v ?_ ?_ q') (λc q'=>by rw[al (aD q' fr)];exact q') λc ys q'=>by rw[al (aD q' fr)];exact q'
     ·rcases hc' with rfl|hc'
      ·exact(nit _ _ q).1
      ·exact(nit _ _ hc').1
     ·rcases hc' with rfl|hc'
      ·exact(nit _ _ q).2
      ·exact(nit _ _ hc').2
   refine I.step (g':=s.gens) (d':=s.drawn) (t':=s.toks+1) (ch:=[e,it]) (λb hb=>?_) (λb o _ _ hcx q _=>step1 b o (λz=>hcx (by simp[z])) (λz=>hcx (by simp[z])) q)
    (λb o _ _ hcx q _=>⟨o.slots,step1 b o (λz=>hcx (by simp[z])) (λz=>hcx (by simp[z])) q⟩) (λb o hcx q n=>by rw[al (LG (Lp q))];exact n)
    (λb o hcx q=>⟨o,step1 b o (λz=>hcx (by simp[z])) (λz=>hcx (by simp[z])) q⟩) (λb ys q=>by rw[al (aD q fr)];exact q) (λb o z q=>by rw[al (aD q fr)];exact q)
    (λb ps q=>⟨#[],by rw[al (aD q fr),q];simp⟩) (λm hm=>?_) hok' I.bare
   ·rcases Lq.mp hb with rfl|hb
    ·exact⟨f3,f1,f4,f5⟩
    ·have:b=it:=by simpa using hb
     subst this;exact⟨g3,g1,g4,g5⟩
   ·obtain⟨o,es',ep,ho',r'⟩:=hm;exact⟨o,es',ep,step1 _ o (Ne.symm f1) (Ne.symm g1) ho',r'⟩
  refine⟨.ref s.heap.objs.size,_,I1,rfl,⟨s.heap.objs.size,x,fr,rfl,rfl,λys hy=>by rw[I.list_inj hy hq];exact hx⟩,⟨⟨u,by
    have:(((i+1:Nat):Int))=(i:Int)+1:=by lia
    rw[this];exact he2⟩,hit1.extBut sb2'.extBut (Ne.symm hne)⟩,λb hb=>?_⟩
  have hb0:=(hf b hb).1
  have hlt:b<s.heap.objs.size:=by
   rcases Lq.mp hb with rfl|hb
   ·exact hes
   ·have:b=it:=by simpa using hb
    subst this;obtain⟨o,q,_⟩:=hit;exact Lp q
  rw[al (LG hlt)];exact hb0
 done:=by
  intro X hP hw hK hc i pins s σ H E I hf st hg;subst hP hw hK;obtain⟨⟨old,he⟩,hit⟩:=st;obtain⟨xs,hq,hx⟩:=hg;obtain⟨its,rv,p,hz⟩:=I.list hq;obtain⟨f0,f1,f2,f3,f4,f5⟩:=hf it (by simp);have hl:=rv.length;exact wpAny_pyNext_enum_end (I.ok.hd hc) he hit p.isList (by simp;lia) λh' eb=>⟨rfl,I.turned (t':=s.toks) (λb o hb q=>eb b o hb q) f0 f1 f3 f4 f5⟩
 self:=λ_ _ _ _ _ st h=>let ⟨_,q⟩:=st.1;wpAny_pyIter_enum q h
section
variable {X:Cx}
noncomputable def EC(K:Lh)(ta:TA):TI:=λσ H R=>ta σ H λvs H1=>∃a,vs=[.ref a]/\(∃xs,SqL K H1 a xs)/\R (G6 K a) H1
theorem xT{a:N0}{kk:Nat}(hg:Gl X "enumerate")(hm:X.mg "enumerate" = NX)(ha:PA X [a] ta)(hs:Ob [a] X.env=[(NZ,eval a X.env)]) :
  PI X (.Tuple es kk tp) (.Call (.Name "enumerate" p) [a] [] pos) (EC X.K ta):=by
 intro pins s σ H R I h;refine Call_ (dX I hg hm boot_enumerate (PyProof.Rows.callWith_type1 (bB (ha pos pins s σ H _ I h) λus s1 ⟨vs,H1,I1,r1,q1⟩=>?_) hs rfl));obtain⟨l,e,⟨xs,hq⟩,q⟩:=q1;subst e;obtain⟨u,rfl,rx⟩:=li r1;cases rx;obtain⟨its,rv,pl,hz⟩:=I1.list hq;refine call_enumerate_list pl.isList λh' he hit hsz hk=>?_;refine wpAny_pyIter_enum (s:={ s1 with heap:=h' }) he ?_;have I2:Inv X pins σ H1 { s1 with heap:=h' }:=I1.kept (t':=s1.toks) hk;refine⟨s1.heap.objs.size+1,[s1.heap.objs.size+1,s1.heap.objs.size],_,_,H1,rfl,I2,sW l _ _ (Mr (My _)),⟨⟨_,he⟩,hit⟩,λb hb=>?_,q⟩
 have hb':s1.heap.objs.size<=b:=by
  rcases Lq.mp hb with rfl|hb
  ·exact Mz _
  ·have:b=s1.heap.objs.size:=by simpa using hb
   rw[this];exact Lo _
 exact I1.fpOk hb' (I1.hok.fresh hb')
end
end G
namespace G
open PySem PySem.Spec PyProof.Rows L2
open AutoSeq1 (wpAny_loadPart')
section
variable {prog:N8} {w:Oa} {A:Od} {E:N1->N3->Prop} {s:N3}
theorem uU{i:Nat}{items:Array N1}{Q:N1->N3->Prop}(hh:A.handled=NX)(hit:s.heap.IsTupleIter it t i)(ht:s.heap.IsTuple t items)(yes:∀x h',items[i]?=NW x->h'.IsTupleIter it t (i+1)->Heap.SameBut it s.heap h'->Q x { s with heap:=h' })(no:∀h' e,items[i]?=NX->Heap.ExtBut it s.heap h'->(∃o,h'.get? e=NW o/\o.cls=.type "StopIteration")->E (.ref e) { s with heap:=h' }):N5 (N6 prog w) A (Builtin.SmallTypes.nextOf (.ref it)) Q E s:=by
 have ty:=hit.typeIs;rcases hit with⟨o,ho,hc,hd⟩;rcases ht with⟨ot,hot,_,nt,hdt⟩;have here:¬((Value.ref t==Value.none)=NY):=Mj;have sl:=F.slot_tuple_iterator_next;unfold Builtin.SmallTypes.nextOf;refine N4 (wpAny_callSpecial?_slot (name:=Str.ofString "__next__") ty sl (Ot sl ty F.entry_tuple_iterator_next (show N5 _ _ (field (.ref it) 0 >>= _) _ _ s from N4 (wpAny_field ho hd (x:=.ref t) rfl ?_)) (F.args_tuple_iterator_next_1 _)))
 show N5 _ _ (if(Value.ref t==Value.none)=NY then _ else _) _ _ s
 rw[if_neg here];refine N4 (m:=field (.ref it) 1) (wpAny_field ho hd (x:=.int i 0) rfl (N4 (m:=seqItems? (.ref t)) (wpAny_seqItems hot hdt ?_)))
 cases e:items[i]? with
 |some x=>
  simp only[LN,e];exact N4 (wpAny_setField ho hd (by simp) (N7 ⟨x,rfl,N7 (yes x _ e ⟨_,Nu _ ho (Obj.isFreed_of_fields (Obj.data_mapFields hd _)),(Obj.cls_mapFields ..).trans hc,by rw[Obj.data_mapFields hd];simp[Ou]⟩ (Heap.SameBut.update ..))⟩))
 |none=>
  simp only[LN,e];refine N4 (wpAny_rule (N4 (wpAny_setField ho hd (by simp) (N4 (m:=newExc (.type "StopIteration") []) ?_))));simp only[newExc,newTuple]
  refine N4 (Os (N4 (m:=firstArgMember _ _) (wpAny_of_eq (a:=Value.none) (by first|rfl|(simp only[firstArgMember];rfl)) (Os ?_ (by size_fits)))) (by size_fits))
  simp only[raiseNew];refine N4 (wpAny_handled ?_)
  first|rw[show A.in1.handled=NX from hh]|rw[hh]
  exact N4 (N7 (wpAny_throw (no _ _ e (((Heap.SameBut.update ..).extBut.push _).push _) ⟨_,LL _ rfl,rfl⟩)))
theorem BC(hh:A.handled=NX)(it t:N2)(hne:t≠it)(items:Array N1):Draws prog w A it [it,t] items.size (λi v=>items[i]?=NW v) (λi h=>h.IsTupleIter it t i/\h.IsTuple t items) where
 live:=λ_ _ st=>let ⟨o,ho,_⟩:=st.1;⟨o,ho⟩
 frame:=λ_ _ _ st hk=>⟨st.1.at λo e=>hk it (by simp) o e,let ⟨o,ho,r⟩:=st.2;⟨o,hk t (by simp) o ho,r⟩⟩
 item:=λi s Q E hi st hQ=>uU hh st.1 st.2 (λx h' e q b=>hQ x h' s.toks e ⟨q,st.2.extBut b.extBut hne⟩ b) λ_ _ e=>by simp[hi] at e
 done:=λs Q E st hE=>uU hh st.1 st.2 (λx h' e=>by simp at e) λh' e _=>hE h' e
theorem sX(l:N2)(items:Array N1)(n:Nat)(dct:Option N2)(sl:Array (Option N1)) :
  Meets (Builtin.«enumerate.__new__» ⟨[.type "enumerate",.ref l],[]⟩) (λ_ R s=>s.heap.get? l=NW { cls:=.type "tuple",dict:=dct,data:=.seq items n,slots:=sl }/\
   R (.ok (.ret (.ref (s.heap.push { cls:=.type "tuple_iterator",data:=.fields #[.ref l,.int 0 0] }).objs.size)))
    { s with heap:=(s.heap.push { cls:=.type "tuple_iterator",data:=.fields #[.ref l,.int 0 0] }).push { cls:=.type "enumerate",data:=.fields #[.none,.bool NZ,.ref s.heap.objs.size,Ou 0,.none,.none] } }):=
 .of_wp λprog w A R s h=>by
  obtain⟨hp,g,d,tk,os⟩:=s;obtain⟨hl,h⟩:=h;have hsub:=sub_enumerate;have hL:Heap.IsTuple (Shared.heap ⟨hp,g,d,tk,os⟩) l items:=⟨_,hl,rfl,n,rfl⟩
  wp_walk using wpAny_loadPart' hl
  refine wpAny_stack_any λst=>N7 ?_;split
  ·rename_i c _ _ _ _ _
   cases(c==Value.type "enumerate") <;>
   ·wp_walk using wpAny_loadPart' hl,wpAny_pyIter_tuple hL
    exact⟨_,rfl,h⟩
  ·wp_walk using wpAny_loadPart' hl,wpAny_pyIter_tuple hL
   exact⟨_,rfl,h⟩
theorem pA{Q:N1->N3->Prop}(hL:s.heap.IsTuple l items)(h:∀h',IsEnum h' (s.heap.objs.size+1) s.heap.objs.size 0 .none->h'.IsTupleIter s.heap.objs.size l 0->(∀b o,s.heap.get? b=NW o->h'.get? b=NW o)->Q (.ref (s.heap.objs.size+1)) { s with heap:=h' }) :
  N5 (N6 prog w) A (call (.type "enumerate") [.ref l]) Q E s:=by
 obtain⟨⟨c,dct,dt,sl⟩,hl,hc,n,hd⟩:=hL;replace hc:c=.type "tuple":=hc;replace hd:dt=.seq items n:=hd;subst hc hd;refine callType_new F.called_enumerate (by decide) (F.typeCall_enumerate_1 _) (F.newCall_enumerate_1 _) (λobj=>F.args_object_init_2 obj _) F.entry_enumerate_new (sX l items n dct sl) ⟨hl,?_⟩;have hz:(s.heap.push { cls:=.type "tuple_iterator",data:=.fields #[.ref l,.int 0 0] }).objs.size=s.heap.objs.size+1:=MH ..;show _/\_;rw[hz]
 have he:IsEnum ((s.heap.push { cls:=.type "tuple_iterator",data:=.fields #[.ref l,.int 0 0] }).push { cls:=.type "enumerate",data:=.fields #[.none,.bool NZ,.ref s.heap.objs.size,Ou 0,.none,.none] }) (s.heap.objs.size+1) s.heap.objs.size 0 .none:=by
  have:=LL (s.heap.push { cls:=.type "tuple_iterator",data:=.fields #[.ref l,.int 0 0] }) (o:={ cls:=.type "enumerate",data:=.fields #[.none,.bool NZ,.ref s.heap.objs.size,Ou 0,.none,.none] }) rfl;rw[hz] at this;exact this
 exact⟨⟨_,he,rfl⟩,h _ he ⟨_,Ls _ (LL _ rfl),rfl,rfl⟩ λb o x=>Ls _ (Ls _ x)⟩
end
noncomputable def Ib(K:Lh)(a:N2):It:=
 ⟨λi H=>∃xs x,SqT K H a xs/\xs[i]?=NW x,λi H x H'=>∃p v,H p=NX/\H'=upd H p (.tup [.int i,v])/\x=.ref p/\∀xs,SqT K H a xs->xs[i]?=NW v,λi H=>∃xs,SqT K H a xs/\xs.length<=i⟩
theorem pB{P:N8}{w:Oa}{K:Lh}{es:List N0}{kk:Nat}{tp:Pos}(a e it:N2)(hne:e≠it):o8 P w K (.Tuple es kk tp) (Ib K a) [e,it] e (λi h=>(∃old,IsEnum h e it ((i:Nat):Int) old)/\h.IsTupleIter it a i) where
 mem:=by simp
 obj:=λi h st b hb=>by
  obtain⟨⟨old,h1⟩,o,h2,h3,h4⟩:=st;rcases Lq.mp hb with rfl|hb
  ·exact⟨_,h1,λv z=>by
    have z':Data.fields _=Data.cell v:=z;cases z'⟩
  ·have:b=it:=by simpa using hb
   subst this;exact⟨o,h2,λv z=>by rw[h4] at z;cases z⟩
 keep:=λi h h' st k=>by
  obtain⟨⟨old,h1⟩,h2⟩:=st;exact⟨⟨old,k e (by simp) _ h1⟩,h2.at λo q=>k it (by simp) o q⟩
 item:=by
  intro X hP hw hK hc i pins s σ H E I hf st hg;subst hP hw hK;obtain⟨⟨old,he⟩,hit⟩:=st;obtain⟨xs,x,hq,hx⟩:=hg;obtain⟨its,rv,p,hz⟩:=I.tuple hq;have p:s.heap.IsTuple a its.toArray:=p;obtain⟨u,hu,ru⟩:=rv.get hx;obtain⟨f0,f1,f2,f3,f4,f5⟩:=hf e (by simp);obtain⟨g0,g1,g2,g3,g4,g5⟩:=hf it (by simp);have hes:=Lp he
  have hai:a≠it:=λz=>by
   subst z;obtain⟨o1,e1,c1,_⟩:=p;obtain⟨o2,e2,c2,_⟩:=hit;rw[e1] at e2;cases e2;rw[c1] at c2;exact absurd c2 (by decide)
  have hea:e≠a:=λz=>by
   subst z;obtain⟨o1,e1,c1,_⟩:=p;have he':s.heap.get? e=NW _:=he;rw[e1] at he';cases he';exact absurd (show Value.type "enumerate" = Value.type "tuple" from c1) (by decide)
  have hlt:i<its.toArray.size:=by
   have:=(Lk.mp hu).1;simpa using this
  refine wpAny_pyNext_enum_itemD (BC (A:=X.A.in1) (I.ok.hd hc) it a hai its.toArray) he ⟨hit,p⟩ hlt hne (by simp[hne,hea]) λx' h1 tk hP ho hit1 ht hs1 kk1=>?_
  obtain rfl:u=x':=by
   have hu':its.toArray[i]?=NW u:=by simpa using hu
   have hP':its.toArray[i]?=NW x':=hP;rw[hu'] at hP';cases hP';rfl
  refine⟨_,rfl,wpAny_letOwnedTupleGo_enum ho λh2 he2 sb2=>?_⟩;have sb2':Heap.SameBut e h1 h2:=sb2;have step1:∀b o,b≠e->b≠it->s.heap.get? b=NW o->h2.get? b=NW o:=λb o n1 n2 q=>(sb2'.2 b n1).trans (kk1 b o n1 n2 q);have fr:=I.hok.fresh (Lo s.heap.objs.size);have htup:h2.get? s.heap.objs.size=NW { cls:=.type "tuple",data:=.seq #[.int i tk,u] }:=(sb2'.2 _ (Mr hes)).trans ht
  have I1:Inv X pins σ (upd H s.heap.objs.size (.tup [.int i,x])) { s with heap:=h2,toks:=tk+1 }:=by
   have nit:∀b o,H b=NW o->b≠e/\b≠it:=λb o q=>⟨(λz=>by rw[z,f0] at q;cases q),(λz=>by rw[z,g0] at q;cases q)⟩
   have hok':HOk X.prog X.w (upd H s.heap.objs.size (.tup [.int i,x])) h2:=λb o q=>by
    by_cases hb:b=s.heap.objs.size
    ·subst hb;rw[aG] at q;cases q;exact⟨(by show 2<=sizeLine;decide),[.int i tk,u],.cons ⟨_,rfl⟩ (.cons ru .nil),_,htup,rfl,_,rfl⟩
    ·rw[al hb] at q;refine(I.hok b o q).stay (λc v hc' q'=>step1 c v ?_ ?_ q') (λc q'=>by rw[al (aD q' fr)];exact q') λc ys q'=>by rw[al (aD q' fr)];exact q'
     ·rcases hc' with rfl|hc'
      ·exact(nit _ _ q).1
      ·exact(nit _ _ hc').1
     ·rcases hc' with rfl|hc'
      ·exact(nit _ _ q).2
      ·exact(nit _ _ hc').2
   refine I.step (g':=s.gens) (d':=s.drawn) (t':=tk+1) (ch:=[e,it]) (λb hb=>?_) (λb o _ _ hcx q _=>step1 b o (λz=>hcx (by simp[z])) (λz=>hcx (by simp[z])) q)
    (λb o _ _ hcx q _=>⟨o.slots,step1 b o (λz=>hcx (by simp[z])) (λz=>hcx (by simp[z])) q⟩) (λb o hcx q n=>by rw[al (LG (Lp q))];exact n)
    (λb o hcx q=>⟨o,step1 b o (λz=>hcx (by simp[z])) (λz=>hcx (by simp[z])) q⟩) (λb ys q=>by rw[al (aD q fr)];exact q) (λb o z q=>by rw[al (aD q fr)];exact q)
    (λb ps q=>⟨#[],by rw[al (aD q fr),q];simp⟩) (λm hm=>?_) hok' I.bare
   ·rcases Lq.mp hb with rfl|hb
    ·exact⟨f3,f1,f4,f5⟩
    ·have:b=it:=by simpa using hb
     subst this;exact⟨g3,g1,g4,g5⟩
   ·obtain⟨o,es',ep,ho',r'⟩:=hm;exact⟨o,es',ep,step1 _ o (Ne.symm f1) (Ne.symm g1) ho',r'⟩
  refine⟨.ref s.heap.objs.size,_,I1,rfl,⟨s.heap.objs.size,x,fr,rfl,rfl,λys hy=>by rw[I.tuple_inj hy hq];exact hx⟩,⟨⟨u,by
    have:(((i+1:Nat):Int))=(i:Int)+1:=by lia
    rw[this];exact he2⟩,hit1.1.extBut sb2'.extBut (Ne.symm hne)⟩,λb hb=>?_⟩
  have hb0:=(hf b hb).1
  have hlt:b<s.heap.objs.size:=by
   rcases Lq.mp hb with rfl|hb
   ·exact hes
   ·have:b=it:=by simpa using hb
    subst this;obtain⟨o,q,_⟩:=hit;exact Lp q
  rw[al (LG hlt)];exact hb0
 done:=by
  intro X hP hw hK hc i pins s σ H E I hf st hg;subst hP hw hK;obtain⟨⟨old,he⟩,hit⟩:=st;obtain⟨xs,hq,hx⟩:=hg;obtain⟨its,rv,p,hz⟩:=I.tuple hq;have p:s.heap.IsTuple a its.toArray:=p;obtain⟨f0,f1,f2,f3,f4,f5⟩:=hf it (by simp);have hl:=rv.length;have hT:s.TypeIs (.ref e) "enumerate":=⟨_,he,rfl⟩;unfold pyNext;refine N4 (wpAny_attempt (wpAny_callSpecial?_slot (name:=Str.ofString "__next__") hT F.slot_enumerate_next (Ot F.slot_enumerate_next hT F.entry_enumerate_next ?_ (F.args_enumerate_next_1 _))));show N5 _ _ (field (.ref e) 2 >>= _) _ _ _;refine N4 (wpAny_field he rfl (x:=.ref it) rfl ?_);refine N4 (uU (A:=X.A.in1) (I.ok.hd hc) hit p (λx h' e=>by simp at e;have:=(Lk.mp e).1;lia) λh' x _ he' hx'=>?_);obtain⟨o,ho,hc⟩:=hx';refine N4 (wpAny_isInstance (T:="StopIteration") (b:=NY) ⟨o,ho,hc⟩ isSubtype_stop ?_);exact N7 ⟨rfl,I.turned (t':=s.toks) (λb o hb q=>he' b o hb q) f0 f1 f3 f4 f5⟩
 self:=λ_ _ _ _ _ st h=>let ⟨_,q⟩:=st.1;wpAny_pyIter_enum q h
section
variable {X:Cx}
noncomputable def BD(K:Lh)(ta:TA):TI:=λσ H R=>ta σ H λvs H1=>∃a,vs=[.ref a]/\(∃xs,SqT K H1 a xs)/\R (Ib K a) H1
theorem uV{a:N0}{kk:Nat}(hg:Gl X "enumerate")(hm:X.mg "enumerate" = NX)(ha:PA X [a] ta)(hs:Ob [a] X.env=[(NZ,eval a X.env)]) :
  PI X (.Tuple es kk tp) (.Call (.Name "enumerate" p) [a] [] pos) (BD X.K ta):=by
 intro pins s σ H R I h;refine Call_ (dX I hg hm boot_enumerate (PyProof.Rows.callWith_type1 (bB (ha pos pins s σ H _ I h) λus s1 ⟨vs,H1,I1,r1,q1⟩=>?_) hs rfl));obtain⟨l,e,⟨xs,hq⟩,q⟩:=q1;subst e;obtain⟨u,rfl,rx⟩:=li r1;cases rx;obtain⟨its,rv,pl,hz⟩:=I1.tuple hq;refine pA (show s1.heap.IsTuple l its.toArray from pl) λh' he hit hk=>?_;refine wpAny_pyIter_enum (s:={ s1 with heap:=h' }) he ?_;have I2:Inv X pins σ H1 { s1 with heap:=h' }:=I1.kept (t':=s1.toks) hk;refine⟨s1.heap.objs.size+1,[s1.heap.objs.size+1,s1.heap.objs.size],_,_,H1,rfl,I2,pB l _ _ (Mr (My _)),⟨⟨_,he⟩,hit⟩,λb hb=>?_,q⟩
 have hb':s1.heap.objs.size<=b:=by
  rcases Lq.mp hb with rfl|hb
  ·exact Mz _
  ·have:b=s1.heap.objs.size:=by simpa using hb
   rw[this];exact Lo _
 exact I1.fpOk hb' (I1.hok.fresh hb')
end
end G
namespace G
open PySem PySem.Spec PyProof.Rows L2
noncomputable def Ic(K:Lh)(a b:N2):It:=
 ⟨λi H=>∃xs ys x y,SqL K H a xs/\SqL K H b ys/\xs[i]?=NW x/\ys[i]?=NW y,λi H x H'=>∃p v u,H p=NX/\H'=upd H p (.tup [v,u])/\x=.ref p/\(∀xs,SqL K H a xs->xs[i]?=NW v)/\∀ys,SqL K H b ys->ys[i]?=NW u,
  λi H=>∃xs ys,SqL K H a xs/\SqL K H b ys/\(xs.length<=i\/ys.length<=i)⟩
theorem lx{h:Oc}{z TI TO i1 i2 l a b:N2}{us:Array N1}{x y:N1}{i j:Nat}(hl:h.IsList l us)(hz:IsZip h z TI TO .none)(hTI:IsPair h TI (.ref i1) (.ref i2))(hTO:IsPair h TO x y)(h1:h.IsListIter i1 a i)(h2:h.IsListIter i2 b j):∀c∈[z,TI,TO,i1,i2],l≠c:=λc hc e=>by
 subst e;obtain⟨o,q,q1,_⟩:=hl;simp only[Lq,L7,or_false] at hc;rcases hc with rfl|rfl|rfl|rfl|rfl
 ·rw[hz] at q;cases q;exact absurd (show Value.type "zip" = .type "list" from q1) (by decide)
 ·rw[hTI] at q;cases q;exact absurd (show Value.type "tuple" = .type "list" from q1) (by decide)
 ·rw[hTO] at q;cases q;exact absurd (show Value.type "tuple" = .type "list" from q1) (by decide)
 ·obtain⟨o2,r,r1,_⟩:=h1;rw[r] at q;cases q;rw[r1] at q1;exact absurd q1 (by decide)
 ·obtain⟨o2,r,r1,_⟩:=h2;rw[r] at q;cases q;rw[r1] at q1;exact absurd q1 (by decide)
theorem Ak{h:Oc}{z TI TO i1 i2 a b:N2}{us vs:Array N1}{x y:N1}{i j:Nat}(nd:[z,TI,TO,i1,i2].Nodup)(hl:h.IsList a us)(hl2:h.IsList b vs)(hz:IsZip h z TI TO .none)(hTI:IsPair h TI (.ref i1) (.ref i2))(hTO:IsPair h TO x y)(h1:h.IsListIter i1 a i)(h2:h.IsListIter i2 b j):ZipApart z TI TO i1 i2 a b:=by
 have n1:=lx hl hz hTI hTO h1 h2;have n2:=lx hl2 hz hTI hTO h1 h2;simp only[LV,Lq,L7,or_false,not_or,List.nodup_nil,and_true,not_false_iff] at nd;obtain⟨⟨a1,a2,a3,a4⟩,⟨b1,b2,b3⟩,⟨c1,c2⟩,d1⟩:=nd;exact⟨Ne.symm a1,Ne.symm a2,Ne.symm a3,Ne.symm a4,b1,b2,b3,c1,c2,d1,n1 _ (by simp),n1 _ (by simp),n1 _ (by simp),n1 _ (by simp),n2 _ (by simp),n2 _ (by simp),n2 _ (by simp),n2 _ (by simp)⟩
theorem uW{P:N8}{w:Oa}{K:Lh}{es:List N0}{kk:Nat}{tp:Pos}(a b z TI TO i1 i2:N2)(nd:[z,TI,TO,i1,i2].Nodup):o8 P w K (.Tuple es kk tp) (Ic K a b) [z,TI,TO,i1,i2] z (λi h=>IsZip h z TI TO .none/\IsPair h TI (.ref i1) (.ref i2)/\(∃x y,IsPair h TO x y)/\h.IsListIter i1 a i/\h.IsListIter i2 b i) where
 mem:=by simp
 obj:=λi h st c hc=>by
  obtain⟨h1,h2,⟨x,y,h3⟩,⟨o4,h4,h5,h6⟩,o7,h7,h8,h9⟩:=st;simp only[Lq,L7,or_false] at hc;rcases hc with rfl|rfl|rfl|rfl|rfl
  ·exact⟨_,h1,λv z=>by
    have z':Data.fields _=Data.cell v:=z;cases z'⟩
  ·exact⟨_,h2,λv z=>by
    have z':Data.seq _ _=Data.cell v:=z;cases z'⟩
  ·exact⟨_,h3,λv z=>by
    have z':Data.seq _ _=Data.cell v:=z;cases z'⟩
  ·exact⟨o4,h4,λv z=>by rw[h6] at z;cases z⟩
  ·exact⟨o7,h7,λv z=>by rw[h9] at z;cases z⟩
 keep:=λi h h' st k=>by
  obtain⟨h1,h2,⟨x,y,h3⟩,h4,h5⟩:=st;exact⟨k z (by simp) _ h1,k TI (by simp) _ h2,⟨x,y,k TO (by simp) _ h3⟩,h4.at λo q=>k i1 (by simp) o q,h5.at λo q=>k i2 (by simp) o q⟩
 item:=by
  intro X hP hw hK hc i pins s σ H E I hf st hg;subst hP hw hK;obtain⟨hz,hTI,⟨x0,y0,hTO⟩,hi1,hi2⟩:=st;obtain⟨xs,ys,x,y,hq,hq2,hx,hy⟩:=hg;obtain⟨its,rv,p,hsz⟩:=I.list hq;obtain⟨its2,rv2,p2,hsz2⟩:=I.list hq2;obtain⟨u,hu,ru⟩:=rv.get hx;obtain⟨u2,hu2,ru2⟩:=rv2.get hy;have un:∀c∈[z,TI,TO,i1,i2],H c=NX:=λc hc=>(hf c hc).1;have D:=Ak nd p.isList p2.isList hz hTI hTO hi1 hi2
  have hlt:∀c∈[z,TI,TO,i1,i2],c<s.heap.objs.size:=λc hc=>by
   simp only[Lq,L7,or_false] at hc;rcases hc with rfl|rfl|rfl|rfl|rfl
   ·exact Lp hz
   ·exact Lp hTI
   ·exact Lp hTO
   ·obtain⟨o,q,_⟩:=hi1;exact Lp q
   ·obtain⟨o,q,_⟩:=hi2;exact Lp q
  refine wpAny_pyNext_zip_item D hz hTI hTO hi1 hi2 p.isList p2.isList (x:=u) (y:=u2) (by simpa using hu) (by simpa using hu2) λh1 hz1 hTO1 hi11 hi21 ht hs1 kk1=>?_;refine⟨_,rfl,wpAny_letOwnedTupleGo_zip hz1 λh2 hz2 sb2=>?_⟩;have sb2':Heap.SameBut z h1 h2:=sb2
  have step1:∀c o,c∉[z,TI,TO,i1,i2]->s.heap.get? c=NW o->h2.get? c=NW o:=λc o n q=>
   (sb2'.2 c (λe=>n (by simp[e]))).trans (kk1 c o (λe=>n (by simp[e])) (λe=>n (by simp[e])) (λe=>n (by simp[e])) (λe=>n (by simp[e])) q)
  have fr:=I.hok.fresh (Lo s.heap.objs.size);have htup:h2.get? s.heap.objs.size=NW { cls:=.type "tuple",data:=.seq #[u,u2] }:=(sb2'.2 _ (Mr (hlt z (by simp)))).trans ht
  have I1:Inv X pins σ (upd H s.heap.objs.size (.tup [x,y])) { s with heap:=h2 }:=by
   have nit:∀c o,H c=NW o->c∉[z,TI,TO,i1,i2]:=λc o q hc=>by rw[un c hc] at q;cases q
   have hok':HOk X.prog X.w (upd H s.heap.objs.size (.tup [x,y])) h2:=λc o q=>by
    by_cases hb:c=s.heap.objs.size
    ·subst hb;rw[aG] at q;cases q;exact⟨(by show 2<=sizeLine;decide),[u,u2],.cons ru (.cons ru2 .nil),_,htup,rfl,_,rfl⟩
    ·rw[al hb] at q;refine(I.hok c o q).stay (λd v hc' q'=>step1 d v ?_ q') (λd q'=>by rw[al (aD q' fr)];exact q') λd ys q'=>by rw[al (aD q' fr)];exact q'
     rcases hc' with rfl|hc'
     ·exact nit _ _ q
     ·exact nit _ _ hc'
   refine I.step (g':=s.gens) (d':=s.drawn) (t':=s.toks) (ch:=[z,TI,TO,i1,i2]) (λc hc=>?_) (λc o _ _ hcx q _=>step1 c o hcx q)
    (λc o _ _ hcx q _=>⟨o.slots,step1 c o hcx q⟩) (λc o hcx q n=>by rw[al (LG (Lp q))];exact n)
    (λc o hcx q=>⟨o,step1 c o hcx q⟩) (λc ys q=>by rw[al (aD q fr)];exact q) (λc o z q=>by rw[al (aD q fr)];exact q)
    (λc ps q=>⟨#[],by rw[al (aD q fr),q];simp⟩) (λm hm=>?_) hok' I.bare
   ·obtain⟨f0,f1,f2,f3,f4,f5⟩:=hf c hc;exact⟨f3,f1,f4,f5⟩
   ·obtain⟨o,es',ep,ho',r'⟩:=hm;exact⟨o,es',ep,step1 _ o (λhc=>(hf _ hc).2.1 rfl) ho',r'⟩
  refine⟨.ref s.heap.objs.size,_,I1,rfl,⟨s.heap.objs.size,x,y,fr,rfl,rfl,λzs hy=>by rw[I.list_inj hy hq];exact hx,λzs hz=>by rw[I.list_inj hz hq2];exact hy⟩,⟨hz2,?_,⟨u,u2,(sb2'.2 TO D.TOz).trans hTO1⟩,hi11.extBut sb2'.extBut D.i1z,hi21.extBut sb2'.extBut D.i2z⟩,λc hc=>?_⟩
  ·exact(sb2'.2 TI D.TIz).trans (kk1 TI _ D.TIz D.TITO D.TIi1 D.TIi2 hTI)
  ·rw[al (LG (hlt c hc))];exact un c hc
 done:=by
  intro X hP hw hK hc i pins s σ H E I hf st hg;subst hP hw hK;obtain⟨hz,hTI,⟨x0,y0,hTO⟩,hi1,hi2⟩:=st;obtain⟨xs,ys,hq,hq2,hx⟩:=hg;obtain⟨its,rv,p,hsz⟩:=I.list hq;obtain⟨its2,rv2,p2,hsz2⟩:=I.list hq2;have D:=Ak nd p.isList p2.isList hz hTI hTO hi1 hi2;have l1:=rv.length;have l2:=rv2.length;refine wpAny_pyNext_zip_end (I.ok.hd hc) D hz hTI hTO hi1 hi2 p.isList p2.isList (hx.imp (λh=>by simp;lia) λh=>by simp;lia) λh' kk=>⟨rfl,?_⟩;have un:∀c∈[z,TI,TO,i1,i2],H c=NX:=λc hc=>(hf c hc).1
  have step1:∀c o,c∉[z,TI,TO,i1,i2]->s.heap.get? c=NW o->h'.get? c=NW o:=λc o n q=>
   kk c o (λe=>n (by simp[e])) (λe=>n (by simp[e])) (λe=>n (by simp[e])) (λe=>n (by simp[e])) q
  have nit:∀c o,H c=NW o->c∉[z,TI,TO,i1,i2]:=λc o q hc=>by rw[un c hc] at q;cases q
  refine I.step (g':=s.gens) (d':=s.drawn) (t':=s.toks) (ch:=[z,TI,TO,i1,i2]) (λc hc=>?_) (λc o _ _ hcx q _=>step1 c o hcx q)
   (λc o _ _ hcx q _=>⟨o.slots,step1 c o hcx q⟩) (λ_ _ _ _ n=>n)
   (λc o hcx q=>⟨o,step1 c o hcx q⟩) (λ_ _ q=>q) (λ_ _ _ q=>q)
   (λc ps q=>⟨#[],by rw[q];simp⟩) (λm hm=>?_) (λc o q=>?_) I.bare
  ·obtain⟨f0,f1,f2,f3,f4,f5⟩:=hf c hc;exact⟨f3,f1,f4,f5⟩
  ·obtain⟨o,es',ep,ho',r'⟩:=hm;exact⟨o,es',ep,step1 _ o (λhc=>(hf _ hc).2.1 rfl) ho',r'⟩
  ·refine(I.hok c o q).stay (λd v hc' q'=>step1 d v ?_ q') (λd q'=>q') λd ys q'=>q';rcases hc' with rfl|hc'
   ·exact nit _ _ q
   ·exact nit _ _ hc'
 self:=λ_ _ _ _ _ st h=>wpAny_pyIter_zip st.1 h
section
variable {X:Cx}
noncomputable def Ie(K:Lh)(ta:TA):TI:=λσ H R=>ta σ H λvs H1=>∃a b,vs=[.ref a,.ref b]/\(∃xs,SqL K H1 a xs)/\(∃ys,SqL K H1 b ys)/\R (Ic K a b) H1
theorem BE{a b:N0}{kk:Nat}(hg:Gl X "zip")(hm:X.mg "zip" = NX)(ha:PA X [a,b] ta)(hs:Ob [a,b] X.env=[(NZ,eval a X.env),(NZ,eval b X.env)])(hs2:Ob [b] X.env=[(NZ,eval b X.env)]) :
  PI X (.Tuple es kk tp) (.Call (.Name "zip" p) [a,b] [] pos) (Ie X.K ta):=by
 intro pins s σ H R I h;refine Call_ (dX I hg hm boot_zip (PyProof.Rows.callWith_type1 (bB (ha pos pins s σ H _ I h) λus s1 ⟨vs,H1,I1,r1,q1⟩=>?_) (by rw[hs,hs2]) (by rw[hs2];rfl)));obtain⟨l,l2,e,⟨xs,hq⟩,⟨ys,hq2⟩,q⟩:=q1;subst e
 cases r1 with
 |cons rx r1=>cases r1 with
  |cons ry r1=>
   cases r1;cases rx;cases ry;obtain⟨its,rv,pl,hz⟩:=I1.list hq;obtain⟨its2,rv2,pl2,hz2⟩:=I1.list hq2;refine call_zip_2 pl.isList pl2.isList λh' he hti hto hi1 hi2 hsz hk=>?_;refine wpAny_pyIter_zip (s:={ s1 with heap:=h' }) he ?_;have I2:Inv X pins σ H1 { s1 with heap:=h' }:=I1.kept (t':=s1.toks) hk
   refine⟨s1.heap.objs.size+4,[s1.heap.objs.size+4,s1.heap.objs.size+2,s1.heap.objs.size+3,s1.heap.objs.size,s1.heap.objs.size+1],_,_,H1,rfl,I2,uW l l2 _ _ _ _ _ (by simp<;>lia),⟨he,hti,⟨_,_,hto⟩,hi1,hi2⟩,λc hb=>?_,q⟩
   have hb':s1.heap.objs.size<=c:=by
    simp only[Lq,L7,or_false] at hb;rcases hb with rfl|rfl|rfl|rfl|rfl
    ·exact Mh _ _
    ·exact Mh _ _
    ·exact Mh _ _
    ·exact Lo _
    ·exact Mh _ _
   exact I1.fpOk hb' (I1.hok.fresh hb')
end
end G
namespace G
open PySem PySem.Spec PyProof.Rows L2
section
variable {X:Cx}
end
end G
namespace G
open PySem PySem.Spec PyProof.Rows L2
end G
namespace G
open PySem PySem.Spec PyProof.Rows L2
section
variable {X:Cx}
end
end G
namespace G
open PySem PySem.Spec PyProof.Rows L2
section
variable {X:Cx}
noncomputable def ED(ta:TA):TE:=λσ H Q=>ta σ H λvs H1=>∃j:Int,vs=[.int j]/\0<=j/\j<=100000/\∀l,H1 l=NX->Q (.ref l) (upd H1 l (.lst ((Ln j.toNat).map λ(i:Nat)=>V.int (i:Int))))
theorem xU{a:N0}(hc:X.calm=NY)(hg:Gl X "list")(hm:X.mg "list" = NX)(hg2:Gl X "range")(hm2:X.mg "range" = NX)(ha:PA X [a] ta)(hs:Ob [a] X.env=[(NZ,eval a X.env)])(hs2:Ob [.Call (.Name "range" p2) [a] [] pos2] X.env=[(NZ,eval (.Call (.Name "range" p2) [a] [] pos2) X.env)]:=by rfl) :
  PE X (.Call (.Name "list" p) [.Call (.Name "range" p2) [a] [] pos2] [] pos) (ED ta):=by
 intro pins s σ H Q I h;refine Call_ (dX I hg hm boot_list (PyProof.Rows.callWith_type1 ?_ hs2 rfl));rw[hs2];refine Calls.spliced_cons ?_;refine Call_ (dX I hg2 hm2 boot_range (PyProof.Rows.callWith_type1 (bB (ha pos2 pins s σ H _ I h) λus s1 ⟨vs,H1,I1,r1,j,e,h0,h1,q⟩=>?_) hs rfl));subst e;obtain⟨u,rfl,ru⟩:=r1.one;obtain⟨t,rfl⟩:=ru;refine call_range_1 (Calls.spliced_nil ?_);have hh:X.A.handled=NX:=I.ok.hd hc
 refine call_list_range (n:=j.toNat) hh (IsRange.new ..) (small_one (by decide) (by decide) (by lia) (by lia)) (by rw[rangeSize_one];split<;>lia) (by lia) λh' tk acc' c' kp new its=>?_
 have key:Vals ((Ln j.toNat).map λ(i:Nat)=>V.int (i:Int)) acc'.toList:=by
  have all:∀(n:Nat) (l:List N1),l.length=n->(∀(i:Nat) v,l[i]?=NW v->∃t,v=.int ((i:Int)) t)->Vals ((Ln n).map λ(i:Nat)=>V.int (i:Int)) l:=by
   intro n
   induction n with
   |zero=>intro l hl _;rw[Nh.mp hl];exact .nil
   |succ n ih=>
    intro l hl hv;have hne:l≠[]:=λz=>by rw[z] at hl;simp at hl
    rw[<- List.dropLast_concat_getLast hne,MB,Lw];refine(ih _ (by rw[List.length_dropLast];lia) λi v hi=>hv i v ?_).append (.cons ?_ .nil)
    ·rw[List.getElem?_dropLast] at hi;split at hi
     ·exact hi
     ·cases hi
    ·obtain⟨t,e⟩:=hv n (l.getLast hne) (by rw[List.getLast_eq_getElem];rw[Lm (by lia)];congr 1;simp only[hl];rfl);exact⟨t,e⟩
  refine all _ _ (by rw[MX];exact its.1) λi v hv=>?_;obtain⟨t,e⟩:=its.2 i v (by simpa using hv);exact⟨t,by rw[e];congr 1;lia⟩
 have hle:s1.heap.objs.size<=(s1.heap.push { cls:=.type "range",data:=.fields #[.int 0 s1.toks,.int j t,.int 1 (s1.toks+1)] }).objs.size:=by
  rw[MH];exact Mz _
 have ok:ObjOk X.prog X.w (upd H1 (s1.heap.push { cls:=.type "range",data:=.fields #[.int 0 s1.toks,.int j t,.int 1 (s1.toks+1)] }).objs.size (.lst ((Ln j.toNat).map λ(i:Nat)=>V.int (i:Int)))) h' (s1.heap.push { cls:=.type "range",data:=.fields #[.int 0 s1.toks,.int j t,.int 1 (s1.toks+1)] }).objs.size (.lst ((Ln j.toNat).map λ(i:Nat)=>V.int (i:Int))):=
  ⟨by rw[Li,Lz,sizeLine_eq];lia,acc'.toList,c',key,by simpa using new⟩
 exact⟨.ref (s1.heap.push { cls:=.type "range",data:=.fields #[.int 0 s1.toks,.int j t,.int 1 (s1.toks+1)] }).objs.size,_,I1.laid (t':=tk) (λb o e=>kp b o (Ls _ e)) hle ok,rfl,q _ (I1.hok.fresh hle)⟩
end
end G
namespace L2
open PySem PySem.Spec PyProof.Rows
section
variable {X:Cx} {pins:List (N2×Obj)} {σ:St} {H:Hp} {s:N3}
noncomputable def iE(wi:TI)(g:TG)(tt:TT)(te:TE)(cap:List (Option Nat)):TE:=λσ H Q=>wi σ H λJ H1=>∀D,H1 D=NX->∃W:Nat->Nat->St->Hp->Prop,(∃m,W 0 m (dQ σ cap) (upd H1 D (.lst [])))/\∀i m σ' H',W i m σ' H'->
 (J.stop i H'/\Q (.ref D) H')\/(J.go i H'/\∀x H2,J.yld i H' x H2->g x σ' H2 λσ2 H3=>tt σ2 H3 λok H3=>if ok=NY then te σ2 H3 λy H4=>∃ys,H4 D=NW (.lst ys)/\ys.length<sizeLine/\∃m',m'<m/\W (i+1) m' σ2 (upd H4 D (.lst (ys++[y]))) else ∃m',m'<m/\W (i+1) m' σ2 H3)
noncomputable def DM(X:Cx)(ifs:List N0)(tt:TT):Prop:=∀(pins:List (N2×Obj)) (s:N3) (σ:St) (H:Hp) (Q:Bool->Hp->Prop),Inv X pins σ H s->tt σ H Q->
 N5 (N6 X.prog X.w) X.A (forIn ifs NY λc r=>if r=NY then do let ok <- isTrue c X.env (eval c X.env);pure (ForInStep.yield ok) else pure (ForInStep.yield r)) (TP X pins σ Q) X.xe s
theorem qN:DM X [] (λ_ H Q=>Q NY H):=λpins s σ H Q I h=>wpAny_tests_nil ⟨H,I,h⟩
theorem qO{c:N0}(h:PT X c t):DM X [c] t:=λpins s σ H Q I q=>wpAny_tests_one (h pins s σ H Q I q)
theorem ly(hc:X.calm=NY)(O:jP X N' scope cap)(hi:PI X tg iter wi)(hg:∀C s H ex,PG (aX X N' scope C s H ex) tg g)(ht:∀C s H ex,DM (aX X N' scope C s H ex) ifs tt)(he:∀C s H ex,PE (aX X N' scope C s H ex) elt te){Q:VK}(I:Inv X pins σ H s)(h:iE wi g tt te cap σ H Q)(hs:∀x,foldedSetIterable iter X.env x=pure x)(hX:X.xe=E)(hQ:∀(C D:N2) (s1:N3) (H1:Hp) (fp:List N2) (σ':St) (H':Hp) (s':N3),Inv X pins σ H1 s1->(∀b∈fp,jG X pins H1 b)->Inv (aX X N' scope C s1 H1 fp) [] σ' H' s'->Q (.ref D) H'->
   compPost (N6 X.prog X.w) X.A E use Q' (.ref D) C (.ok .next) s') :
  N5 (N6 X.prog X.w) X.A (comprehension (.ListComp elt [⟨tg,iter,ifs,0⟩] scope pos) scope X.env cpos (newList []) NZ (eval iter X.env) use) Q' E s:=by
 have hcl:closureFor scope X.env=pure (gh X.env.cells scope.names []):=kY λy hy e=>I.ok.has _ (O.free y hy e);refine wpAny_comprehension_free (g:=⟨tg,iter,ifs,0⟩) (gs:=[]) rfl hs hcl O.kind O.names ?_;subst hX;refine bB (hi pins s σ H _ I h) λv s1 h1=>bB h1 λitv s2 h2=>?_;obtain⟨it,fp,tn,J,H2,e,I2,T,st2,f2,hW⟩:=h2;subst e;refine Os (kZ ?_);dsimp only;generalize hH2:s2.heap.push { cls:=.type "list",dict:=NX,data:=.seq ([]:List N1).toArray }=HH;have hCs:HH.objs.size=s2.heap.objs.size+1:=by rw[<- hH2,MH]
 have hDC:s2.heap.objs.size<HH.objs.size:=by rw[hCs];exact My _
 generalize hh1:pushCells (HH.push { cls:=.type "dict",data:=.dict #[] }) scope.names=h₁;have kp:∀b o,HH.get? b=NW o->h₁.get? b=NW o:=λb o e=>hh1▸pushCells_keeps _ _ b o (Ls _ e);have hns₁:h₁.Ns HH.objs.size λ_=>NX:=hh1▸(Heap.Ns.new HH (.type "dict")).keeps (pushCells_keeps _ _)
 have hcs:∀x c,(Og (HH.objs.size+1) scope.names []).lookup x=NW c->h₁.IsCell c NX:=λx c e=>by
  have ok:=cellsFrom_ok scope.names (HH.push { cls:=.type "dict",data:=.dict #[] }) 0 [] ⟨λ_ _ hm=>(nomatch hm),List.Pairwise.nil⟩ (LF _)
  rw[MH] at ok;exact hh1▸(ok.empty x c (cJ e)).1
 have old:∀b o,s2.heap.get? b=NW o->h₁.get? b=NW o:=λb o e=>kp b o (hH2▸Ls _ e);have new:h₁.get? s2.heap.objs.size=NW { cls:=.type "list",data:=.seq ([]:List N1).toArray }:=kp _ _ (hH2▸LL _ rfl);have hfo:∀b∈fp,b<s2.heap.objs.size:=λb hb=>let ⟨o,e,_⟩:=T.obj 0 _ st2 b hb;Lp e;have hfree:=I2.hok.fresh (Lo s2.heap.objs.size);obtain⟨W,⟨m0,w0⟩,turn⟩:=hW s2.heap.objs.size hfree;have J0:=uT (tk:=s2.toks) I2 O f2 hfo (C:=HH.objs.size) (D:=s2.heap.objs.size) (by rw[hCs];exact Mz _) (Lo _) hDC hcs hns₁ old new;have st0:tn 0 h₁:=T.keep 0 _ _ st2 λb _ o e=>old b o e
 have fr0:∀b∈fp,(upd H2 s2.heap.objs.size (.lst [])) b=NX:=λb hb=>by
  rw[al (LG (hfo b hb))];exact(f2 b hb).1
 have stat:∀{H':Hp},(∀b∈fp,H' b=NX)->∀b∈fp,jG (aX X N' scope HH.objs.size s2 H2 fp) [] H' b:=λhn b hb=>
  ⟨hn b hb,(J0.ok.exf b hb).1,J0.ok.exfs b hb,.inl hb,(J0.ok.exf b hb).2,λp hp=>absurd hp (by simp[aX])⟩
 have loop:codeAny (N6 X.prog X.w) X.A (.compLoop (.ListComp elt [⟨tg,iter,ifs,0⟩] scope pos) 0 (.ref it) (.ref s2.heap.objs.size) (compEnvC scope (DL X.env.cells scope.names HH.objs.size) HH.objs.size X.env))
   (compPost (N6 X.prog X.w) X.A X.xe use Q' (.ref s2.heap.objs.size) HH.objs.size) { s2 with heap:=h₁,toks:=s2.toks }:=by
  refine mB (λn s'=>∃i σ' H',Inv (aX X N' scope HH.objs.size s2 H2 fp) [] σ' H' s'/\tn i s'.heap/\(∀b∈fp,H' b=NX)/\W i n σ' H') ?_ m0 ⟨0,_,_,J0,st0,fr0,w0⟩
  rintro n s3 ⟨i,σ3,H3,I3,st3,fr3,w3⟩
  rcases turn i n σ3 H3 w3 with⟨stop,qn⟩|⟨go,step⟩
  ·refine bB (T.done (aX X N' scope HH.objs.size s2 H2 fp) rfl rfl rfl hc i [] s3 σ3 H3 _ I3 (stat fr3) st3 stop) λr s4 ⟨hr,I4⟩=>?_;subst hr;exact hQ _ _ s2 H2 fp σ3 H3 s4 I2 f2 I4 qn
  ·refine bB (T.item (aX X N' scope HH.objs.size s2 H2 fp) rfl rfl rfl hc i [] s3 σ3 H3 _ I3 (stat fr3) st3 go) λr s4 ⟨u,hr,h4⟩=>?_;subst hr;refine bB h4 λ_ s5 ⟨x,H5,I5,r5,y5,st5,fr5⟩=>?_;have I5':=I5.pinned (stat fr5) (T.obj _ _ st5);refine bB (hg _ _ _ _ _ s5 σ3 H5 x u _ I5' r5 (step x H5 y5)) λ_ s6 ⟨σ6,H6,I6,q6⟩=>?_;refine bB (ht _ _ _ _ _ s6 σ6 H6 _ I6 q6) λok s6' ⟨H6',I6',q6'⟩=>?_
   cases ok with
   |false=>
    rw[if_neg Mj] at q6'⊢;obtain⟨m',hm,w7⟩:=q6';refine⟨m',hm,i+1,σ6,_,I6'.unpinned,T.keep _ _ _ st5 λb hb o e=>(I6'.pin (b,o) (LA _ (LA _ (cI hb e)))).1,λb hb=>?_,w7⟩;obtain⟨o,e,d⟩:=T.obj _ _ st5 b hb;exact(I6'.pin (b,o) (LA _ (LA _ (cI hb e)))).2.1
   |true=>
   rw[if_pos rfl] at q6'⊢;refine bB (he _ _ _ _ _ s6' σ6 H6' _ I6' q6') λyv s7 ⟨y,H7,I7,r7,ys,hD,hz,m',hm,w7⟩=>?_;refine bB (fD _ s7 σ6 H7 (.ref s2.heap.objs.size) [y] (.ref s2.heap.objs.size) [yv] (λv H'=>v=.non/\H'=upd H7 s2.heap.objs.size (.lst (ys++[y]))) I7 rfl (.cons r7 .nil) ⟨_,ys,y,rfl,rfl,hD,hz,rfl,rfl⟩) λ_ s8 ⟨_,H8,I8,_,_,e8⟩=>?_;subst e8;refine⟨m',hm,i+1,σ6,_,I8.unpinned,T.keep _ _ _ st5 λb hb o e=>(I8.pin (b,o) (LA _ (LA _ (cI hb e)))).1,λb hb=>?_,w7⟩;obtain⟨o,e,d⟩:=T.obj _ _ st5 b hb;exact(I8.pin (b,o) (LA _ (LA _ (cI hb e)))).2.1
 exact codeAny_compStart_list loop (T.self _ 0 _ _ _ st0 loop)
theorem nM(hc:X.calm=NY)(O:jP X N' scope cap)(hi:PI X tg iter wi)(hg:∀C s H ex,PG (aX X N' scope C s H ex) tg g)(ht:∀C s H ex,DM (aX X N' scope C s H ex) ifs tt)(he:∀C s H ex,PE (aX X N' scope C s H ex) elt te)(hs:∀x,foldedSetIterable iter X.env x=pure x:=by intro _;rfl):PE X (.ListComp elt [⟨tg,iter,ifs,0⟩] scope pos) (iE wi g tt te cap):=by
 intro pins s σ H Q I h;rw[eval_ListComp];refine ly (use:=NX) (Q':=EP X pins σ Q) hc O hi hg ht he I h hs rfl λC D s1 H1 fp σ' H' s' I1 f1 J q=>?_;obtain⟨m,hn,_⟩:=J.loc;exact⟨m,hn,λh' hsb=>⟨.ref D,H',nL I1 f1 J hsb,rfl,q⟩⟩
theorem uX{cpos pos' pos:Pos}{i:Nat}{x:Str}(hc:X.calm=NY)(O:jP X N' scope cap)(hi:PI X tg iter wi)(hg:∀C s H ex,PG (aX X N' scope C s H ex) tg g)(ht:∀C s H ex,DM (aX X N' scope C s H ex) ifs tt)(he:∀C s H ex,PE (aX X N' scope C s H ex) elt te)(hs:∀x,foldedSetIterable iter X.env x=pure x)(hN:X.N.Nodup)(hix:X.N[i]?=NW x)(hx:AZ X.env.scope x)(hf:X.fn x=NY\/X.env.scope.names.lookup x=NW .local)(hsw:swapsWith (.ListComp elt [⟨tg,iter,ifs,0⟩] scope cpos) (NW (.Name x pos')) pos.line X.env=pure NY) :
  PS X (.Assign [.Name x pos'] (.ListComp elt [⟨tg,iter,ifs,0⟩] scope cpos) pos) (A9 (iE wi g tt te cap) (jF i)):=by
 intro pins s σ H D I h;rw[exec_Assign_Name_used _ _ _ _ hsw];refine N4 (wpAny_standAt (N4 ?_));show N5 _ _ (do let _ <- comprehension (.ListComp elt [⟨tg,iter,ifs,0⟩] scope cpos) scope X.env _ (newList []) NZ (eval iter X.env) (NW (assign (.Name x pos') X.env))) _ _ s;refine N4 (wpAny_mono (ly (use:=NW (assign (.Name x pos') X.env)) (Q':=λ_ s'=>∃σ' H',Inv X pins σ' H' s'/\D.nx σ' H') hc O hi hg ht he I h hs rfl λC D1 s1 H1 fp σ' H' s' I1 f1 J q=>?_) (λ_ s' hq=>N7 (N7 hq)) λ_ _ e=>e);show N5 _ _ (assign (.Name x pos') X.env (.ref D1)) _ _ s';have I2:Inv X pins σ H' s':=nL I1 f1 J (Heap.SameBut.refl C s'.heap);have hC:s1.heap.objs.size<=C:=J.ok.above;have old:∀b o,s1.heap.get? b=NW o->b≠C:=λb o e=>LG (Lr (Lp e) hC);obtain⟨m1,⟨oL,_,_,gL,_⟩,_⟩:=id I1.loc;have hL:X.env.locals≠C:=old _ _ gL
 have hcl:∀x c,X.env.cells.lookup x=NW c->c≠C:=λx c e=>by
  obtain⟨v,o,g,_⟩:=I1.cell x c e;exact old _ _ g
 have hpn:∀p∈X.pn++pins,p.1≠C:=λp hp=>old _ _ (I1.pin p hp).1
 have h0:X.s₀.heap.objs.size<=C:=by
  refine LM ?_ hC;exact Nd (Mc I1.ok.above (Lp gL))
 obtain⟨m,hn,_⟩:=J.loc;refine wpAny_assign_Name (lf I2 hN hix hx (v:=.ref D1) rfl (λs3 I3 hsb=>?_) hf);obtain⟨a,hsb,ha⟩:=hsb
 have hCa:C≠a:=by
  rcases ha with rfl|ha
  ·exact Ne.symm hL
  ·exact Ne.symm (hcl _ _ ha)
 exact⟨m,hn.sameBut hsb hCa,λh' hs'=>⟨_,H',I3.junk hs' h0 hL hcl hpn J.free,q⟩⟩
end
end L2
namespace J
open PySem PySem.Spec PyProof.Rows L2
noncomputable abbrev DK:=aV ⊕ List (aV ⊕ List aV)
inductive Hd where
 |lst|tup|dic (t:Nat) (ks:List DK)|obj (c:Str) (ns:List Str)
 deriving DecidableEq
inductive D where
 |non|bl (b:Bool)|int (i:Int)|str (x:Str)|scr (ns:List Int)|nd (h:Hd) (ds:List D)
noncomputable abbrev D.lst(ds:List D):D:=.nd .lst ds
noncomputable abbrev D.tup(ds:List D):D:=.nd .tup ds
noncomputable abbrev D.dic(t:Nat)(ks:List DK)(ds:List D):D:=.nd (.dic t ks) ds
noncomputable abbrev D.obj(c:Str)(ns:List Str)(ds:List D):D:=.nd (.obj c ns) ds
noncomputable def Hd.mu:Hd->Bool
 |.tup=>NZ
 |_=>NY
noncomputable def EB(K:Lh)(a:N2)(xs:List V):Prop:=
 ∃(o:Obj) (its:Array N1) (n:Nat),K.lookup a=NW o/\o.cls=.type "list"/\o.dict=NX/\o.data=.seq its n/\its.size<=sizeLine/\Vals xs its.toList
noncomputable def eV(K:Lh)(o:HO):Hd->List V->Prop
 |.lst,xs=>o=.lst xs
 |.tup,xs=>o=.tup xs
 |.dic t ks,xs=>(t=0/\∃kvs:List (aV×V),o=.dK kvs/\ks=kvs.map (λp=>Sum.inl p.1)/\xs=kvs.map (·.2))\/(∃m,t=m+1/\∃(kvs:List (List (aV ⊕ List aV)×V)) (ep:Nat),o=.dT m ep kvs/\ks=kvs.map (λp=>Sum.inr p.1)/\xs=kvs.map (·.2))
 |.obj c ns,xs=>∃C dx,MP K Oh c=NW (NW (.ref C))/\(Cls K C/\∀f∈ns,me K C f)/\o=.ins C dx (ns.zip xs)/\ns.length=xs.length
noncomputable abbrev Pr:=N2->Prop
mutual
noncomputable def Rp(K:Lh)(H:Hp)(S:Pr):D->V->Prop
 |.non,v=>v=.non
 |.bl b,v=>v=.bl b
 |.int i,v=>v=.int i
 |.str x,v=>v=.str x
 |.scr ns,v=>∃a,v=.ref a/\((¬S a/\Rd H a (.lst (ns.map V.int)))\/EB K a (ns.map V.int))
 |.nd h ds,v=>∃a o xs,v=.ref a/\¬S a/\H a=NW o/\eV K o h xs/\RpL K H S ds xs
noncomputable def RpL(K:Lh)(H:Hp)(S:Pr):List D->List V->Prop
 |[],xs=>xs=[]
 |d::ds,xs=>∃y ys,xs=y::ys/\Rp K H S d y/\RpL K H S ds ys
end
section
variable {K:Lh} {H H':Hp} {S S':Pr}
mutual
theorem Rp.go(k:∀b o,¬S b->H b=NW o->H' b=NW o/\¬S' b):∀{d:D} {v:V},Rp K H S d v->Rp K H' S' d v
 |.non,_,h=>h
 |.bl _,_,h=>h
 |.int _,_,h=>h
 |.str _,_,h=>h
 |.scr ns,v,h=>by
  unfold Rp at h⊢;obtain⟨a,e,h⟩:=h;refine⟨a,e,?_⟩;rcases h with⟨n,g|⟨o,g⟩⟩|h
  ·exact .inl ⟨(k _ _ n g).2,.inl (k _ _ n g).1⟩
  ·exact .inl ⟨(k _ _ n g).2,.inr ⟨o,(k _ _ n g).1⟩⟩
  ·exact .inr h
 |.nd hd ds,v,h=>by
  unfold Rp at h⊢;obtain⟨a,o,xs,e,n,g,q,r⟩:=h;exact⟨a,o,xs,e,(k _ _ n g).2,(k _ _ n g).1,q,RpL.go k r⟩
theorem RpL.go(k:∀b o,¬S b->H b=NW o->H' b=NW o/\¬S' b):∀{ds:List D} {vs:List V},RpL K H S ds vs->RpL K H' S' ds vs
 |[],_,h=>by unfold RpL at h⊢;exact h
 |d::ds,_,h=>by
  unfold RpL at h⊢;obtain⟨y,ys,e,r,t⟩:=h;exact⟨y,ys,e,Rp.go k r,RpL.go k t⟩
end
theorem Rp.same(s:Same H H'){d:D}{v:V}(h:Rp K H S d v):Rp K H' S d v:=h.go λb o n e=>⟨s b o e,n⟩
theorem RpL.same(s:Same H H'){d:List D}{v:List V}(h:RpL K H S d v):RpL K H' S d v:=h.go λb o n e=>⟨s b o e,n⟩
theorem Rp.weak(k:∀b,S' b->S b){d:D}{v:V}(h:Rp K H S d v):Rp K H S' d v:=h.go λb o n e=>⟨e,λz=>n (k b z)⟩
theorem RpL.weak(k:∀b,S' b->S b){d:List D}{v:List V}(h:RpL K H S d v):RpL K H S' d v:=h.go λb o n e=>⟨e,λz=>n (k b z)⟩
theorem RpL.len:∀{ds:List D} {vs:List V},RpL K H S ds vs->vs.length=ds.length
 |[],_,h=>by unfold RpL at h;rw[h];rfl
 |d::ds,_,h=>by
  unfold RpL at h;obtain⟨y,ys,rfl,_,t⟩:=h;rw[LW,LW,RpL.len t]
theorem RpL.nil:RpL K H S [] []:=by unfold RpL;rfl
theorem RpL.cons{d:D}{v:V}{ds:List D}{vs:List V}(h1:Rp K H S d v)(h2:RpL K H S ds vs):RpL K H S (d::ds) (v::vs):=by unfold RpL;exact⟨v,vs,rfl,h1,h2⟩
theorem RpL.nil_inv(h:RpL K H S [] vs):vs=[]:=by unfold RpL at h;exact h
theorem RpL.cons_inv(h:RpL K H S (d::ds) vs):∃y ys,vs=y::ys/\Rp K H S d y/\RpL K H S ds ys:=by unfold RpL at h;exact h
theorem RpL.getD:∀{ds:List D} {vs:List V} {i:Nat} {d:D},RpL K H S ds vs->ds[i]?=NW d->∃v,vs[i]?=NW v/\Rp K H S d v
 |[],_,_,_,_,e=>by simp at e
 |d::ds,_,0,d',h,e=>by obtain⟨y,ys,rfl,r,t⟩:=h.cons_inv;simp at e;subst e;exact⟨y,rfl,r⟩
 |d::ds,_,i+1,d',h,e=>by obtain⟨y,ys,rfl,r,t⟩:=h.cons_inv;simpa using RpL.getD t (by simpa using e)
theorem RpL.append:∀{ds es:List D} {vs us:List V},RpL K H S ds vs->RpL K H S es us->RpL K H S (ds++es) (vs++us)
 |[],_,_,_,h,g=>by rw[h.nil_inv];exact g
 |d::ds,_,_,_,h,g=>by obtain⟨y,ys,rfl,r,t⟩:=h.cons_inv;exact .cons r (RpL.append t g)
theorem RpL.take:∀{ds:List D} {vs:List V} (n:Nat),RpL K H S ds vs->RpL K H S (ds.take n) (vs.take n)
 |_,_,0,_=>by simpa using RpL.nil
 |[],_,_+1,h=>by rw[h.nil_inv];simpa using RpL.nil
 |d::ds,_,n+1,h=>by obtain⟨y,ys,rfl,r,t⟩:=h.cons_inv;exact .cons r (RpL.take n t)
theorem RpL.drop:∀{ds:List D} {vs:List V} (n:Nat),RpL K H S ds vs->RpL K H S (ds.drop n) (vs.drop n)
 |_,_,0,h=>h
 |[],_,_+1,h=>by rw[h.nil_inv];simpa using RpL.nil
 |d::ds,_,n+1,h=>by obtain⟨y,ys,rfl,r,t⟩:=h.cons_inv;exact RpL.drop n t
theorem RpL.reverse{ds:List D}{vs:List V}(h:RpL K H S ds vs):RpL K H S ds.reverse vs.reverse:=by
 induction ds generalizing vs with
 |nil=>rw[h.nil_inv];exact .nil
 |cons d ds ih=>obtain⟨y,ys,rfl,r,t⟩:=h.cons_inv;rw[MJ,MJ];exact(ih t).append (.cons r .nil)
theorem RpL.ints:∀ns:List Int,RpL K H S (ns.map D.int) (ns.map V.int)
 |[]=>.nil
 |n::ns=>.cons (by unfold Rp;rfl) (RpL.ints ns)
theorem RpL.erase:∀{ds:List D} {vs:List V} (n:Nat),RpL K H S ds vs->RpL K H S (ds.eraseIdx n) (vs.eraseIdx n)
 |[],_,_,h=>by rw[h.nil_inv];simpa using RpL.nil
 |d::ds,_,0,h=>by obtain⟨y,ys,rfl,r,t⟩:=h.cons_inv;exact t
 |d::ds,_,n+1,h=>by obtain⟨y,ys,rfl,r,t⟩:=h.cons_inv;exact .cons r (RpL.erase n t)
end
mutual
noncomputable def jQ:D->Bool
 |.nd h ds=>!h.mu&&qP ds
 |.scr _=>NZ
 |_=>NY
noncomputable def qP:List D->Bool
 |[]=>NY
 |d::ds=>jQ d&&qP ds
end
noncomputable def MuOk(H:Hp)(S:Pr):Prop:=∀a,S a->∃o,H a=NW o/\∀xs,o≠.tup xs
section
variable {K:Lh} {H:Hp} {S S':Pr}
mutual
theorem Rp.im(m:MuOk H S'):∀{d:D} {v:V},jQ d=NY->Rp K H S d v->Rp K H S' d v
 |.non,_,_,h=>h
 |.bl _,_,_,h=>h
 |.int _,_,_,h=>h
 |.str _,_,_,h=>h
 |.scr ns,v,i,h=>by simp[jQ] at i
 |.nd hd ds,v,i,h=>by
  unfold Rp at h⊢;obtain⟨a,o,xs,e,n,g,q,r⟩:=h;rw[jQ,Lj] at i;refine⟨a,o,xs,e,λz=>?_,g,q,RpL.im m i.2 r⟩;obtain⟨o',e',ne⟩:=m a z;rw[g] at e';cases e'
  cases hd with
  |tup=>exact ne _ q
  |_=>exact absurd i.1 (by simp[Hd.mu])
theorem RpL.im(m:MuOk H S'):∀{ds:List D} {vs:List V},qP ds=NY->RpL K H S ds vs->RpL K H S' ds vs
 |[],_,_,h=>by unfold RpL at h⊢;exact h
 |d::ds,_,i,h=>by
  rw[qP,Lj] at i;obtain⟨y,ys,rfl,r,t⟩:=h.cons_inv;exact .cons (Rp.im m i.1 r) (RpL.im m i.2 t)
end
end
inductive Ow where
 |fz|own (es:List Ow) (r:Ow)
mutual
noncomputable def Tr(K:Lh)(H:Hp)(S:Pr):D->Ow->V->Pr->Prop
 |.nd h ds,.own es r,v,F=>∃a o xs F',v=.ref a/\H a=NW o/\eV K o h xs/\(h.mu=NY->¬F' a)/\(h.mu=NZ->¬S a)/\(∀b,F b↔(h.mu=NY/\b=a)\/F' b)/\TrL K H S ds es r xs F'
 |d,_,v,F=>(∀b,¬F b)/\Rp K H S d v
noncomputable def TrL(K:Lh)(H:Hp)(S:Pr):List D->List Ow->Ow->List V->Pr->Prop
 |[],_,_,xs,F=>xs=[]/\∀b,¬F b
 |d::ds,es,r,xs,F=>∃y ys F1 F2,xs=y::ys/\(∀b,F b↔F1 b\/F2 b)/\(∀b,F1 b->¬F2 b)/\Tr K H S d (es.headD r) y F1/\TrL K H S ds es.tail r ys F2
end
section
variable {K:Lh} {H H':Hp} {S S':Pr}
mutual
theorem Tr.go:∀{d:D} {k:Ow} {v:V} {F:Pr},(∀b o,(¬S b\/F b)->H b=NW o->H' b=NW o)->(∀b o,H b=NW o->¬S b->¬S' b)->Tr K H S d k v F->Tr K H' S' d k v F
 |.non,_,_,_,k1,k2,h=>by unfold Tr at h⊢;exact⟨h.1,h.2⟩
 |.bl _,_,_,_,k1,k2,h=>by unfold Tr at h⊢;exact⟨h.1,h.2⟩
 |.int _,_,_,_,k1,k2,h=>by unfold Tr at h⊢;exact⟨h.1,h.2⟩
 |.str _,_,_,_,k1,k2,h=>by unfold Tr at h⊢;exact⟨h.1,h.2⟩
 |.scr ns,_,_,_,k1,k2,h=>by unfold Tr at h⊢;exact⟨h.1,h.2.go λb o n e=>⟨k1 b o (.inl n) e,k2 b o e n⟩⟩
 |.nd hd ds,.fz,_,_,k1,k2,h=>by unfold Tr at h⊢;exact⟨h.1,h.2.go λb o n e=>⟨k1 b o (.inl n) e,k2 b o e n⟩⟩
 |.nd hd ds,.own es r,v,F,k1,k2,h=>by
  unfold Tr at h⊢;obtain⟨a,o,xs,F',e,g,q,n1,n2,hF,t⟩:=h
  have hg:H' a=NW o:=by
   cases hm:hd.mu with
   |true=>exact k1 a o (.inr ((hF a).mpr (.inl ⟨hm,rfl⟩))) g
   |false=>exact k1 a o (.inl (n2 hm)) g
  refine⟨a,o,xs,F',e,hg,q,n1,λhm=>k2 a o g (n2 hm),hF,TrL.go (λb o h=>k1 b o (h.imp id λz=>(hF b).mpr (.inr z))) k2 t⟩
theorem TrL.go:∀{ds:List D} {es:List Ow} {r:Ow} {vs:List V} {F:Pr},(∀b o,(¬S b\/F b)->H b=NW o->H' b=NW o)->(∀b o,H b=NW o->¬S b->¬S' b)->TrL K H S ds es r vs F->TrL K H' S' ds es r vs F
 |[],_,_,_,_,_,_,h=>by unfold TrL at h⊢;exact h
 |d::ds,es,r,vs,F,k1,k2,h=>by
  unfold TrL at h⊢;obtain⟨y,ys,F1,F2,e,hF,dj,h1,h2⟩:=h;exact⟨y,ys,F1,F2,e,hF,dj,Tr.go (λb o h=>k1 b o (h.imp id λz=>(hF b).mpr (.inl z))) k2 h1,TrL.go (λb o h=>k1 b o (h.imp id λz=>(hF b).mpr (.inr z))) k2 h2⟩
end
mutual
theorem Tr.rp:∀{d:D} {k:Ow} {v:V} {F:Pr},(∀b,S' b->S b/\¬F b)->Tr K H S d k v F->Rp K H S' d v
 |.non,_,_,_,k2,h=>by unfold Tr at h;exact h.2
 |.bl _,_,_,_,k2,h=>by unfold Tr at h;exact h.2
 |.int _,_,_,_,k2,h=>by unfold Tr at h;exact h.2
 |.str _,_,_,_,k2,h=>by unfold Tr at h;exact h.2
 |.scr ns,_,_,_,k2,h=>by unfold Tr at h;exact h.2.weak λb z=>(k2 b z).1
 |.nd hd ds,.fz,_,_,k2,h=>by unfold Tr at h;exact h.2.weak λb z=>(k2 b z).1
 |.nd hd ds,.own es r,v,F,k2,h=>by
  unfold Tr at h;unfold Rp;obtain⟨a,o,xs,F',e,g,q,n1,n2,hF,t⟩:=h;refine⟨a,o,xs,e,λz=>?_,g,q,TrL.rp (λb z=>⟨(k2 b z).1,λz2=>(k2 b z).2 ((hF b).mpr (.inr z2))⟩) t⟩
  cases hm:hd.mu with
  |true=>exact(k2 a z).2 ((hF a).mpr (.inl ⟨hm,rfl⟩))
  |false=>exact n2 hm (k2 a z).1
theorem TrL.rp:∀{ds:List D} {es:List Ow} {r:Ow} {vs:List V} {F:Pr},(∀b,S' b->S b/\¬F b)->TrL K H S ds es r vs F->RpL K H S' ds vs
 |[],_,_,_,_,_,h=>by unfold TrL at h;unfold RpL;exact h.1
 |d::ds,es,r,vs,F,k2,h=>by
  unfold TrL at h;obtain⟨y,ys,F1,F2,rfl,hF,dj,h1,h2⟩:=h;exact .cons (Tr.rp (λb z=>⟨(k2 b z).1,λz2=>(k2 b z).2 ((hF b).mpr (.inl z2))⟩) h1) (TrL.rp (λb z=>⟨(k2 b z).1,λz2=>(k2 b z).2 ((hF b).mpr (.inr z2))⟩) h2)
end
theorem Tr.rd(h:Tr K H S d k v F):Rp K H (λ_=>False) d v:=h.rp λb z=>z.elim
theorem Tr.fz(h:Rp K H S d v):Tr K H S d .fz v (λ_=>False):=by
 cases d<;>(unfold Tr;exact⟨λb z=>z,h⟩)
theorem Tr.fz_inv{F:Pr}(h:Tr K H S d .fz v F):(∀b,¬F b)/\Rp K H S d v:=by
 cases d<;>(unfold Tr at h;exact h)
mutual
theorem Tr.dom:∀{d:D} {k:Ow} {v:V} {F:Pr},Tr K H S d k v F->∀b,F b->∃o,H b=NW o/\∀xs,o≠.tup xs
 |.non,_,_,_,h=>by unfold Tr at h;exact λb z=>absurd z (h.1 b)
 |.bl _,_,_,_,h=>by unfold Tr at h;exact λb z=>absurd z (h.1 b)
 |.int _,_,_,_,h=>by unfold Tr at h;exact λb z=>absurd z (h.1 b)
 |.str _,_,_,_,h=>by unfold Tr at h;exact λb z=>absurd z (h.1 b)
 |.scr ns,_,_,_,h=>by unfold Tr at h;exact λb z=>absurd z (h.1 b)
 |.nd hd ds,.fz,_,_,h=>by unfold Tr at h;exact λb z=>absurd z (h.1 b)
 |.nd hd ds,.own es r,v,F,h=>by
  unfold Tr at h;obtain⟨a,o,xs,F',e,g,q,n1,n2,hF,t⟩:=h;intro b z;rcases(hF b).mp z with⟨hm,rfl⟩|z
  ·refine⟨o,g,λys he=>?_⟩;subst he
   cases hd with
   |tup=>exact absurd hm (by simp[Hd.mu])
   |lst=>cases q
   |dic t ks=>rcases q with⟨_,_,e,_⟩|⟨_,_,_,_,e,_⟩<;>cases e
   |obj c ns=>obtain⟨_,_,_,_,e,_⟩:=q;cases e
  ·exact TrL.dom t b z
theorem TrL.dom:∀{ds:List D} {es:List Ow} {r:Ow} {vs:List V} {F:Pr},TrL K H S ds es r vs F->∀b,F b->∃o,H b=NW o/\∀xs,o≠.tup xs
 |[],_,_,_,_,h=>by unfold TrL at h;exact λb z=>absurd z (h.2 b)
 |d::ds,es,r,vs,F,h=>by
  unfold TrL at h;obtain⟨y,ys,F1,F2,e,hF,dj,h1,h2⟩:=h;intro b z;rcases(hF b).mp z with z|z
  ·exact Tr.dom h1 b z
  ·exact TrL.dom h2 b z
end
end
end J
namespace J
open PySem PySem.Spec L2
noncomputable abbrev Gh:=N2->Option (Option Nat)
noncomputable def Sx(g:Gh)(F:Pr):Pr:=λb=>g b≠NX\/F b
noncomputable abbrev Sg(g:Gh):Pr:=λb=>g b≠NX
inductive Kd where
 |sh|fr (k:Ow)|bo (i:Nat) (k:Ow)
noncomputable def VR1(K:Lh)(H:Hp)(g:Gh)(Ft:Pr):Kd->D->V->Pr->Prop
 |.sh,d,v,F=>(∀b,¬F b)/\Rp K H (Sx g Ft) d v
 |.fr k,d,v,F=>Tr K H (Sx g Ft) d k v F
 |.bo i k,d,v,F=>(∀b,¬F b)/\∃F0,(∀b,F0 b->g b=NW (NW i))/\Tr K H (Sx g Ft) d k v F0
noncomputable def VRL(K:Lh)(H:Hp)(g:Gh)(Ft:Pr):List (Kd×D)->List V->Pr->Prop
 |[],vs,F=>vs=[]/\∀b,¬F b
 |(kd,d)::r,vs,F=>∃y ys F1 F2,vs=y::ys/\(∀b,F b↔F1 b\/F2 b)/\(∀b,F1 b->¬F2 b)/\VR1 K H g Ft kd d y F1/\VRL K H g Ft r ys F2
noncomputable def VR(K:Lh)(g:Gh)(H0 H:Hp)(kd:Kd)(d:D)(v:V):Prop:=∃F:Pr,(∀b,F b->H0 b=NX)/\VR1 K H g F kd d v F
noncomputable def VRs(K:Lh)(g:Gh)(H0 H:Hp)(kds:List (Kd×D))(vs:List V):Prop:=∃F:Pr,(∀b,F b->H0 b=NX)/\VRL K H g F kds vs F
section
variable {K:Lh} {H H' H0 H1:Hp} {g:Gh} {Ft Ft' F:Pr}
theorem VR1.go(s:Same H H')(k2:∀b o,H b=NW o->Ft' b->Ft b)(h:VR1 K H g Ft kd d v F):VR1 K H' g Ft' kd d v F:=by
 have k3:∀b o,H b=NW o->¬Sx g Ft b->¬Sx g Ft' b:=λb o e n z=>n (z.imp id (k2 b o e))
 cases kd with
 |sh=>exact⟨h.1,h.2.go λb o n e=>⟨s b o e,k3 b o e n⟩⟩
 |fr k=>exact Tr.go (λb o _ e=>s b o e) k3 h
 |bo i k=>obtain⟨h1,F0,h2,h3⟩:=h;exact⟨h1,F0,h2,Tr.go (λb o _ e=>s b o e) k3 h3⟩
theorem VR1.dom(h:VR1 K H g Ft kd d v F):∀b,F b->∃o,H b=NW o/\∀xs,o≠.tup xs:=by
 cases kd with
 |sh=>exact λb z=>absurd z (h.1 b)
 |fr k=>exact Tr.dom h
 |bo i k=>exact λb z=>absurd z (h.1 b)
theorem VRL.dom:∀{kds:List (Kd×D)} {vs:List V} {F:Pr},VRL K H g Ft kds vs F->∀b,F b->∃o,H b=NW o/\∀xs,o≠.tup xs
 |[],_,_,h=>λb z=>absurd z (h.2 b)
 |(kd,d)::r,_,_,h=>by
  obtain⟨y,ys,F1,F2,e,hF,dj,h1,h2⟩:=h;intro b z;rcases(hF b).mp z with z|z
  ·exact h1.dom b z
  ·exact VRL.dom h2 b z
theorem VR.same(s:Same H H')(h:VR K g H0 H kd d v):VR K g H0 H' kd d v:=
 let ⟨F,h1,h2⟩:=h;⟨F,h1,h2.go s λ_ _ _ z=>z⟩
theorem VR.older(s:Same H0 H1)(h:VR K g H1 H kd d v):VR K g H0 H kd d v:=
 let ⟨F,h1,h2⟩:=h;⟨F,λb z=>s.free (h1 b z),h2⟩
theorem VR1.rd(h:VR1 K H g Ft kd d v F):Rp K H (λ_=>False) d v:=by
 cases kd with
 |sh=>exact h.2.weak λb z=>z.elim
 |fr k=>exact Tr.rd h
 |bo i k=>obtain⟨_,F0,_,h3⟩:=h;exact h3.rd
theorem VR.rd(h:VR K g H0 H kd d v):Rp K H (λ_=>False) d v:=let ⟨F,h1,h2⟩:=h;h2.rd
theorem VRL.rd:∀{kds:List (Kd×D)} {vs:List V} {F:Pr},VRL K H g Ft kds vs F->RpL K H (λ_=>False) (kds.map (·.2)) vs
 |[],_,_,h=>by rw[h.1];exact .nil
 |(kd,d)::r,_,_,h=>by
  obtain⟨y,ys,F1,F2,rfl,hF,dj,h1,h2⟩:=h;exact .cons h1.rd (VRL.rd h2)
noncomputable def mC:Kd->D->Bool
 |.bo _ _,d=>jQ d
 |_,_=>NY
theorem MuOk.same(m:MuOk H S)(s:Same H H'):MuOk H' S:=λa z=>let ⟨o,e,n⟩:=m a z;⟨o,s a o e,n⟩
theorem VR1.sh{S:Pr}(ok:mC kd d=NY)(m:MuOk H S)(hS:∀b,S b->(g b≠NX\/Ft b)/\¬F b)(h:VR1 K H g Ft kd d v F):Rp K H S d v:=by
 cases kd with
 |sh=>exact h.2.weak λb z=>(hS b z).1
 |fr k=>exact Tr.rp (λb z=>⟨(hS b z).1,(hS b z).2⟩) h
 |bo i k=>obtain⟨_,F0,h2,h3⟩:=h;exact h3.rd.im m ok
theorem VR.sh(ok:mC kd d=NY)(m:MuOk H0 (Sg g))(s:Same H0 H)(h:VR K g H0 H kd d v):Rp K H (Sg g) d v:=by
 obtain⟨F,h1,h2⟩:=h;refine h2.sh ok (m.same s) λb z=>⟨.inl z,λz2=>?_⟩;obtain⟨o,e,_⟩:=m b z;rw[h1 b z2] at e;cases e
theorem VRL.sh{S:Pr}(m:MuOk H S):∀{kds:List (Kd×D)} {vs:List V} {F:Pr},(kds.all λp=>mC p.1 p.2)=NY->(∀b,S b->(g b≠NX\/Ft b)/\¬F b)->VRL K H g Ft kds vs F->RpL K H S (kds.map (·.2)) vs
 |[],_,_,_,_,h=>by rw[h.1];exact .nil
 |(kd,d)::r,_,F,ok,hS,h=>by
  obtain⟨y,ys,F1,F2,rfl,hF,dj,h1,h2⟩:=h;rw[L3,Lj] at ok;exact .cons (h1.sh ok.1 m λb z=>⟨(hS b z).1,λz2=>(hS b z).2 ((hF b).mpr (.inl z2))⟩) (VRL.sh m ok.2 (λb z=>⟨(hS b z).1,λz2=>(hS b z).2 ((hF b).mpr (.inr z2))⟩) h2)
theorem VRs.sh{kds:List (Kd×D)}(ok:(kds.all λp=>mC p.1 p.2)=NY)(m:MuOk H0 (Sg g))(s:Same H0 H)(h:VRs K g H0 H kds vs):RpL K H (Sg g) (kds.map (·.2)) vs:=by
 obtain⟨F,h1,h2⟩:=h;refine h2.sh (m.same s) ok λb z=>⟨.inl z,λz2=>?_⟩;obtain⟨o,e,_⟩:=m b z;rw[h1 b z2] at e;cases e
theorem VRs.rd{kds:List (Kd×D)}(h:VRs K g H0 H kds vs):RpL K H (λ_=>False) (kds.map (·.2)) vs:=let ⟨F,h1,h2⟩:=h;h2.rd
theorem VRs.nil:VRs K g H0 H [] []:=⟨λ_=>False,λb z=>z.elim,rfl,λb z=>z⟩
open Classical in
noncomputable def Gh.plus(g:Gh)(F:Pr):Gh:=λb=>if F b then NW NX else g b
theorem av(b:N2):Sg (g.plus F) b↔Sg g b\/F b:=by
 unfold Gh.plus Sg;by_cases h:F b
 ·simp[h]
 ·simp[h]
theorem bM{i:Nat}(h:g.plus F b=NW (NW i)):g b=NW (NW i):=by
 unfold Gh.plus at h;split at h
 ·cases h
 ·exact h
theorem cu{i:Nat}(h:g b=NW (NW i))(n:¬F b):g.plus F b=NW (NW i):=by
 unfold Gh.plus;rw[if_neg n];exact h
theorem VR1.unplus{F1:Pr}(h:VR1 K H (g.plus F1) Ft kd d v F):VR1 K H g (λb=>F1 b\/Ft b) kd d v F:=by
 have k3:∀b o,H b=NW o->¬Sx (g.plus F1) Ft b->¬Sx g (λb=>F1 b\/Ft b) b:=λb o e n z=>n (z.elim (λz=>.inl ((av b).mpr (.inl z))) λz=>z.elim (λz=>.inl ((av b).mpr (.inr z))) .inr)
 cases kd with
 |sh=>exact⟨h.1,h.2.go λb o n e=>⟨e,k3 b o e n⟩⟩
 |fr k=>exact Tr.go (λb o _ e=>e) k3 h
 |bo i k=>obtain⟨h1,F0,h2,h3⟩:=h;exact⟨h1,F0,λb z=>bM (h2 b z),Tr.go (λb o _ e=>e) k3 h3⟩
theorem VRL.unplus{F1:Pr}:∀{kds:List (Kd×D)} {vs:List V} {F:Pr},VRL K H (g.plus F1) Ft kds vs F->VRL K H g (λb=>F1 b\/Ft b) kds vs F
 |[],_,_,h=>h
 |(kd,d)::r,_,_,h=>by
  obtain⟨y,ys,F1,F2,e,hF,dj,h1,h2⟩:=h;exact⟨y,ys,F1,F2,e,hF,dj,h1.unplus,VRL.unplus h2⟩
theorem VRs.cons{kd:Kd}{d:D}{v:V}{kds:List (Kd×D)}{vs:List V}{F1:Pr}(s:Same H0 H)(s1:Same H H')(a1:∀b,F1 b->H0 b=NX)(a2:VR1 K H g F1 kd d v F1)(h2:VRs K (g.plus F1) H H' kds vs):VRs K g H0 H' ((kd,d)::kds) (v::vs):=by
 obtain⟨F2,b1,b2⟩:=h2;have dd:=a2.dom;refine⟨λb=>F1 b\/F2 b,λb z=>z.elim (a1 b) λz=>s.free (b1 b z),v,vs,F1,F2,rfl,λb=>Iff.rfl,λb z1 z2=>?_,a2.go s1 λb o e z=>z.elim id λz=>?_,b2.unplus⟩
 ·obtain⟨o,e,_⟩:=dd b z1;rw[b1 b z2] at e;cases e
 ·rw[b1 b z] at e;cases e
theorem VRs.one(h:VRs K g H0 H [(kd,d)] vs):∃v,vs=[v]/\VR K g H0 H kd d v:=by
 obtain⟨F,h1,y,ys,F1,F2,rfl,hF,dj,h3,h4,h5⟩:=h;subst h4;have e:∀b,F b->F1 b:=λb z=>((hF b).mp z).elim id λz=>absurd z (h5 b);exact⟨y,rfl,F1,λb z=>h1 b ((hF b).mpr (.inl z)),h3.go (λ_ _ h=>h) λb _ _ z=>(hF b).mpr (.inl z)⟩
end
structure Sl where
 lk:Bool
 k:Ow
 d:D
noncomputable abbrev Ro:=List (Option Sl)
noncomputable def k4:Ow->Bool
 |.fz=>NY
 |_=>NZ
noncomputable def sY(i:Nat)(s:Sl):Kd×D:=(if k4 s.k then .sh else .bo i s.k,s.d)
structure SE(K:Lh)(g:Gh)(ρ:Ro)(σ:St)(H:Hp):Prop where
 slot:∀(i:Nat) (s:Sl),ρ[i]?=NW (NW s)->∃v F,σ[i]?=NW (NW v)/\(∀b,F b->g b=NW (NW i))/\Tr K H (Sg g) s.d s.k v F
 mu:MuOk H (Sg g)
 len:ρ.length=σ.length
section
variable {K:Lh} {H H' H0 H1:Hp} {g g':Gh} {ρ:Ro} {σ:St}
theorem SE.same(h:SE K g ρ σ H)(s:Same H H'):SE K g ρ σ H':=
 ⟨λi sl e=>let ⟨v,F,e1,e2,e3⟩:=h.slot i sl e;⟨v,F,e1,e2,e3.go (λb o _ e=>s b o e) λb o _ n=>n⟩,h.mu.same s,h.len⟩
theorem gW(h:k4 k=NY):k=.fz:=by cases k with|fz=>rfl|own es r=>cases h
theorem SE.get(h:SE K g ρ σ H){i:Nat}{s:Sl}(e:ρ[i]?=NW (NW s)):∃v,σ[i]?=NW (NW v)/\VR K g H H (sY i s).1 (sY i s).2 v:=by
 obtain⟨v,F,e1,e2,e3⟩:=h.slot i s e;refine⟨v,e1,λ_=>False,λb z=>z.elim,?_⟩;have t:Tr K H (Sx g λ_=>False) s.d s.k v F:=e3.go (λ_ _ _ h=>h) λb o _ n z=>n (z.elim id λz=>z.elim);unfold sY
 cases hk:k4 s.k with
 |true=>
  rw[gW hk] at t;exact⟨λb z=>z,t.fz_inv.2⟩
 |false=>exact⟨λb z=>z,F,e2,t⟩
theorem SE.plus{F:Pr}(h:SE K g ρ σ H)(s:Same H H')(hF:∀b,F b->H b=NX)(dd:∀b,F b->∃o,H' b=NW o/\∀xs,o≠.tup xs):SE K (g.plus F) ρ σ H':=by
 refine⟨λi sl e=>?_,λb z=>?_,h.len⟩
 ·obtain⟨v,F0,e1,e2,e3⟩:=h.slot i sl e;refine⟨v,F0,e1,λb z=>cu (e2 b z) λz2=>?_,e3.go (λb o _ e=>s b o e) λb o e n z=>?_⟩
  ·obtain⟨o,q,_⟩:=e3.dom b z;rw[hF b z2] at q;cases q
  ·rcases(av b).mp z with z|z
   ·exact n z
   ·rw[hF b z] at e;cases e
 ·rcases(av b).mp z with z|z
  ·exact h.mu.same s b z
  ·exact dd b z
end
section
variable (X:Cx)
noncomputable def wE(e:N0):TE:=λσ H Q=>∀pins s,Inv X pins σ H s->N5 (N6 X.prog X.w) X.A (eval e X.env) (EP X pins σ Q) X.xe s
noncomputable def wT(e:N0):TT:=λσ H Q=>∀pins s,Inv X pins σ H s->N5 (N6 X.prog X.w) X.A (isTrue e X.env (eval e X.env)) (TP X pins σ Q) X.xe s
noncomputable def wW(e:N0):TT:=λσ H Q=>∀whole pins s,Inv X pins σ H s->N5 (N6 X.prog X.w) X.A (isTrue e X.env whole) (TP X pins σ Q) X.xe s
noncomputable def wA(es:List N0):TA:=λσ H Q=>∀pos pins s,Inv X pins σ H s->N5 (N6 X.prog X.w) X.A (spliced (backTo pos (Ob es X.env))) (AP X pins σ Q) X.xe s
noncomputable def wG(tg:N0):TG:=λv σ H Q=>∀pins s u,Inv X pins σ H s->RelV v u->N5 (N6 X.prog X.w) X.A (assign tg X.env u) (λ_ s'=>∃σ' H',Inv X pins σ' H' s'/\Q σ' H') X.xe s
noncomputable def wI(tg iter:N0):TI:=λσ H R=>∀pins s,Inv X pins σ H s->N5 (N6 X.prog X.w) X.A (eval iter X.env) (λv s1=>N5 (N6 X.prog X.w) X.A (pyIter v) (HL X pins σ tg R) X.xe s1) X.xe s
end
section
variable {X:Cx}
theorem aB:PE X e (wE X e):=λpins s σ H Q I h=>h pins s I
theorem gX:PT X e (wT X e):=λpins s σ H Q I h=>h pins s I
theorem xV:PW X e (wW X e):=λwh pins s σ H Q I h=>h wh pins s I
theorem dE:PA X es (wA X es):=λpos pins s σ H Q I h=>h pos pins s I
theorem xW:PI X tg iter (wI X tg iter):=λpins s σ H R I h=>h pins s I
theorem xX:PG X tg (wG X tg):=λpins s σ H v u Q I r h=>h pins s u I r
theorem aE{t:TE}(p:PE X e t){σ:St}{H:Hp}{Q:VK}(h:t σ H Q):wE X e σ H Q:=λpins s I=>p pins s σ H Q I h
theorem nN{t:TT}(p:PT X e t){σ:St}{H:Hp}{Q:Bool->Hp->Prop}(h:t σ H Q):wT X e σ H Q:=λpins s I=>p pins s σ H Q I h
theorem lz{t:TT}(p:PW X e t){σ:St}{H:Hp}{Q:Bool->Hp->Prop}(h:t σ H Q):wW X e σ H Q:=λwh pins s I=>p wh pins s σ H Q I h
theorem jR{t:TA}(p:PA X es t){σ:St}{H:Hp}{Q:List V->Hp->Prop}(h:t σ H Q):wA X es σ H Q:=λpos pins s I=>p pos pins s σ H Q I h
theorem i6{t:TI}(p:PI X tg iter t){σ:St}{H:Hp}{R:It->Hp->Prop}(h:t σ H R):wI X tg iter σ H R:=λpins s I=>p pins s σ H R I h
theorem uY{t:TG}(p:PG X tg t){v:V}{σ:St}{H:Hp}{Q:St->Hp->Prop}(h:t v σ H Q):wG X tg v σ H Q:=λpins s u I r=>p pins s σ H v u Q I r h
end
noncomputable def SndE(X:Cx)(f:Ro->Option (Kd×D))(e:N0):Prop:=∀ρ kd d,f ρ=NW (kd,d)->∀g σ H Q,SE X.K g ρ σ H->(∀v H',Same H H'->VR X.K g H H' kd d v->Q v H')->wE X e σ H Q
noncomputable def SndT(X:Cx)(f:Ro->Option Bool)(e:N0):Prop:=∀ρ b,f ρ=NW b->∀g σ H Q,SE X.K g ρ σ H->(∀H',Same H H'->Q b H')->wT X e σ H Q
noncomputable def jS(X:Cx)(f:Ro->Option (List (Kd×D)))(es:List N0):Prop:=∀ρ kds,f ρ=NW kds->∀g σ H Q,SE X.K g ρ σ H->(∀vs H',Same H H'->VRs X.K g H H' kds vs->Q vs H')->wA X es σ H Q
end J
namespace G
open PySem PySem.Spec L2 PyProof.Rows
noncomputable def i7(n:Nat)(lo st:Option Int):List Nat:=sliceRange (sliceBounds lo NX st n).1 (sliceBounds lo NX st n).2.1 (sliceBounds lo NX st n).2.2
noncomputable def cz{α:Type}(xs:List α)(lo st:Option Int):List α:=(i7 xs.length lo st).filterMap λi=>xs[i]?
theorem lA{xs:List V}{us:List N1}(r:Vals xs us):∀is:List Nat,Vals (is.filterMap λi=>xs[i]?) (is.filterMap λi=>us[i]?)
 |[]=>.nil
 |i::is=>by
  have ih:=lA r is;by_cases h:i<xs.length
  ·have h':i<us.length:=by rw[<- r.length];exact h
   obtain⟨u,e1,e2⟩:=r.get (Lm h);rw[LK,LK,Lm h,e1];exact .cons e2 ih
  ·rw[LK,LK,LY (by lia),LY (by rw[<- r.length];lia)];exact ih
section
variable {X:Cx}
noncomputable def Ig(te:TE)(tl:TO)(tst:TE):TE:=λσ H Q=>te σ H λx H1=>tl σ H1 λl H2=>tst σ H2 λy H3=>∃a xs k,x=.ref a/\y=.int k/\k≠0/\SqL X.K H3 a xs/\∀p,H3 p=NX->Q (.ref p) (upd H3 p (.lst (cz xs l (NW k))))
theorem BF{e st:N0}{lo:Option N0}{te tst:TE}{tl:TO}{p2 pos:Pos}(he:PE X e te)(hl:PO X lo tl)(hst:PE X st tst):PE X (.Subscript e (.Slice lo NX (NW st) p2) pos) (Ig (X:=X) te tl tst):=by
 intro pins s σ H Q I h;refine Subscript_ (bB (he pins s σ H _ I h) λv s1 ⟨x,H1,I1,r1,q1⟩=>?_);refine wpAny_Slice (bB (hl pins s1 σ H1 _ I1 q1) λvl s2 ⟨l,H2,I2,pl,q2⟩=>?_);rw[evalPart_none];refine N7 ?_;refine bB (hst pins s2 σ H2 _ I2 q2) λvst s3 ⟨y,H3,I3,r3,q3⟩=>?_;obtain⟨a,xs,k,rfl,rfl,hk,hx,q⟩:=q3;obtain⟨t,rfl⟩:=r3;cases r1;have I4:Inv X pins σ H3 { s3 with heap:=s3.heap.push { cls:=.type "slice",data:=.fields #[vl,.none,.int k t] } }:=I3.kept (t':=s3.toks) λb ob q=>Ls _ q;obtain⟨its,r,ht,hz⟩:=I4.list hx;show N5 (N6 X.prog X.w) X.A (subscriptTail e (.Slice lo NX (NW st) p2) (.ref a) (.ref s3.heap.objs.size)) (EP X pins σ Q) X.xe { s3 with heap:=s3.heap.push { cls:=.type "slice",data:=.fields #[vl,.none,.int k t] } };refine tail_any (ops:=[.ref a,.ref s3.heap.objs.size]) ht.isList.typeIs slot_list_getitem.lookup ?_ (by with_unfolding_all rfl);refine wpAny_getItem_list_slice ht.isList (Heap.IsSliceOf.new ..) pl .none (.int _ _) (by simpa using hk) ?_ (by rw[Lv,<- r.length];exact hz)
 have e1:slicePick its.toArray l NX (NW k)=(cz its l (NW k)).toArray:=by
  unfold slicePick cz i7;simp
 rw[e1];have hsz:=slicePick_size_le its.toArray l NX (NW k);rw[e1,Lv,Lv] at hsz
 have rv:Vals (cz xs l (NW k)) (cz its l (NW k)):=by
  unfold cz;rw[r.length];exact lA r _
 refine⟨.ref _,_,I4.laid (t':=s3.toks) (o:=.lst (cz xs l (NW k))) (λb ob q=>Ls _ q) (Lo _) ?_,rfl,q _ (I4.hok.fresh (Lo _))⟩;exact⟨by rw[rv.length];exact LM hsz (by rw[<- r.length];exact hz),_,0,rv,LL _ rfl⟩
end
end G
namespace G
open PySem PySem.Spec PyProof.Rows L2
section
variable {X:Cx} {tg:N0}
end
noncomputable abbrev Kk:=L2.aV
instance:LawfulBEq Kk where
 eq_of_beq:=λ{a b} h=>by
  cases a<;>cases b
  ·have h:_==_:=h;exact congrArg Sum.inl (eq_of_beq h)
  ·cases h
  ·cases h
  ·exact congrArg Sum.inr (eq_of_beq (show _==_ from h))
 rfl:=λ{a}=>by
  cases a
  ·exact beq_self_eq_true (α:=Int) _
  ·exact beq_self_eq_true (α:=Str) _
section
variable {prog:N8} {w:Oa} {A:Od} {R:Result->N3->Prop} {J:N2} {fp wr:List N2} {GG:Array GenState->Array GenState->Prop} {n:Nat} {P:Nat->N1->Prop} {St:Nat->N3->Prop}
end
section
variable {prog:N8} {w:Oa} {A:Od} {E:N1->N3->Prop} {s:N3}
end
section
variable {X:Cx}
end
end G
set_option exponentiation.threshold 5000
namespace J
open PySem PySem.Spec L2
mutual
noncomputable def py:D->PyData
 |.non=>.none
 |.bl b=>.bool b
 |.int i=>.int i
 |.str x=>.str x
 |.scr ns=>.list (ns.map .int)
 |.nd .lst ds=>.list (lB ds)
 |.nd .tup ds=>.tuple (lB ds)
 |.nd (.dic _ _) _=>.dict []
 |.nd (.obj _ _) _=>.none
noncomputable def lB:List D->List PyData
 |[]=>[]
 |d::ds=>py d::lB ds
end
mutual
noncomputable def ee:Nat->D->Bool
 |_,.non=>NY
 |_,.bl _=>NY
 |_,.int _=>NY
 |_,.str x=>PyData.strOk x
 |n,.scr _=>decide (1<=n)
 |n,.nd .lst ds=>decide (1<=n)&&jT (n-1) ds
 |n,.nd .tup ds=>decide (1<=n)&&jT (n-1) ds
 |_,.nd (.dic _ _) _=>NZ
 |_,.nd (.obj _ _) _=>NZ
noncomputable def jT:Nat->List D->Bool
 |_,[]=>NY
 |n,d::ds=>ee n d&&jT n ds
end
section
variable {X:Cx} {pins:List (N2×Obj)} {σ:L2.St} {H:Hp} {s:N3} {S:Pr}
theorem fU:∀{ns:List Int} {us:List N1},Vals (ns.map V.int) us->∃as,ReadsAll h us (ns.map .int) as
 |[],_,.nil=>⟨_,.nil⟩
 |n::ns,_,.cons r t=>by
  obtain⟨t',e⟩:=(show ∃t,_=Value.int n t from r);subst e;obtain⟨as,q⟩:=fU t;exact⟨_,.cons (.int n t') q⟩
theorem jq:∀ns:List Int,PyData.canLayAll0 (ns.map .int)=NY/\PyData.depthAll (ns.map .int)=0
 |[]=>by simp[PyData.canLayAll0,PyData.depthAll]
 |n::ns=>by
  have:=jq ns;simp[PyData.canLayAll0,PyData.depthAll,PyData.canLay0,PyData.depth,this]
mutual
theorem dF(I:Inv X pins σ H s):∀{d:D} {n:Nat} {v:V} {u:N1},ee n d=NY->Rp X.K H S d v->RelV v u->(∃as,Reads s.heap u (py d) as)/\(py d).canLay0=NY/\(py d).depth<=n
 |.non,n,v,u,_,r,e=>by unfold Rp at r;subst r;cases e;simp only[py];exact⟨⟨_,.none⟩,by simp[PyData.canLay0],by simp[PyData.depth]⟩
 |.bl b,n,v,u,_,r,e=>by unfold Rp at r;subst r;cases e;simp only[py];exact⟨⟨_,.bool b⟩,by simp[PyData.canLay0],by simp[PyData.depth]⟩
 |.int i,n,v,u,_,r,e=>by unfold Rp at r;subst r;obtain⟨t,rfl⟩:=e;simp only[py];exact⟨⟨_,.int i t⟩,by simp[PyData.canLay0],by simp[PyData.depth]⟩
 |.str x,n,v,u,h,r,e=>by unfold Rp at r;subst r;obtain⟨t,rfl⟩:=e;simp only[py];exact⟨⟨_,.str x t⟩,by simpa[PyData.canLay0,ee] using h,by simp[PyData.depth]⟩
 |.scr ns,n,v,u,h,r,e=>by
  unfold Rp at r;obtain⟨a,rfl,r⟩:=r;cases e;have q:SqL X.K H a (ns.map V.int):=r.elim (λr=>.inl r.2) .inr;obtain⟨its,vs,⟨o,m,g1,g2,g3,g4⟩,z⟩:=I.list q;obtain⟨as,ra⟩:=fU (h:=s.heap) vs;simp only[py];have hn:1<=n:=by simpa[ee] using h
  exact⟨⟨_,.list g1 g2 g4 (by simpa using ra)⟩,by simpa[PyData.canLay0] using(jq ns).1,by simp[PyData.depth,(jq ns).2,hn]⟩
 |.nd .lst ds,n,v,u,h,r,e=>by
  unfold Rp at r;obtain⟨a,o,xs,rfl,na,g,q,rl⟩:=r;cases e;have q:o=.lst xs:=q;subst q;obtain⟨its,vs,⟨o,m,g1,g2,g3,g4⟩,z⟩:=I.list (SqL.of g);simp only[ee,Lj,decide_eq_true_eq] at h;obtain⟨⟨as,ra⟩,l1,l2⟩:=iF I h.2 rl vs;simp only[py];exact⟨⟨_,.list g1 g2 g4 (by simpa using ra)⟩,by simpa[PyData.canLay0] using l1,by simp only[PyData.depth];lia⟩
 |.nd .tup ds,n,v,u,h,r,e=>by
  unfold Rp at r;obtain⟨a,o,xs,rfl,na,g,q,rl⟩:=r;cases e;have q:o=.tup xs:=q;subst q;obtain⟨its,vs,⟨o,g1,g2,m,g4⟩,z⟩:=I.tuple (SqT.of g);simp only[ee,Lj,decide_eq_true_eq] at h;obtain⟨⟨as,ra⟩,l1,l2⟩:=iF I h.2 rl vs;simp only[py];exact⟨⟨_,.tuple g1 g2 g4 (by simpa using ra)⟩,by simpa[PyData.canLay0] using l1,by simp only[PyData.depth];lia⟩
 |.nd (.dic _ _) _,n,v,u,h,r,e=>by simp[ee] at h
 |.nd (.obj _ _) _,n,v,u,h,r,e=>by simp[ee] at h
theorem iF(I:Inv X pins σ H s):∀{ds:List D} {n:Nat} {xs:List V} {us:List N1},jT n ds=NY->RpL X.K H S ds xs->Vals xs us->(∃as,ReadsAll s.heap us (lB ds) as)/\PyData.canLayAll0 (lB ds)=NY/\PyData.depthAll (lB ds)<=n
 |[],n,xs,us,_,r,e=>by rw[r.nil_inv] at e;cases e;simp only[lB];exact⟨⟨_,.nil⟩,by simp[PyData.canLayAll0],by simp[PyData.depthAll]⟩
 |d::ds,n,xs,us,h,r,e=>by
  obtain⟨y,ys,rfl,r1,r2⟩:=r.cons_inv;simp only[jT,Lj] at h
  cases e with
  |cons e1 e2=>
   obtain⟨⟨as,ra⟩,l1,l2⟩:=dF I h.1 r1 e1;obtain⟨⟨bs,rb⟩,m1,m2⟩:=iF I h.2 r2 e2;simp only[lB];exact⟨⟨_,.cons ra rb⟩,by simp[PyData.canLayAll0,l1,m1],by simp only[PyData.depthAll];lia⟩
end
end
noncomputable def nO(x y:D):Bool:=PyData.eqv (py x) (py y)
noncomputable def lim:Nat:=2^4000
noncomputable abbrev bv:Ow:=.own [] .fz
noncomputable def lC:Ow->Bool
 |.fz=>NY
 |.own es r=>es.all k4&&k4 r
noncomputable def gm:Kd->List D->Bool
 |.bo _ k,ds=>lC k||qP ds
 |_,_=>NY
noncomputable abbrev KD:=Kd×D
noncomputable def nP:Oe->Int->Int->Option Int
 |.Add,i,j=>NW (i+j)
 |.Sub,i,j=>NW (i-j)
 |.Mult,i,j=>if i.natAbs<lim/\j.natAbs<lim then NW (i*j) else NX
 |.FloorDiv,i,j=>if 0<j/\j.natAbs<lim then NW (i / j) else NX
 |.Mod,i,j=>if 0<j then NW (i%j) else NX
 |.LShift,i,j=>if 0<=j/\j<=1000000/\i.natAbs<lim then NW (i*2^j.toNat) else NX
 |.Pow,i,j=>if 0<=j/\j<=1000000/\i.natAbs<2^64 then NW (i^j.toNat) else NX
 |.RShift,i,j=>if 0<=j then NW (i / 2^j.toNat) else NX
 |.BitAnd,i,j=>NW (Builtin.bitAnd i j)
 |.BitOr,i,j=>NW (Builtin.bitOr i j)
 |.BitXor,i,j=>NW (Builtin.bitXor i j)
 |_,_,_=>NX
noncomputable def EE(op:Oe)(k:Kd)(xs:List D)(y:KD):Option KD:=match op with
 |.Add=>(match y.2 with
  |.nd hd ys=>(match hd with
   |.lst=>if gm k xs=NY/\gm y.1 ys=NY/\xs.length+ys.length<=100000 then NW (.fr bv,.lst (xs++ys)) else NX
   |_=>NX)
  |_=>NX)
 |_=>NX
noncomputable def EF(op:Oe)(k:Kd)(xs:List D)(y:KD):Option KD:=NX
noncomputable def EG(op:Oe)(i:Str)(y:D):Option KD:=NX
noncomputable def ef(op:Oe)(x y:KD):Option KD:=match x.2 with
 |.int i=>(match y.2 with|.int j=>(match nP op i j with|some z=>NW (.sh,.int z)|none=>NX)|_=>NX)
 |.nd hd xs=>(match hd with|.lst=>EE op x.1 xs y|.tup=>EF op x.1 xs y|_=>NX)
 |.str i=>EG op i y.2
 |_=>NX
theorem fF{i j z:Int}(h:nP op i j=NW z):ef op (k,.int i) (k',.int j)=NW (.sh,.int z):=by
 show(match nP op i j with|some z=>NW (Kd.sh,D.int z)|none=>NX)=_
 rw[h]
theorem uZ{p:Prop}[Decidable p]{α:Type}{a b:α}(h:(if p then NW a else NX)=NW b):p/\b=a:=by
 by_cases hp:p
 ·rw[if_pos hp] at h;cases h;exact⟨hp,rfl⟩
 ·rw[if_neg hp] at h;cases h
theorem bj{n:Nat}(h:n<=100000):n<=sizeLine:=LM h (by decide)
section
variable {K:Lh} {H H' H0:Hp} {S:Pr} {g:Gh}
theorem Rp.int{i:Int}(h:Rp K H S (.int i) v):v=.int i:=by unfold Rp at h;exact h
theorem Rp.bl{i:Bool}(h:Rp K H S (.bl i) v):v=.bl i:=by unfold Rp at h;exact h
theorem Rp.str{i:Str}(h:Rp K H S (.str i) v):v=.str i:=by unfold Rp at h;exact h
theorem Rp.non(h:Rp K H S .non v):v=.non:=by unfold Rp at h;exact h
theorem Rp.nd(h:Rp K H S (.nd hd ds) v):∃a o xs,v=.ref a/\¬S a/\H a=NW o/\eV K o hd xs/\RpL K H S ds xs:=by unfold Rp at h;exact h
theorem Rp.scr{ns:List Int}(h:Rp K H S (.scr ns) v):∃a,v=.ref a/\SqL K H a (ns.map V.int):=by
 unfold Rp at h;obtain⟨a,e,h⟩:=h;exact⟨a,e,h.elim (λh=>.inl h.2) .inr⟩
theorem mE{i:Int}:VR K g H0 H .sh (.int i) (.int i):=⟨λ_=>False,λ_ z=>z.elim,λ_ z=>z,by unfold Rp;rfl⟩
theorem EH{i:Bool}:VR K g H0 H .sh (.bl i) (.bl i):=⟨λ_=>False,λ_ z=>z.elim,λ_ z=>z,by unfold Rp;rfl⟩
theorem EI{i:Str}:VR K g H0 H .sh (.str i) (.str i):=⟨λ_=>False,λ_ z=>z.elim,λ_ z=>z,by unfold Rp;rfl⟩
theorem BG:VR K g H0 H .sh .non .non:=⟨λ_=>False,λ_ z=>z.elim,λ_ z=>z,by unfold Rp;rfl⟩
theorem EJ(h:Rp K H (Sg g) d v):VR K g H0 H .sh d v:=⟨λ_=>False,λ_ z=>z.elim,λ_ z=>z,h.weak λb z=>z.elim id λz=>z.elim⟩
theorem aq(hp:H p=NX):Same H (upd H p o):=λb u q=>by rw[al (aD q hp)];exact q
theorem TrL.ofFz:∀{ds:List D} {xs:List V},RpL K H S ds xs->TrL K H S ds [] .fz xs λ_=>False
 |[],_,h=>by unfold TrL;exact⟨h.nil_inv,λ_ z=>z⟩
 |d::ds,_,h=>by
  obtain⟨y,ys,rfl,r,t⟩:=h.cons_inv;unfold TrL;exact⟨y,ys,_,_,rfl,λb=>⟨.inl,λz=>z.elim id id⟩,λ_ z=>z.elim,Tr.fz r,TrL.ofFz t⟩
theorem k5(hp:H p=NX)(r:RpL K H (Sg g) ds xs):VR K g H (upd H p (.lst xs)) (.fr bv) (.lst ds) (.ref p):=by
 refine⟨λb=>b=p,λb z=>z▸hp,?_⟩;show Tr K _ _ _ _ _ _;unfold Tr
 refine⟨p,_,xs,λ_=>False,rfl,aG,rfl,λ_ z=>z,(λh=>nomatch h),λb=>⟨λz=>.inl ⟨rfl,z⟩,λz=>z.elim (λz=>z.2) λz=>z.elim⟩,.ofFz (r.go λb o n e=>⟨aq hp b o e,λz=>z.elim n λz=>?_⟩)⟩
 subst z;rw[hp] at e;cases e
theorem BH(m:MuOk H (Sg g))(hp:H p=NX)(r:RpL K H (Sg g) ds xs):VR K g H (upd H p (.tup xs)) .sh (.tup ds) (.ref p):=by
 refine EJ ?_;unfold Rp;refine⟨p,_,xs,rfl,λz=>?_,aG,rfl,r.same (aq hp)⟩;obtain⟨o,e,_⟩:=m p z;rw[hp] at e;cases e
theorem qQ{es:List Ow}(h:lC (.own es r)=NY):(∀e∈es,e=.fz)/\r=.fz:=by
 simp only[lC,Lj,LI] at h;exact⟨λe he=>gW (h.1 e he),gW h.2⟩
theorem TrL.flat:∀{ds:List D} {es:List Ow} {xs:List V} {F:Pr},(∀e∈es,e=.fz)->TrL K H S ds es .fz xs F->(∀b,¬F b)/\RpL K H S ds xs
 |[],_,_,_,_,h=>by unfold TrL at h;exact⟨h.2,by rw[h.1];exact .nil⟩
 |d::ds,es,_,_,he,h=>by
  unfold TrL at h;obtain⟨y,ys,F1,F2,rfl,hF,dj,h1,h2⟩:=h
  have e:es.headD .fz=.fz:=by
   cases es with
   |nil=>rfl
   |cons a r=>exact he a (.head _)
  rw[e] at h1;obtain⟨n1,r1⟩:=h1.fz_inv
  obtain⟨n2,r2⟩:=TrL.flat (λe q=>he e (by cases es with|nil=>cases q|cons a r=>exact .tail _ q)) h2
  exact⟨λb z=>((hF b).mp z).elim (n1 b) (n2 b),.cons r1 r2⟩
theorem VR.items(ok:gm kd ds=NY)(m:MuOk H0 (Sg g))(s:Same H0 H)(h:VR K g H0 H kd (.nd hd ds) v):∃a o xs,v=.ref a/\H a=NW o/\eV K o hd xs/\RpL K H (Sg g) ds xs:=by
 have ns:∀{kd':Kd},mC kd' (.nd hd ds)=NY->VR K g H0 H kd' (.nd hd ds) v->∃a o xs,v=.ref a/\H a=NW o/\eV K o hd xs/\RpL K H (Sg g) ds xs:=λok h=>by
  obtain⟨a,o,xs,e,_,q1,q2,q3⟩:=(h.sh ok m s).nd;exact⟨a,o,xs,e,q1,q2,q3⟩
 cases kd with
 |sh=>exact ns rfl h
 |fr k=>exact ns rfl h
 |bo i k=>
  simp only[gm,Mu] at ok;rcases ok with ok|ok
  ·obtain⟨F,h1,h2,F0,h3,h4⟩:=h
   cases k with
   |fz=>
    obtain⟨_,r⟩:=h4.fz_inv;obtain⟨a,o,xs,e,_,q1,q2,q3⟩:=r.nd;exact⟨a,o,xs,e,q1,q2,q3.weak λb z=>.inl z⟩
   |own es r=>
    obtain⟨he,rfl⟩:=qQ ok;unfold Tr at h4;obtain⟨a,o,xs,F',e,q1,q2,n1,n2,hF,t⟩:=h4;exact⟨a,o,xs,e,q1,q2,(t.flat he).2.weak λb z=>.inl z⟩
  ·obtain⟨a,o,xs,e,_,q1,q2,q3⟩:=h.rd.nd;exact⟨a,o,xs,e,q1,q2,q3.im (m.same s) ok⟩
end
noncomputable def Ih(K:Lh)(op:Oe):R2:=λx y H Q=>∃g H0 kx ky kd d,MuOk H0 (Sg g)/\Same H0 H/\VR K g H0 H kx.1 kx.2 x/\VR K g H0 H ky.1 ky.2 y/\ef op kx ky=NW (kd,d)/\∀v H',Same H H'->VR K g H H' kd d v->Q v H'
theorem EK{i j:Int}(h:i.natAbs<lim/\j.natAbs<lim):IntMulOk i j:=
 IntMulOk.of_bits (LM (PyProof.Rows.intBits_le (k:=4000) h.1) (by decide)) (LM (PyProof.Rows.intBits_le (k:=4000) h.2) (by decide))
theorem xY{j:Int}(h:j.natAbs<lim):j.natAbs.log2<9000:=by
 by_cases z:j.natAbs=0
 ·rw[z];decide
 ·exact Lr ((Nat.log2_lt z).mpr h) (by decide)
theorem xZ:iy X (binaryOp .Mult) (rI (λi j=>i.natAbs<lim/\j.natAbs<lim) λi j=>.int (i*j)):=DJ λ_ _ _ _ _ _ _ hc q=>PyProof.Rows.mul_int q (EK hc)
theorem u0:iy X (binaryOp .FloorDiv) (rI (λi j=>0<j/\j.natAbs<lim) λi j=>.int (i / j)):=DJ λi j _ _ _ _ _ hc q=>by
 have h1:(0:Int)<j:=hc.1;exact PyProof.Rows.floordiv_int (by lia) (by rw[M7 i (by lia)];exact q) (.inl (PyProof.noPylong_of_log2 (xY hc.2)))
theorem ya:iy X (binaryOp .LShift) (rI (λi j=>0<=j/\j<=1000000/\i.natAbs<lim) λi j=>.int (i*2^j.toNat)):=DJ λi j _ _ _ _ _ hc q=>by
 have hb:=PyProof.Rows.intBits_le (k:=4000) hc.2.2;exact PyProof.Rows.lshift_int hc.1 (by have:=hc.2.1;lia) q
theorem u3{X:Cx}(op:Oe):iy X (binaryOp op) (Ih X.K op):=by
 intro pins s σ H x y v u Q I rx ry h;obtain⟨g,H0,⟨kx,dx⟩,⟨ky,dy⟩,kd,d,m,sm,tx,ty,hb,q⟩:=h;dsimp only at tx ty
 cases dx with
 |int i=>cases dy with
  |int j=>
   obtain⟨rfl,rfl⟩:x=.int i/\y=.int j:=⟨tx.rd.int,ty.rd.int⟩
   have hb:(match nP op i j with|some z=>NW (Kd.sh,D.int z)|none=>NX)=NW (kd,d):=hb
   cases hz:nP op i j with
   |none=>rw[hz] at hb;cases hb
   |some z=>
    rw[hz] at hb;cases hb;have q:Q (.int z) H:=q _ H (Same.refl H) mE
    cases op with
    |Add=>cases hz;exact Bg pins s σ H _ _ v u Q I rx ry ⟨_,_,rfl,rfl,q⟩
    |Sub=>cases hz;exact Bh pins s σ H _ _ v u Q I rx ry ⟨_,_,rfl,rfl,q⟩
    |Mult=>obtain⟨hm,rfl⟩:=uZ (show(if _ then NW (i*j) else NX)=NW z from hz);exact xZ pins s σ H _ _ v u Q I rx ry ⟨_,_,rfl,rfl,hm,q⟩
    |FloorDiv=>obtain⟨hm,rfl⟩:=uZ (show(if _ then NW (i / j) else NX)=NW z from hz);exact u0 pins s σ H _ _ v u Q I rx ry ⟨_,_,rfl,rfl,hm,q⟩
    |Mod=>obtain⟨hm,rfl⟩:=uZ (show(if _ then NW (i%j) else NX)=NW z from hz);exact Bi pins s σ H _ _ v u Q I rx ry ⟨_,_,rfl,rfl,hm,q⟩
    |LShift=>obtain⟨hm,rfl⟩:=uZ (show(if _ then NW (i*2^j.toNat) else NX)=NW z from hz);exact ya pins s σ H _ _ v u Q I rx ry ⟨_,_,rfl,rfl,hm,q⟩
    |Pow=>obtain⟨hm,rfl⟩:=uZ (show(if _ then NW (i^j.toNat) else NX)=NW z from hz);exact Bj pins s σ H _ _ v u Q I rx ry ⟨_,_,rfl,rfl,hm,q⟩
    |RShift=>obtain⟨hm,rfl⟩:=uZ (show(if _ then NW (i / 2^j.toNat) else NX)=NW z from hz);exact Bk pins s σ H _ _ v u Q I rx ry ⟨_,_,rfl,rfl,hm,q⟩
    |BitAnd=>cases hz;exact Bl pins s σ H _ _ v u Q I rx ry ⟨_,_,rfl,rfl,q⟩
    |BitOr=>cases hz;exact Ej pins s σ H _ _ v u Q I rx ry ⟨_,_,rfl,rfl,q⟩
    |BitXor=>cases hz;exact Bm pins s σ H _ _ v u Q I rx ry ⟨_,_,rfl,rfl,q⟩
    |_=>cases hz
  |_=>cases hb
 |nd hd xs=>cases hd with
  |lst=>cases op with
   |Add=>cases dy with
    |nd hd' ys=>cases hd' with
     |lst=>
      obtain⟨hz,e⟩:=uZ (show(if _ then NW (Kd.fr bv,D.lst (xs++ys)) else NX)=NW (kd,d) from hb)
      cases e;obtain⟨a,o,us,rfl,ga,qa,ra⟩:=tx.items hz.1 m sm;obtain⟨b,o',vs,rfl,gb,qb,rb⟩:=ty.items hz.2.1 m sm;cases(show o=_ from qa);cases(show o'=_ from qb);refine Bt pins s σ H _ _ v u Q I rx ry ⟨a,b,us,vs,rfl,rfl,ga,gb,by rw[ra.len,rb.len];exact bj hz.2.2,λp hp=>q _ _ (aq hp) (k5 hp (ra.append rb))⟩
     |_=>cases hb
    |_=>cases hb
   |_=>cases hb
  |tup=>cases hb
  |_=>cases hb
 |str i=>cases hb
 |_=>cases hb
end J
namespace J
open PySem PySem.Spec L2
noncomputable def eZ:D->Option aV
 |.int i=>NW (.inl i)
 |.str x=>NW (.inr x)
 |_=>NX
noncomputable def ff:List D->Option (List aV)
 |[]=>NW []
 |d::ds=>match eZ d,ff ds with
  |some k,NW ks=>NW (k::ks)
  |_,_=>NX
noncomputable def yb:D->Option (aV ⊕ List aV)
 |.nd .tup ds=>(ff ds).map .inr
 |d=>(eZ d).map .inl
noncomputable def jU:List D->Option (List (aV ⊕ List aV))
 |[]=>NW []
 |d::ds=>match yb d,jU ds with
  |some k,NW ks=>NW (k::ks)
  |_,_=>NX
noncomputable def Al:Nat->List (aV ⊕ List aV)->Bool
 |_,[]=>NY
 |m,.inl _::r=>m%2==0&&Al (m / 2) r
 |m,.inr _::r=>m%2==1&&Al (m / 2) r
noncomputable def gp:D->Option DK
 |.nd .tup ds=>(jU ds).map .inr
 |d=>(eZ d).map .inl
noncomputable def a9(ks:List DK)(k:DK):Option Nat:=ks.findIdx? λx=>decide (x=k)
section
variable {K:Lh} {H:Hp} {S:Pr}
theorem mF(h:eZ d=NW k)(r:Rp K H S d v):v=kV k:=by
 cases d<;>simp only[eZ] at h<;>first|(cases h;done)|(cases h;first|exact r.int|exact r.str)
theorem nQ:∀{ds:List D} {ks:List aV} {vs:List V},ff ds=NW ks->RpL K H S ds vs->vs=ks.map kV
 |[],ks,vs,h,r=>by cases h;exact r.nil_inv
 |d::ds,ks,vs,h,r=>by
  obtain⟨y,ys,rfl,r1,r2⟩:=r.cons_inv;unfold ff at h;split at h
  ·rename_i k ks' e1 e2;cases h;rw[mF e1 r1,nQ e2 r2];rfl
  ·cases h
theorem mG:∀{ds:List D} {ks:List (aV ⊕ List aV)} {vs:List V} {m:Nat},jU ds=NW ks->RpL K H S ds vs->Al m ks=NY->TkIts H m ks vs
 |[],ks,vs,m,h,r,hm=>by cases h;exact r.nil_inv
 |d::ds,ks,vs,m,h,r,hm=>by
  obtain⟨y,ys,rfl,r1,r2⟩:=r.cons_inv;unfold jU at h;split at h
  ·rename_i k ks' e1 e2;cases h
   cases k with
   |inl k=>
    simp only[Al,Lj,beq_iff_eq] at hm;refine⟨ys,?_,hm.1,mG e2 r2 hm.2⟩
    have:eZ d=NW k:=by
     unfold yb at e1;split at e1
     ·cases e:ff _<;>rw[e] at e1<;>cases e1
     ·cases e:eZ d with
      |none=>rw[e] at e1;cases e1
      |some z=>rw[e] at e1;cases e1;rfl
    rw[mF this r1]
   |inr k=>
    simp only[Al,Lj,beq_iff_eq] at hm;unfold yb at e1;split at e1
    ·rename_i zs
     cases e:ff zs with
     |none=>rw[e] at e1;cases e1
     |some z=>
      rw[e] at e1;cases e1;obtain⟨a,o,xs,rfl,_,g,q,rl⟩:=r1.nd;cases(show o=_ from q);rw[nQ e rl] at g;exact⟨a,ys,rfl,hm.1,g,mG e2 r2 hm.2⟩
    ·cases e:eZ d<;>rw[e] at e1<;>cases e1
  ·cases h
theorem jV(h:gp d=NW k)(r:Rp K H S d v):(∃x,k=.inl x/\v=kV x)\/∃xs b,k=.inr xs/\v=.ref b/\∀m,Al m xs=NY->TkAt H m xs b:=by
 have sc:∀{d:D},(eZ d).map Sum.inl=NW k->Rp K H S d v->(∃x,k=.inl x/\v=kV x):=λ{d} h r=>by
  cases e:eZ d with
  |none=>rw[e] at h;cases h
  |some x=>rw[e] at h;cases h;exact⟨x,rfl,mF e r⟩
 unfold gp at h;split at h
 ·rename_i ds
  cases e:jU ds with
  |none=>rw[e] at h;cases h
  |some ks=>
   rw[e] at h;cases h;obtain⟨a,o,xs,rfl,_,g,q,rl⟩:=r.nd;cases(show o=_ from q);exact .inr ⟨ks,a,rfl,rfl,λm hm=>⟨xs,g,mG e rl hm⟩⟩
 ·exact .inl (sc h r)
end
theorem iG{κ:Type}[DecidableEq κ]:∀(kvs:List (κ×V)) (k:κ),gR kvs k=(kvs.findIdx? λkv=>decide (kv.1=k)).bind λi=>(kvs.map (·.2))[i]?
 |[],k=>rfl
 |(a,b)::r,k=>by
  have ih:=iG r k;unfold gR at ih⊢;rw[Mn,L0];by_cases h:a=k
  ·simp[h]
  ·simp only[h,decide_false];rw[ih]
   cases e:r.findIdx? λkv=>decide (kv.1=k) with
   |none=>simp
   |some i=>simp
noncomputable def jW(t:Nat):DK->Bool
 |.inl _=>t==0
 |.inr xs=>(match t with|0=>NZ|m+1=>Al m xs)
theorem mH{K:Lh}{H:Hp}{S:Pr}{a:N2}{o:HO}{t:Nat}{ks:List DK}{xs:List V}{d:D}{k:DK}{v:V}(g:H a=NW o)(q:eV K o (.dic t ks) xs)(h:gp d=NW k)(r:Rp K H S d v)(hk:jW t k=NY) :
  DGet H a v ((a9 ks k).bind λi=>xs[i]?):=by
 rcases q with⟨rfl,kvs,rfl,e1,e2⟩|⟨m,rfl,kvs,ep,rfl,e1,e2⟩
 ·rcases jV h r with⟨x,rfl,rfl⟩|⟨ys,b,rfl,rfl,gb⟩
  ·have:=DGet.k (k:=x) g;rw[iG] at this
   have e3:a9 ks (.inl x)=kvs.findIdx? λkv=>decide (kv.1=x):=by
    unfold a9;rw[e1,Mv];congr 1;funext p;simp[Sum.inl.injEq]
   rw[e3,e2];exact this
  ·cases hk
 ·rcases jV h r with⟨x,rfl,rfl⟩|⟨ys,b,rfl,rfl,gb⟩
  ·cases hk
  ·have:=DGet.t (k:=ys) g (gb m hk);rw[iG] at this
   have e3:a9 ks (.inr ys)=kvs.findIdx? λkv=>decide (kv.1=ys):=by
    unfold a9;rw[e1,Mv];congr 1;funext p;simp[Sum.inr.injEq]
   rw[e3,e2];exact this
theorem yc{ks:List DK}{i:Nat}(h:a9 ks k=NW i):i<ks.length:=by
 unfold a9 at h;exact(List.findIdx?_eq_some_iff_findIdx_eq.mp h).1
theorem yd{t:Nat}{ks:List DK}{xs:List V}(q:eV K o (.dic t ks) xs):ks.length=xs.length:=by
 rcases q with⟨rfl,kvs,rfl,e1,e2⟩|⟨m,rfl,kvs,ep,rfl,e1,e2⟩<;>rw[e1,e2,Li,Li]
theorem nR{ks:List DK}{xs:List V}(hl:ks.length=xs.length):((a9 ks k).bind λi=>xs[i]?).isSome=(a9 ks k).isSome:=by
 cases e:a9 ks k with
 |none=>rfl
 |some i=>
  have:=yc e;rw[L1,Lm (by lia)];rfl
noncomputable def Am:D->Bool
 |.non=>NY
 |_=>NZ
noncomputable def Kl:D->Bool
 |.nd (.dic 0 []) _=>NY
 |_=>NZ
noncomputable def Ii:List D->List D->Option Bool
 |[],[]=>NW NY
 |x::xs,y::ys=>if ee 80 x=NY/\ee 80 y=NY then(Ii xs ys).map (nO x y&&·) else if Kl x=NY/\Kl y=NY then Ii xs ys else NX
 |_,_=>NX
noncomputable def Lg(x y:D):Option Bool:=match x with
 |.nd .lst ds=>(match y with|.nd .lst es=>(Ii ds es).map (!·)|_=>NX)
 |_=>NX
noncomputable def bR(op:Om)(x y:D):Option Bool:=
 match op with
 |.Lt=>(match x,y with|.int i,.int j=>NW (decide (i<j))|_,_=>NX)
 |.LtE=>(match x,y with|.int i,.int j=>NW (decide (i<=j))|_,_=>NX)
 |.Gt=>(match x,y with|.int i,.int j=>NW (decide (j<i))|_,_=>NX)
 |.GtE=>(match x,y with|.int i,.int j=>NW (decide (j<=i))|_,_=>NX)
 |.Eq=>if ee 90 x=NY/\ee 90 y=NY then NW (nO x y) else NX
 |.NotEq=>if ee 90 x=NY/\ee 90 y=NY then NW (!nO x y) else NX
 |.In=>(match y with
  |.nd .lst ds=>if ee 90 x=NY/\jT 90 ds=NY then NW (ds.any λz=>nO z x) else NX
  |_=>NX)
 |.NotIn=>(match y with
  |.nd (.dic t ks) _=>(match gp x with|some k=>if jW t k=NY then NW (!(a9 ks k).isSome) else NX|none=>NX)
  |_=>NX)
 |.Is=>(match y with
  |.non=>NW (Am x)
  |_=>NX)
 |.IsNot=>NX
noncomputable abbrev Nv:Pr:=λ_=>False
noncomputable def u4(K:Lh)(op:Om):R2:=λx y H Q=>∃dx dy b,Rp K H Nv dx x/\Rp K H Nv dy y/\bR op dx dy=NW b/\Q (.bl b) H
theorem qR(x:D):∀ds:List D,((lB ds).any λz=>PyData.eqv z (py x))=ds.any λz=>nO z x
 |[]=>by simp[lB]
 |d::ds=>by simp only[lB,ML,qR x ds];rfl
theorem jX{X:Cx}(hu:X.A.units+100<cLine)(op:Om):iy X (compareOp op) (u4 X.K op):=by
 intro pins s σ H x y v u Q I rx ry h;obtain⟨dx,dy,b,tx,ty,hb,q⟩:=h;have hu1:X.A.units+1<cLine:=by lia
 have fin:∀{b':Bool},b'=b->EP X pins σ Q (.bool b') s:=λe=>⟨.bl b,H,I,by rw[e];rfl,q⟩
 have isN:dy=.non->plainIs v u=NY/\(v==u)=Am dx:=λe=>by
  subst e;have ey:=ty.non;subst ey;cases ry
  cases dx with
  |non=>have e:=tx.non;subst e;cases rx;exact⟨rfl,rfl⟩
  |bl c=>have e:=tx.bl;subst e;cases rx;exact⟨rfl,by cases c<;>rfl⟩
  |int i=>have e:=tx.int;subst e;obtain⟨t,rfl⟩:=rx;exact⟨rfl,rfl⟩
  |str i=>have e:=tx.str;subst e;obtain⟨t,rfl⟩:=rx;exact⟨rfl,rfl⟩
  |scr ns=>obtain⟨a,rfl,_⟩:=tx.scr;cases rx;exact⟨rfl,rfl⟩
  |nd hd ds=>obtain⟨a,o,xs,rfl,_⟩:=tx.nd;cases rx;exact⟨rfl,rfl⟩
 cases op with
 |Lt=>
  simp only[bR] at hb;split at hb
  ·cases hb;obtain rfl:=tx.int;obtain rfl:=ty.int;exact Ek pins s σ H _ _ v u Q I rx ry ⟨_,_,rfl,rfl,q⟩
  ·cases hb
 |LtE=>
  simp only[bR] at hb;split at hb
  ·cases hb;obtain rfl:=tx.int;obtain rfl:=ty.int;exact El pins s σ H _ _ v u Q I rx ry ⟨_,_,rfl,rfl,q⟩
  ·cases hb
 |Gt=>
  simp only[bR] at hb;split at hb
  ·cases hb;obtain rfl:=tx.int;obtain rfl:=ty.int;exact Em pins s σ H _ _ v u Q I rx ry ⟨_,_,rfl,rfl,q⟩
  ·cases hb
 |GtE=>
  simp only[bR] at hb;split at hb
  ·cases hb;obtain rfl:=tx.int;obtain rfl:=ty.int;exact En pins s σ H _ _ v u Q I rx ry ⟨_,_,rfl,rfl,q⟩
  ·cases hb
 |Eq=>
  simp only[bR] at hb;split at hb
  ·rename_i hp;cases hb;obtain⟨⟨as,ra⟩,a1,a2⟩:=dF I hp.1 tx rx;obtain⟨⟨bs,rb⟩,b1,b2⟩:=dF I hp.2 ty ry;exact SeqAt.compareEq_reads ra rb a1 b1 (by lia) (fin rfl)
  ·cases hb
 |NotEq=>
  simp only[bR] at hb;split at hb
  ·rename_i hp;cases hb;obtain⟨⟨as,ra⟩,a1,a2⟩:=dF I hp.1 tx rx;obtain⟨⟨bs,rb⟩,b1,b2⟩:=dF I hp.2 ty ry;exact SeqAt.compareNe_reads ra rb a1 b1 (by lia) (fin rfl)
  ·cases hb
 |In=>
  simp only[bR] at hb;split at hb
  ·rename_i ds;split at hb
   ·rename_i hp;cases hb;obtain⟨⟨as,ra⟩,a1,a2⟩:=dF I hp.1 tx rx;obtain⟨⟨bs,rb⟩,b1,b2⟩:=dF (n:=91) I (by simp only[ee,Lj];exact⟨rfl,hp.2⟩) ty ry;simp only[py,PyData.canLay0,PyData.depth] at rb b1 b2;exact SeqAt.in_list_reads rb ra b1 a1 (by lia) (fin (qR _ _))
   ·cases hb
  ·cases hb
 |NotIn=>
  simp only[bR] at hb;split at hb
  ·rename_i t ks vs;split at hb
   ·rename_i k ek;split at hb
    ·rename_i hf;cases hb;obtain⟨a,o,xs,rfl,_,g,qd,rl⟩:=ty.nd;cases ry;refine xP (by lia) I (mH g qd ek tx hf) rx λs3 I3=>⟨.bl _,H,I3,rfl,?_⟩;rw[nR (yd qd)];exact q
    ·cases hb
   ·cases hb
  ·cases hb
 |Is=>
  simp only[bR] at hb;split at hb
  ·cases hb;obtain⟨p,e⟩:=isN rfl;exact wpAny_is_plain p (fin e)
  ·cases hb
 |IsNot=>cases hb
noncomputable def u5:D->Option Bool
 |.non=>NW NZ
 |.bl b=>NW b
 |.int i=>NW (i != 0)
 |.scr ns=>NW (!ns.isEmpty)
 |.nd .lst xs=>NW (!xs.isEmpty)
 |.nd .tup xs=>NW (!xs.isEmpty)
 |_=>NX
theorem RpL.empty{ds:List D}{vs:List V}(h:RpL K H S ds vs):vs.isEmpty=ds.isEmpty:=by
 have:=h.len
 cases vs<;>cases ds<;>simp_all
theorem BI{b:Bool}(t:Rp K H S d v)(h:u5 d=NW b):Bp K v H b:=by
 cases d with
 |non=>obtain rfl:=t.non;cases h;rfl
 |bl k=>obtain rfl:=t.bl;cases h;rfl
 |int i=>obtain rfl:=t.int;cases h;rfl
 |str x=>cases h
 |scr ns=>
  obtain⟨a,rfl,g⟩:=t.scr;cases h
  exact .inl ⟨_,g,by cases ns<;>rfl⟩
 |nd hd xs=>
  obtain⟨a,o,us,rfl,_,g,q,r⟩:=t.nd
  cases hd with
  |lst=>cases h;cases(show o=_ from q);exact .inl ⟨us,.of g,by rw[r.empty]⟩
  |tup=>cases h;cases(show o=_ from q);exact .inr (.inl ⟨us,.of g,by rw[r.empty]⟩)
  |dic t ks=>cases h
  |obj c ns=>cases h
end J
namespace J
open PySem PySem.Spec L2
noncomputable def Ow.ch:Ow->Nat->Ow
 |.fz,_=>.fz
 |.own es r,i=>es.getD i r
noncomputable def pC:Kd->Nat->Kd
 |.sh,_=>.sh
 |.fr k,i=>(match k.ch i with|.fz=>.sh|c=>.fr c)
 |.bo j k,i=>(match k.ch i with|.fz=>.sh|c=>.bo j c)
section
variable {K:Lh} {H H' H0:Hp} {S:Pr} {g:Gh}
theorem TrL.len:∀{ds:List D} {es:List Ow} {r:Ow} {xs:List V} {F:Pr},TrL K H S ds es r xs F->xs.length=ds.length
 |[],_,_,_,_,h=>by unfold TrL at h;rw[h.1];rfl
 |d::ds,es,r,xs,F,h=>by
  unfold TrL at h;obtain⟨y,ys,F1,F2,rfl,_,_,_,h2⟩:=h;rw[LW,LW,TrL.len h2]
theorem TrL.get:∀{ds:List D} {es:List Ow} {r:Ow} {xs:List V} {F:Pr} {i:Nat} {d:D},TrL K H S ds es r xs F->ds[i]?=NW d->∃x Fi,xs[i]?=NW x/\(∀b,Fi b->F b)/\Tr K H S d (es.getD i r) x Fi
 |[],_,_,_,_,_,_,h,e=>by simp at e
 |d::ds,es,r,xs,F,0,d',h,e=>by
  unfold TrL at h;obtain⟨y,ys,F1,F2,rfl,hF,_,h1,h2⟩:=h;simp at e;subst e
  exact⟨y,F1,rfl,λb z=>(hF b).mpr (.inl z),by cases es<;>simpa using h1⟩
 |d::ds,es,r,xs,F,i+1,d',h,e=>by
  unfold TrL at h;obtain⟨y,ys,F1,F2,rfl,hF,_,h1,h2⟩:=h;obtain⟨x,Fi,e1,e2,e3⟩:=TrL.get h2 (by simpa using e)
  exact⟨x,Fi,by simpa using e1,λb z=>(hF b).mpr (.inr (e2 b z)),by cases es<;>simpa using e3⟩
theorem VR.ch{ds:List D}(h:VR K g H0 H kd (.nd hd ds) v):∃a o xs,v=.ref a/\H a=NW o/\eV K o hd xs/\xs.length=ds.length/\∀(i:Nat) d,ds[i]?=NW d->∃x,xs[i]?=NW x/\VR K g H0 H (pC kd i) d x:=by
 obtain⟨F,h1,h2⟩:=h
 have shc:∀{S':Pr},(∀b,g b≠NX->S' b)->Rp K H S' (.nd hd ds) v->∃a o xs,v=.ref a/\H a=NW o/\eV K o hd xs/\xs.length=ds.length/\∀(i:Nat) d,ds[i]?=NW d->∃x,xs[i]?=NW x/\VR K g H0 H .sh d x:=λhs r=>by
  obtain⟨a,o,xs,e,n,q1,q2,q3⟩:=r.nd;refine⟨a,o,xs,e,q1,q2,q3.len,λi d e=>?_⟩;obtain⟨x,e1,e2⟩:=q3.getD e;exact⟨x,e1,EJ (e2.weak λb z=>hs b z)⟩
 cases kd with
 |sh=>exact shc (λb z=>.inl z) h2.2
 |fr k=>
  have h2:Tr K H (Sx g F) _ k v F:=h2
  cases k with
  |fz=>
   obtain⟨a,o,xs,e,q1,q2,q3,q4⟩:=shc (λb z=>.inl z) h2.fz_inv.2;exact⟨a,o,xs,e,q1,q2,q3,q4⟩
  |own es r=>
   unfold Tr at h2;obtain⟨a,o,xs,F',e,q1,q2,n1,n2,hF,t⟩:=h2;refine⟨a,o,xs,e,q1,q2,t.len,λi d e=>?_⟩;obtain⟨x,Fi,e1,e2,e3⟩:=t.get e;refine⟨x,e1,?_⟩;have hs:∀b o,H b=NW o->¬Sx g F b->¬Sx g Fi b:=λb o _ n z=>n (z.imp id λz=>(hF b).mpr (.inr (e2 b z)))
   show VR K g H0 H (match es.getD i r with|.fz=>.sh|c=>.fr c) d x
   cases hc:es.getD i r with
   |fz=>
    rw[hc] at e3;exact EJ (e3.fz_inv.2.weak λb z=>.inl z)
   |own es' r'=>
    rw[hc] at e3;exact⟨Fi,λb z=>h1 b ((hF b).mpr (.inr (e2 b z))),e3.go (λ_ _ _ h=>h) hs⟩
 |bo j k=>
  obtain⟨hn,F0,h3,h4⟩:=h2
  cases k with
  |fz=>
   obtain⟨a,o,xs,e,q1,q2,q3,q4⟩:=shc (λb z=>.inl z) h4.fz_inv.2;exact⟨a,o,xs,e,q1,q2,q3,q4⟩
  |own es r=>
   unfold Tr at h4;obtain⟨a,o,xs,F',e,q1,q2,n1,n2,hF,t⟩:=h4;refine⟨a,o,xs,e,q1,q2,t.len,λi d e=>?_⟩;obtain⟨x,Fi,e1,e2,e3⟩:=t.get e;refine⟨x,e1,?_⟩
   show VR K g H0 H (match es.getD i r with|.fz=>.sh|c=>.bo j c) d x
   cases hc:es.getD i r with
   |fz=>
    rw[hc] at e3;exact EJ (e3.fz_inv.2.weak λb z=>.inl z)
   |own es' r'=>
    rw[hc] at e3;exact⟨F,h1,hn,Fi,λb z=>h3 b ((hF b).mpr (.inr (e2 b z))),e3⟩
end
structure Cz where
 sc:Of
 N:List Str
 fn:Str->Bool
noncomputable abbrev Fn:=List D->Option KD
structure fV where
 fn:Str->Option Fn
 fm:Str->Option (Lh->Sp)
 cst:Str->Option D
 cf:Str->Option (List Str)
noncomputable def bt(x:Str):List Str->Option Nat
 |[]=>NX
 |y::r=>if x=y then NW 0 else(bt x r).map (·+1)
theorem aY{x:Str}:∀{N:List Str} {i:Nat},bt x N=NW i->N[i]?=NW x
 |[],_,h=>by cases h
 |y::r,i,h=>by
  unfold bt at h;split at h
  ·rename_i e;cases h;simp[e]
  ·cases q:bt x r with
   |none=>rw[q] at h;cases h
   |some j=>
    rw[q] at h;cases h;simpa using aY q
noncomputable def BJ(sc:Of)(x:Str):Bool:=sc.names.lookup x==NW .local||sc.names.lookup x==NW .cell||sc.names.lookup x==NW .free
noncomputable def gY(c:Cz)(x:Str):Bool:=c.sc.names.lookup x==NW .local||(c.fn x&&c.sc.names.lookup x==NW .cell)
noncomputable def gZ(scope:Of)(x:Str):Bool:=scope.names.lookup x==NW .cell
noncomputable def eh(sc:Of)(x:Str):Bool:=sc.names.lookup x==NW .globalImplicit
theorem mI{x:Str}(h:BJ sc x=NY):D8 sc x:=by
 simp only[BJ,Mu,beq_iff_eq] at h;rcases h with(h|h)|h
 ·exact .inl h
 ·exact .inr (.inl h)
 ·exact .inr (.inr h)
noncomputable def mJ(x:Str):Bool:=!(x==("__debug__":Str))&&!(x==("__classdict__":Str))
noncomputable def ua(K:Lh)(φ:Fn):Sp:=λvs H Q _=>∃ds g kd d,RpL K H (Sg g) ds vs/\MuOk H (Sg g)/\φ ds=NW (kd,d)/\∀v H',Same H H'->VR K g H H' kd d v->Q v H'
noncomputable def aS:List Str:=["len","isinstance","int","bool","list","all","range","enumerate","str","sum","min","max","abs","tuple","zip","dict","sorted","reversed","any","set","repr"]
noncomputable def mK(X:Cx)(x:Str)(sp:Sp):Prop:=
 (∃k f fd ps,FnOk X.prog X.w X.K X.mg X.base oW k f fd ps sp/\Room k X.A/\X.mg x=NW (.ref f)/\L8 X.K (.ref f)=NY/\Binds X.K fd ps []/\(x==("__debug__":Str))=NZ)\/
 False
noncomputable def Km(sp:Sp)(t:TA):TE:=λσ H Q=>t σ H λvs H1=>sp vs H1 Q E0
theorem u6{X:Cx}{x:Str}{t:TA}(tm:∀(σ:L2.St) (H:Hp) (Q R:List V->Hp->Prop),t σ H Q->(∀vs H1,Q vs H1->R vs H1)->t σ H R)(h:mK X x sp)(hg:Gl X x)(ha:PA X (e::es) t)(he:Ob (e::es) X.env=(NZ,eval e X.env)::Ob es X.env)(hpl:(backTo pos (Ob es X.env)).any (·.1)=NZ) :
  PE X (.Call (.Name x p) (e::es) [] pos) (Km sp t):=by
 intro pins s σ H Q I q;rcases h with⟨k,f,fd,ps,F,hr,hm,hk,hb,hdb⟩|h
 ·exact qE (E:=E0) F hr hg hm hk hb .nil uJ ha hdb he hpl pins s σ H Q I (tm _ _ _ _ q λvs H1 z=>by rw[MM];exact z)
 ·exact h.elim
theorem BK{x:Str}(h:mK X x sp)(hg:Gl X x):PE X (.Call (.Name x p) [] [] pos) (Km sp Bq):=by
 intro pins s σ H Q I q;rcases h with⟨k,f,fd,ps,F,hr,hm,hk,hb,hdb⟩|h
 ·exact uE (E:=E0) F hr hg hm hk hb .nil uJ hdb pins s σ H Q I q
 ·exact h.elim
structure EL(X:Cx)(Γ:fV):Prop where
 fn:∀x φ,Γ.fn x=NW φ->mK X x (ua X.K φ)
 cf:∀c fs C,Γ.cf c=NW fs->MP X.K Oh c=NW (NW (.ref C))->Cls X.K C/\∀a∈fs,me X.K C a
 fm:∀x sp,Γ.fm x=NW sp->∃k f fd ps,FnOk X.prog X.w X.K X.mg X.base oW k f fd ps (sp X.K)/\Room k X.A/\X.mg x=NW (.ref f)/\L8 X.K (.ref f)=NY/\Binds X.K fd ps []/\(x==("__debug__":Str))=NZ
 bl:∀x∈aS,X.mg x=NX
 units:X.A.units+100<cLine
 gd:X.A.guards=NW []
 cst:∀x d,Γ.cst x=NW d->∃u v,X.mg x=NW u/\RelV v u/\(∀H S,Rp X.K H S d v)/\(x==("__debug__":Str))=NZ
structure aC(X:Cx)(Γ:fV)(c:Cz):Prop where
 sc:X.env.scope=c.sc
 N:X.N=c.N
 fn:∀x,c.fn x=NY->X.fn x=NY
 calm:X.calm=NY
 nd:c.N.Nodup
 tab:EL X Γ
section
variable {X:Cx} {Γ:fV} {c:Cz}
theorem cA(O:aC X Γ c){x:Str}(h:eh c.sc x=NY):Gl X x:=by
 show X.env.scope.names.lookup x=_;rw[O.sc];simpa[eh] using h
theorem dY(O:aC X Γ c){x:Str}(h:gY c x=NY):AZ X.env.scope x/\(X.fn x=NY\/X.env.scope.names.lookup x=NW .local):=by
 simp only[gY,Mu,Lj,beq_iff_eq] at h;rw[O.sc];rcases h with h|h
 ·exact⟨.inl h,.inr h⟩
 ·exact⟨.inr h.2,.inl (O.fn x h.1)⟩
noncomputable def pD(i:Nat)(o:Option (Option Sl)):Option KD:=match o with|some (NW s)=>NW (sY i s)|_=>NX
noncomputable def cX(c:Cz)(x:Str):Option Nat:=match bt x c.N with|some i=>if BJ c.sc x&&mJ x then NW i else NX|none=>NX
theorem Ao(O:aC X Γ c){x:Str}{i:Nat}(hc:cX c x=NW i)(pos:Pos):SndE X (λρ=>pD i ρ[i]?) (.Name x pos):=by
 intro ρ kd d h g σ H Q se q;unfold cX at hc;split at hc
 ·rename_i j hj;split at hc
  ·rename_i hv;cases hc;simp only[Lj,mJ,Nb] at hv;dsimp only[pD] at h;split at h
   ·rename_i sl e;cases h;obtain⟨v,e1,e2⟩:=se.get e;exact aE (o3 (i:=i) (by rw[O.N];exact aY hj) (by rw[O.sc];exact mI hv.1) hv.2.1 hv.2.2) ⟨v,e1,q v H (Same.refl H) e2⟩
   ·cases h
  ·cases hc
 ·cases hc
theorem EM(i:Int)(j:Nat)(pos:Pos):SndE X (λ_=>NW (.sh,.int i)) (.Constant (.int i) j pos):=by
 intro ρ kd d h g σ H Q se q;cases h;exact aE ug (q _ H (Same.refl H) mE)
theorem Ij(i:Bool)(j:Nat)(pos:Pos):SndE X (λ_=>NW (.sh,.bl i)) (.Constant (.bool i) j pos):=by
 intro ρ kd d h g σ H Q se q;cases h;exact aE D9 (q _ H (Same.refl H) EH)
theorem EN(j:Nat)(pos:Pos):SndE X (λ_=>NW (.sh,.non)) (.Constant .none j pos):=by
 intro ρ kd d h g σ H Q se q;cases h;exact aE uh (q _ H (Same.refl H) BG)
theorem EO(x:Str)(j:Nat)(pos:Pos):SndE X (λ_=>NW (.sh,.str x)) (.Constant (.str x) j pos):=by
 intro ρ kd d h g σ H Q se q;cases h;exact aE A0 (q _ H (Same.refl H) EI)
theorem EQ(O:aC X Γ c){x:Str}{d:D}(hg:eh c.sc x=NY)(e:Γ.cst x=NW d)(pos:Pos):SndE X (λ_=>NW (.sh,d)) (.Name x pos):=by
 intro ρ kd d' h g σ H Q se q;cases h;obtain⟨u,v,h1,h2,h3,h4⟩:=O.tab.cst x d e;exact aE (xC (cA O hg) h1 h2 h4) (q v H (Same.refl H) (EJ (h3 H _)))
theorem two{fa fb:Ro->Option KD}(ha:SndE X fa a)(hb:SndE X fb b){ρ:Ro}{ka kb:Kd}{da db:D}(ea:fa ρ=NW (ka,da))(eb:fb ρ=NW (kb,db)){g:Gh}{σ:L2.St}{H:Hp}{R:V->V->Hp->Prop}(se:SE X.K g ρ σ H)(q:∀x y H',Same H H'->VR X.K g H H' ka da x->VR X.K g H H' kb db y->R x y H'):wE X a σ H λx H1=>wE X b σ H1 λy H2=>R x y H2:=
 ha ρ ka da ea g σ H _ se λx H1 s1 v1=>hb ρ kb db eb g σ H1 _ (se.same s1) λy H2 s2 v2=>q x y H2 (s1.trans s2) (v1.same s2) (v2.older s1)
noncomputable def u7(op:Oe)(a b:Option KD):Option KD:=match a,b with
 |some x,NW y=>ef op x y
 |_,_=>NX
theorem ER{fa fb:Ro->Option KD}(ha:SndE X fa a)(hb:SndE X fb b):SndE X (λρ=>u7 op (fa ρ) (fb ρ)) (.BinOp a op b pos):=by
 intro ρ kd d h g σ H Q se q;dsimp only[u7] at h;split at h
 ·rename_i x y ea eb;exact aE (Ae (u3 op) aB aB) (two ha hb ea eb se λvx vy H' s r1 r2=>⟨g,H,x,y,kd,d,se.mu,s,r1,r2,h,λv H2 s2 r=>q v H2 (s.trans s2) (r.older s)⟩)
 ·cases h
noncomputable def jY(op:Om)(a b:Option KD):Option Bool:=match a,b with
 |some (_,x),NW (_,y)=>bR op x y
 |_,_=>NX
noncomputable def bV(o:Option Bool):Option KD:=o.map λb=>(.sh,.bl b)
theorem ES{fa fb:Ro->Option KD}{a b:N0}{op:Om}(O:aC X Γ c)(hm:Oj op b=NZ)(ha:SndE X fa a)(hb:SndE X fb b):SndE X (λρ=>bV (jY op (fa ρ) (fb ρ))) (.Compare a [op] [b] pos):=by
 intro ρ kd d h g σ H Q se q
 cases hc:jY op (fa ρ) (fb ρ) with
 |none=>simp only[hc,bV] at h;cases h
 |some r=>
  simp only[hc,bV] at h;cases h;unfold jY at hc;split at hc
  ·rename_i ka x kb y ea eb;exact aE (xJ (jX O.tab.units op) aB aB hm) (two ha hb ea eb se λvx vy H' s vx' vy'=>⟨x,y,r,vx'.rd,vy'.rd,hc,q _ H' s EH⟩)
  ·cases hc
theorem ET{fa fb:Ro->Option KD}{a b:N0}{op:Om}(O:aC X Γ c)(hm:Oj op b=NZ)(ha:SndE X fa a)(hb:SndE X fb b):SndT X (λρ=>jY op (fa ρ) (fb ρ)) (.Compare a [op] [b] pos):=by
 intro ρ r hc g σ H Q se q;dsimp only[jY] at hc;split at hc
 ·rename_i ka x kb y ea eb;exact nN (qD (jX O.tab.units op) aB aB hm) (two ha hb ea eb se λvx vy H' s vx' vy'=>⟨x,y,r,vx'.rd,vy'.rd,hc,r,rfl,q H' s⟩)
 ·cases hc
noncomputable def fj(op op':Om)(a b z:Option KD):Option Bool:=match a,b with
 |some (_,x),NW (_,y)=>(match bR op x y with
  |some NY=>(match z with|some (_,z)=>bR op' y z|none=>NX)
  |some NZ=>NW NZ
  |none=>NX)
 |_,_=>NX
theorem pE{fa fb fc:Ro->Option KD}(ha:SndE X fa a)(hb:SndE X fb b)(he:SndE X fc e){ρ:Ro}{r:Bool}(h:fj op op' (fa ρ) (fb ρ) (fc ρ)=NW r){g:Gh}{σ:L2.St}{H:Hp}{Q:VK}(se:SE X.K g ρ σ H)(q:∀H',Same H H'->Q (.bl r) H') :
  uu (u4 X.K op) (u4 X.K op') (wE X a) (wE X b) (wE X e) σ H Q:=by
 unfold fj at h;split at h
 ·rename_i ka x kb y ea eb;split at h
  ·rename_i h1;split at h
   ·rename_i kz z ez;refine two ha hb ea eb se λvx vy H' s vx' vy'=>⟨x,y,NY,vx'.rd,vy'.rd,h1,NY,rfl,?_⟩;exact uL (he ρ kz z ez g σ H' _ (se.same s) λvz H2 s2 vz'=>⟨y,z,r,(vy'.same s2).rd,vz'.rd,h,q H2 (s.trans s2)⟩)
   ·cases h
  ·rename_i h1;cases h;exact two ha hb ea eb se λvx vy H' s vx' vy'=>⟨x,y,NZ,vx'.rd,vy'.rd,h1,NZ,rfl,uK (q H' s)⟩
  ·cases h
 ·cases h
theorem ye{fa fb fc:Ro->Option KD}(O:aC X Γ c)(hm:Oj op' e=NZ)(ha:SndE X fa a)(hb:SndE X fb b)(he:SndE X fc e):SndT X (λρ=>fj op op' (fa ρ) (fb ρ) (fc ρ)) (.Compare a [op,op'] [b,e] pos):=by
 intro ρ r hc g σ H Q se q;exact nN (uw (jX O.tab.units op) (jX O.tab.units op') aB aB aB hm) (pE ha hb he hc se (Q:=λx H'=>∃k,x=.bl k/\Q k H') λH' s=>⟨r,rfl,q H' s⟩)
noncomputable def u8(a:Option KD):Option KD:=match a with|some (_,.int i)=>NW (.sh,.int (-i))|_=>NX
theorem EU{fa:Ro->Option KD}(ha:SndE X fa a):SndE X (λρ=>u8 (fa ρ)) (.UnaryOp .USub a pos):=by
 intro ρ kd d h g σ H Q se q;dsimp only[u8] at h;split at h
 ·rename_i ka i ea;cases h;exact aE (Ei Bo aB) (ha ρ _ _ ea g σ H _ se λv H' s r=>⟨i,r.rd.int,q _ H' s mE⟩)
 ·cases h
noncomputable def mM(a:Option KD):Option Bool:=match a with|some (_,d)=>u5 d|none=>NX
theorem EV{fa:Ro->Option Bool}(ha:SndT X fa a):SndT X (λρ=>(fa ρ).map (!·)) (.UnaryOp .Not a pos):=by
 intro ρ r h g σ H Q se q
 cases e:fa ρ with
 |none=>simp only[e] at h;cases h
 |some b=>
  simp only[e] at h;cases h;exact nN (A2 gX) (ha ρ b e g σ H _ se λH' s=>q H' s)
theorem u9{fa:Ro->Option KD}{a:N0}(ha:SndE X fa a)(hp:∀whole,isTrue a X.env whole=(do let v <- whole;standAt a.pos;holding [v] (truthy v))):SndT X (λρ=>mM (fa ρ)) a:=by
 intro ρ r h g σ H Q se q;dsimp only[mM] at h;split at h
 ·rename_i k d e;exact nN (uA aB hp) (ha ρ _ _ e g σ H _ se λv H' s vr=>⟨r,BI vr.rd h,q H' s⟩)
 ·cases h
noncomputable def EW(t:Option Bool)(a b:Option KD):Option KD:=match t with|some NY=>a|some NZ=>b|none=>NX
theorem Ik{ft:Ro->Option Bool}{fa fb:Ro->Option KD}(ht:SndT X ft t)(ha:SndE X fa a)(hb:SndE X fb b):SndE X (λρ=>EW (ft ρ) (fa ρ) (fb ρ)) (.IfExp t a b pos):=by
 intro ρ k d h g σ H Q se q;dsimp only[EW] at h;split at h
 ·rename_i e;exact aE (nA gX aB aB) (ht ρ _ e g σ H _ se λH1 s1=>uL (ha ρ k d h g σ H1 Q (se.same s1) λv H2 s2 r=>q v H2 (s1.trans s2) (r.older s1)))
 ·rename_i e;exact aE (nA gX aB aB) (ht ρ _ e g σ H _ se λH1 s1=>uK (hb ρ k d h g σ H1 Q (se.same s1) λv H2 s2 r=>q v H2 (s1.trans s2) (r.older s1)))
 ·cases h
noncomputable def ar:N0->Bool
 |.Starred ..=>NZ
 |_=>NY
theorem ao(h:ar e=NY):Ob (e::es) env=(NZ,eval e env)::Ob es env:=by
 cases e<;>first|rfl|cases h
theorem bJ{es:List N0}(h:es.all ar=NY):(backTo pos (Ob es env)).any (·.1)=NZ:=by
  have key:∀es:List N0,es.all ar=NY->∀p∈Ob es env,p.1=NZ:=by
    intro es
    induction es with
    |nil=>intro _ p hp;cases hp
    |cons e es ih=>
      intro h p hp;simp only[L3,Lj] at h;rw[ao h.1] at hp;rcases Lq.mp hp with rfl|hp
      · rfl
      · exact ih h.2 p hp
  have k2:=key es h
  cases e:Ob es env with
  |nil=>rfl
  |cons p r=>
    rw[e] at k2
    have h0:∀q∈backTo pos (p::r),q.1=NZ:=by
      intro q hq;unfold backTo at hq
      first
        |exact k2 q hq
        | (simp only[LX,Lq] at hq
           first
             |(obtain⟨z,hz,rfl⟩:=hq;exact k2 z (by simpa using hz))
             | (rcases hq with rfl|hq
                · exact k2 p (by simp)
                · first
                    |exact k2 q (by simp[hq])
                    |(obtain⟨z,hz,rfl⟩:=hq;exact k2 z (by simp[hz]))))
    rw[NG];intro q hq;rw[h0 q hq];decide
noncomputable def fW(a:Option KD)(r:Option (List KD)):Option (List KD):=match a,r with|some x,NW xs=>NW (x::xs)|_,_=>NX
theorem yf:jS X (λ_=>NW []) []:=by
 intro ρ kds h g σ H Q se q;cases h;exact jR cq (q [] H (Same.refl H) .nil)
theorem yg{fa:Ro->Option KD}{fr:Ro->Option (List KD)}(hn:ar e=NY)(ha:SndE X fa e)(hr:jS X fr es):jS X (λρ=>fW (fa ρ) (fr ρ)) (e::es):=by
 intro ρ kds h g σ H Q se q;dsimp only[fW] at h;split at h
 ·rename_i x xs e1 e2;cases h;obtain⟨k,d⟩:=x;refine jR (bd aB dE (ao hn)) (ha ρ k d e1 g σ H _ se λv H1 s1 r1=>?_);obtain⟨F1,a1,a2⟩:=r1;exact hr ρ xs e2 (g.plus F1) σ H1 _ (se.plus s1 a1 a2.dom) λvs H2 s2 r2=>q (v::vs) H2 (s1.trans s2) (.cons s1 s2 a1 a2 r2)
 ·cases h
theorem VRs.two(h:VRs K g H0 H [(k,d),(k',d')] vs):∃v v',vs=[v,v']/\VR K g H0 H k d v/\VR K g H0 H k' d' v':=by
 obtain⟨F,h1,y,ys,F1,F2,rfl,hF,dj,h3,z,zs,F3,F4,rfl,hF2,dj2,h5,rfl,h7⟩:=h;have e:∀b,F b↔F1 b\/F3 b:=λb=>(hF b).trans ⟨λz=>z.imp id λz=>((hF2 b).mp z).elim id λz=>absurd z (h7 b),λz=>z.imp id λz=>(hF2 b).mpr (.inl z)⟩;refine⟨y,z,rfl,⟨F1,λb z=>h1 b ((e b).mpr (.inl z)),h3.go (λ_ _ h=>h) λb _ _ z=>(e b).mpr (.inl z)⟩,⟨F3,λb z=>h1 b ((e b).mpr (.inr z)),h5.go (λ_ _ h=>h) λb _ _ z=>(e b).mpr (.inr z)⟩⟩
end
end J
namespace J
open PySem PySem.Spec L2
mutual
noncomputable def Ow.le:Ow->Ow->Bool
 |.fz,_=>NY
 |.own es r,.own es' r'=>Ow.les es es'&&Ow.le r r'
 |.own _ _,.fz=>NZ
noncomputable def Ow.les:List Ow->List Ow->Bool
 |[],[]=>NY
 |a::as,b::bs=>Ow.le a b&&Ow.les as bs
 |_,_=>NZ
end
theorem Ow.les_hd:∀{es es':List Ow} {r r':Ow},Ow.les es es'=NY->Ow.le r r'=NY->(es.headD r).le (es'.headD r')=NY/\Ow.les es.tail es'.tail=NY
 |[],[],_,_,_,h=>⟨h,rfl⟩
 |a::as,b::bs,_,_,h,_=>by rw[Ow.les,Lj] at h;exact h
 |[],_::_,_,_,h,_=>by simp[Ow.les] at h
 |_::_,[],_,_,h,_=>by simp[Ow.les] at h
section
variable {K:Lh} {H:Hp} {S:Pr}
mutual
theorem Tr.ofIm:∀{d:D} {k:Ow} {v:V},jQ d=NY->Rp K H S d v->Tr K H S d k v (λ_=>False)
 |.non,_,_,_,h=>by unfold Tr;exact⟨λ_ z=>z,h⟩
 |.bl _,_,_,_,h=>by unfold Tr;exact⟨λ_ z=>z,h⟩
 |.int _,_,_,_,h=>by unfold Tr;exact⟨λ_ z=>z,h⟩
 |.str _,_,_,_,h=>by unfold Tr;exact⟨λ_ z=>z,h⟩
 |.scr _,_,_,i,_=>by simp[jQ] at i
 |.nd hd ds,.fz,_,_,h=>by unfold Tr;exact⟨λ_ z=>z,h⟩
 |.nd hd ds,.own es r,v,i,h=>by
  rw[jQ,Lj] at i;have i1:hd.mu=NZ:=by simpa using i.1
  unfold Rp at h;unfold Tr;obtain⟨a,o,xs,e,n,g,q,t⟩:=h;exact⟨a,o,xs,λ_=>False,e,g,q,λ_ z=>z,λ_=>n,λb=>⟨λz=>z.elim,λz=>z.elim (λz=>by rw[i1] at z;cases z.1) id⟩,TrL.ofIm i.2 t⟩
theorem TrL.ofIm:∀{ds:List D} {es:List Ow} {r:Ow} {vs:List V},qP ds=NY->RpL K H S ds vs->TrL K H S ds es r vs (λ_=>False)
 |[],_,_,_,_,h=>by unfold TrL;exact⟨h.nil_inv,λ_ z=>z⟩
 |d::ds,es,r,vs,i,h=>by
  rw[qP,Lj] at i;obtain⟨y,ys,rfl,h1,h2⟩:=h.cons_inv;unfold TrL;exact⟨y,ys,_,_,rfl,λb=>⟨λz=>z.elim,λz=>z.elim id id⟩,λ_ z=>z.elim,Tr.ofIm i.1 h1,TrL.ofIm i.2 h2⟩
end
theorem Tr.leaf{S':Pr}(hd:∀h ds,d≠.nd h ds)(h:Tr K H S d c v F)(hS:∀b,S' b->H b=NX\/S b):Tr K H S' d k v (λ_=>False):=by
 cases d with
 |nd hh ds=>exact absurd rfl (hd hh ds)
 |_=>
  unfold Tr at h⊢;exact⟨λ_ z=>z,h.2.go λb o n e=>⟨e,λz=>(hS b z).elim (λq=>by rw[e] at q;cases q) n⟩⟩
mutual
theorem Tr.part:∀{d:D} {k c:Ow} {v:V} {F:Pr},k.le c=NY->Tr K H S d c v F->∃F2:Pr,(∀b,F2 b->F b)/\∀S':Pr,(∀b,S' b->H b=NX\/(S b/\(F b->F2 b)))->Tr K H S' d k v F2
 |.non,_,_,_,_,_,t=>⟨_,λ_ z=>z.elim,λS' hS=>t.leaf (λ_ _ e=>nomatch e) λb z=>(hS b z).imp id And.left⟩
 |.bl _,_,_,_,_,_,t=>⟨_,λ_ z=>z.elim,λS' hS=>t.leaf (λ_ _ e=>nomatch e) λb z=>(hS b z).imp id And.left⟩
 |.int _,_,_,_,_,_,t=>⟨_,λ_ z=>z.elim,λS' hS=>t.leaf (λ_ _ e=>nomatch e) λb z=>(hS b z).imp id And.left⟩
 |.str _,_,_,_,_,_,t=>⟨_,λ_ z=>z.elim,λS' hS=>t.leaf (λ_ _ e=>nomatch e) λb z=>(hS b z).imp id And.left⟩
 |.scr _,_,_,_,_,_,t=>⟨_,λ_ z=>z.elim,λS' hS=>t.leaf (λ_ _ e=>nomatch e) λb z=>(hS b z).imp id And.left⟩
 |.nd hd ds,.fz,c,v,F,_,t=>by
  refine⟨λ_=>False,λ_ z=>z.elim,λS' hS=>.fz ?_⟩;have r:Rp K H (λb=>S' b/\H b≠NX) (.nd hd ds) v:=t.rp λb z=>(hS b z.1).elim (λq=>absurd q z.2) λq=>⟨q.1,q.2⟩;exact r.go λb o n e=>⟨e,λz=>n ⟨z,by rw[e];exact λh=>by cases h⟩⟩
 |.nd hd ds,.own es r,.fz,_,_,l,_=>by simp[Ow.le] at l
 |.nd hd ds,.own es r,.own es' r',v,F,l,t=>by
  rw[Ow.le,Lj] at l;unfold Tr at t;obtain⟨a,o,xs,F',e,g,q,n1,n2,hF,tl⟩:=t;obtain⟨G,g1,g2⟩:=TrL.part l.1 l.2 tl;refine⟨λb=>(hd.mu=NY/\b=a)\/G b,λb z=>(hF b).mpr (z.imp id (g1 b)),λS' hS=>?_⟩;unfold Tr;refine⟨a,o,xs,G,e,g,q,λhm z=>n1 hm (g1 a z),λhm z=>(hS a z).elim (λq=>by rw[g] at q;cases q) λq=>n2 hm q.1,λb=>Iff.rfl,g2 S' λb z=>(hS b z).imp id λq=>⟨q.1,λf=>?_⟩⟩;exact(q.2 ((hF b).mpr (.inr f))).elim (λw=>absurd f (by rw[w.2];exact n1 w.1)) id
theorem TrL.part:∀{ds:List D} {es es':List Ow} {r r':Ow} {vs:List V} {F:Pr},Ow.les es es'=NY->r.le r'=NY->TrL K H S ds es' r' vs F->∃F2:Pr,(∀b,F2 b->F b)/\∀S':Pr,(∀b,S' b->H b=NX\/(S b/\(F b->F2 b)))->TrL K H S' ds es r vs F2
 |[],_,_,_,_,_,_,_,_,t=>⟨λ_=>False,λ_ z=>z.elim,λS' _=>by unfold TrL at t⊢;exact⟨t.1,λ_ z=>z⟩⟩
 |d::ds,es,es',r,r',vs,F,l1,l2,t=>by
  unfold TrL at t;obtain⟨y,ys,F1,F2,e,hF,dj,t1,t2⟩:=t;have lh:=Ow.les_hd (r:=r) (r':=r') l1 l2;obtain⟨G1,a1,a2⟩:=Tr.part lh.1 t1;obtain⟨G2,b1,b2⟩:=TrL.part lh.2 l2 t2;refine⟨λb=>G1 b\/G2 b,λb z=>(hF b).mpr (z.imp (a1 b) (b1 b)),λS' hS=>?_⟩;unfold TrL;refine⟨y,ys,G1,G2,e,λb=>Iff.rfl,λb z1 z2=>dj b (a1 b z1) (b1 b z2),a2 S' λb z=>(hS b z).imp id λq=>⟨q.1,λf=>?_⟩,b2 S' λb z=>(hS b z).imp id λq=>⟨q.1,λf=>?_⟩⟩
  ·exact(q.2 ((hF b).mpr (.inl f))).elim id λw=>absurd (b1 b w) (dj b f)
  ·exact(q.2 ((hF b).mpr (.inr f))).elim (λw=>absurd f (dj b (a1 b w))) id
end
end
noncomputable def cy(k:Ow)(p:KD):Bool:=match k with
 |.fz=>mC p.1 p.2
 |k=>(match p.1 with|.fr c=>k.le c|_=>NZ)||jQ p.2
noncomputable def pF:List Ow->Ow->List KD->Bool
 |_,_,[]=>NY
 |es,r,p::ps=>cy (es.headD r) p&&pF es.tail r ps
section
variable {K:Lh} {H H' H0:Hp} {g:Gh} {Ft F:Pr}
theorem VR1.fit{p:KD}(h:cy k p=NY)(m:MuOk H (Sx g Ft))(hd:∀b,F b->g b=NX)(hs:∀b,F b->Ft b)(r:VR1 K H g Ft p.1 p.2 v F):∃F2:Pr,(∀b,F2 b->F b)/\∀S':Pr,(∀b,S' b->H b=NX\/g b≠NX\/F2 b\/(Ft b/\¬F b))->Tr K H S' p.2 k v F2:=by
 obtain⟨kd,d⟩:=p
 cases k with
 |fz=>
  refine⟨λ_=>False,λb z=>z.elim,λS' hS=>.fz ?_⟩
  have r1:Rp K H (λb=>S' b/\H b≠NX) d v:=by
   cases kd with
   |sh=>
    refine r.2.weak λb z=>?_;rcases hS b z.1 with q|q|q|q
    ·exact absurd q z.2
    ·exact .inl q
    ·exact q.elim
    ·exact .inr q.1
   |fr c=>
    refine Tr.rp (λb z=>?_) r;rcases hS b z.1 with q|q|q|q
    ·exact absurd q z.2
    ·exact⟨.inl q,λz2=>q (hd b z2)⟩
    ·exact q.elim
    ·exact⟨.inr q.1,q.2⟩
   |bo i c=>
    refine r.rd.im (λb z=>?_) h;rcases hS b z.1 with q|q|q|q
    ·exact absurd q z.2
    ·exact m b (.inl q)
    ·exact q.elim
    ·exact m b (.inr q.1)
  exact r1.go λb o n e=>⟨e,λz=>n ⟨z,by rw[e];exact λh=>by cases h⟩⟩
 |own es r'=>
  rcases Mu _ _▸(show(_||_)=NY from h) with h|h
  ·cases kd with
   |sh=>cases h
   |bo i c=>cases h
   |fr c=>
    obtain⟨F2,a1,a2⟩:=Tr.part h r;refine⟨F2,a1,λS' hS=>a2 S' λb z=>?_⟩;rcases hS b z with q|q|q|q
    ·exact .inl q
    ·exact .inr ⟨.inl q,λf=>absurd (hd b f) q⟩
    ·exact .inr ⟨.inr (hs b (a1 b q)),λ_=>q⟩
    ·exact .inr ⟨.inr q.1,λf=>absurd f q.2⟩
  ·refine⟨λ_=>False,λb z=>z.elim,λS' hS=>.ofIm h ?_⟩
   have r1:Rp K H (λb=>S' b/\H b≠NX) d v:=by
    refine r.rd.im (λb z=>?_) h;rcases hS b z.1 with q|q|q|q
    ·exact absurd q z.2
    ·exact m b (.inl q)
    ·exact q.elim
    ·exact m b (.inr q.1)
   exact r1.go λb o n e=>⟨e,λz=>n ⟨z,by rw[e];exact λh=>by cases h⟩⟩
theorem VRL.fit:∀{kds:List KD} {es:List Ow} {r:Ow} {vs:List V} {F:Pr},pF es r kds=NY->MuOk H (Sx g Ft)->(∀b,F b->g b=NX)->(∀b,F b->Ft b)->VRL K H g Ft kds vs F->
  ∃F2:Pr,(∀b,F2 b->F b)/\∀S':Pr,(∀b,S' b->H b=NX\/g b≠NX\/F2 b\/(Ft b/\¬F b))->TrL K H S' (kds.map (·.2)) es r vs F2
 |[],es,r,vs,F,_,_,_,_,h=>⟨λ_=>False,λb z=>z.elim,λS' hS=>by unfold L4 TrL;exact⟨h.1,λb z=>z⟩⟩
 |p::ps,es,r,vs,F,hf,m,hd,hs,h=>by
  obtain⟨y,ys,F1,F2,rfl,hF,dj,h1,h2⟩:=h;unfold pF at hf;rw[Lj] at hf;obtain⟨G1,a1,a2⟩:=VR1.fit hf.1 m (λb z=>hd b ((hF b).mpr (.inl z))) (λb z=>hs b ((hF b).mpr (.inl z))) h1;obtain⟨G2,b1,b2⟩:=VRL.fit hf.2 m (λb z=>hd b ((hF b).mpr (.inr z))) (λb z=>hs b ((hF b).mpr (.inr z))) h2;refine⟨λb=>G1 b\/G2 b,λb z=>(hF b).mpr (z.imp (a1 b) (b1 b)),λS' hS=>?_⟩;show TrL K H S' (p.2::ps.map (·.2)) es r (y::ys) _;unfold TrL;refine⟨y,ys,G1,G2,rfl,λb=>Iff.rfl,λb z1 z2=>dj b (a1 b z1) (b1 b z2),a2 S' λb z=>?_,b2 S' λb z=>?_⟩
  ·rcases hS b z with q|q|(q|q)|q
   ·exact .inl q
   ·exact .inr (.inl q)
   ·exact .inr (.inr (.inl q))
   ·exact .inr (.inr (.inr ⟨hs b ((hF b).mpr (.inr (b1 b q))),λz=>dj b z (b1 b q)⟩))
   ·exact .inr (.inr (.inr ⟨q.1,λz=>q.2 ((hF b).mpr (.inl z))⟩))
  ·rcases hS b z with q|q|(q|q)|q
   ·exact .inl q
   ·exact .inr (.inl q)
   ·exact .inr (.inr (.inr ⟨hs b ((hF b).mpr (.inl (a1 b q))),λz=>dj b (a1 b q) z⟩))
   ·exact .inr (.inr (.inl q))
   ·exact .inr (.inr (.inr ⟨q.1,λz=>q.2 ((hF b).mpr (.inr z))⟩))
theorem VRs.node{kds:List KD}{hd:Hd}(hf:pF es r kds=NY)(m:MuOk H0 (Sg g))(s:Same H0 H)(h:VRs K g H0 H kds vs)(hp:H p=NX)(ho:eV K o hd vs)(hm:hd.mu=NY) :
  VR K g H0 (upd H p o) (.fr (.own es r)) (.nd hd (kds.map (·.2))) (.ref p):=by
 obtain⟨F,h1,h2⟩:=h
 have hgF:∀b,F b->g b=NX:=λb z=>by
  cases e:g b with
  |none=>rfl
  |some i=>
   obtain⟨o,q,_⟩:=m b (by rw[Sg,e];exact λh=>by cases h);rw[h1 b z] at q;cases q
 have mm:MuOk H (Sx g F):=λb z=>z.elim (λz=>m.same s b z) (λz=>h2.dom b z);obtain⟨F2,a1,a2⟩:=h2.fit hf mm hgF λb z=>z
 have np:¬F2 p:=λz=>by
  obtain⟨o,q,_⟩:=h2.dom p (a1 p z);rw[hp] at q;cases q
 refine⟨λb=>b=p\/F2 b,λb z=>z.elim (λz=>z▸s.free hp) λz=>h1 b (a1 b z),?_⟩;show Tr _ _ _ _ _ _ _;unfold Tr;refine⟨p,o,vs,F2,rfl,aG,ho,λ_=>np,λh=>by (rw[hm] at h;cases h),λb=>⟨λz=>z.imp (λz=>⟨hm,z⟩) id,λz=>z.imp (λz=>z.2) id⟩,?_⟩;refine(a2 (λb=>g b≠NX\/F2 b) λb z=>.inr (z.imp id λz=>.inl z)).go (λb o' _ e=>aq hp b o' e) λb o' e n z=>?_;rcases z with z|z|z
 ·exact n (.inl z)
 ·subst z;rw[hp] at e;cases e
 ·exact n (.inr z)
theorem VRs.tupO{kds:List KD}(hf:pF es r kds=NY)(m:MuOk H0 (Sg g))(s:Same H0 H)(h:VRs K g H0 H kds vs)(hp:H p=NX) :
  VR K g H0 (upd H p (.tup vs)) (.fr (.own es r)) (.tup (kds.map (·.2))) (.ref p):=by
 obtain⟨F,h1,h2⟩:=h
 have hgF:∀b,F b->g b=NX:=λb z=>by
  cases e:g b with
  |none=>rfl
  |some i=>
   obtain⟨o,q,_⟩:=m b (by rw[Sg,e];exact λh=>by cases h);rw[h1 b z] at q;cases q
 have mm:MuOk H (Sx g F):=λb z=>z.elim (λz=>m.same s b z) (λz=>h2.dom b z);obtain⟨F2,a1,a2⟩:=h2.fit hf mm hgF λb z=>z
 have np:¬F2 p:=λz=>by
  obtain⟨o,q,_⟩:=h2.dom p (a1 p z);rw[hp] at q;cases q
 refine⟨F2,λb z=>h1 b (a1 b z),?_⟩;show Tr _ _ _ _ _ _ _;unfold Tr
 refine⟨p,_,vs,F2,rfl,aG,rfl,(λh=>nomatch h),λ_ z=>?_,λb=>⟨λz=>.inr z,λz=>z.elim (λz=>nomatch z.1) id⟩,?_⟩
 ·rcases z with z|z
  ·obtain⟨o,q,_⟩:=m.same s p z;rw[hp] at q;cases q
  ·exact np z
 ·exact(a2 (λb=>g b≠NX\/F2 b) λb z=>.inr (z.imp id λz=>.inl z)).go (λb o' _ e=>aq hp b o' e) λb o' e n z=>n z
end
noncomputable def g6(k:Ow)(a:Option (List KD)):Option KD:=match a with
 |some kds=>(match k with|.own es r=>if pF es r kds=NY/\kds.length<=100000 then NW (.fr (.own es r),.lst (kds.map (·.2))) else NX|.fz=>NX)
 |none=>NX
noncomputable def g7(k:Ow)(a:Option (List KD)):Option KD:=match a with
 |some kds=>(match k with
  |.own es r=>if pF es r kds=NY/\kds.length<=100000 then NW (.fr (.own es r),.tup (kds.map (·.2))) else NX
  |.fz=>if(kds.all λp=>mC p.1 p.2)=NY/\kds.length<=100000 then NW (.sh,.tup (kds.map (·.2))) else NX)
 |none=>NX
section
variable {X:Cx} {Γ:fV} {c:Cz}
theorem VRs.len{kds:List KD}{vs:List V}(h:VRs K g H0 H kds vs):vs.length=kds.length:=by
 have:=h.rd.len;rw[Li] at this;exact this
theorem EX{f:Ro->Option (List KD)}(hf:jS X f es):SndE X (λρ=>g6 k (f ρ)) (.List es pos):=by
 intro ρ kd d h g σ H Q se q;dsimp only[g6] at h;split at h
 ·rename_i kds e;split at h
  ·split at h
   ·rename_i hz;cases h;refine aE (uC dE) (hf ρ kds e g σ H _ se λvs H1 s1 r1=>⟨by rw[r1.len];exact bj hz.2,λp hp=>?_⟩);exact q _ _ (s1.trans (aq hp)) (r1.node hz.1 se.mu s1 hp rfl rfl)
   ·cases h
  ·cases h
 ·cases h
theorem EY{f:Ro->Option (List KD)}{n:Nat}(hf:jS X f es):SndE X (λρ=>g7 k (f ρ)) (.Tuple es n pos):=by
 intro ρ kd d h g σ H Q se q;dsimp only[g7] at h;split at h
 ·rename_i kds e;split at h
  ·split at h
   ·rename_i hz;cases h;refine aE (mf dE) (hf ρ kds e g σ H _ se λvs H1 s1 r1=>⟨by rw[r1.len];exact bj hz.2,λp hp=>?_⟩);exact q _ _ (s1.trans (aq hp)) (r1.tupO hz.1 se.mu s1 hp)
   ·cases h
  ·split at h
   ·rename_i hz;cases h;refine aE (mf dE) (hf ρ kds e g σ H _ se λvs H1 s1 r1=>⟨by rw[r1.len];exact bj hz.2,λp hp=>?_⟩);exact q _ _ (s1.trans (aq hp)) ((BH (se.mu.same s1) hp (r1.sh hz.1 se.mu s1)).older s1)
   ·cases h
 ·cases h
noncomputable def cR:N0->Bool
 |.Slice ..=>NZ
 |_=>NY
theorem ck(h:cR b=NY):qH b:=by
 intro o i
 cases b<;>first|rfl|cases h
noncomputable def BL(z:Str)(i:Int):Option Str:=(L2.oV z.cps.toList i).map λc=>⟨#[c]⟩
noncomputable def G7(k:Kd)(xs:List D)(i:Int):Option KD:=match i4 xs.length i with|some j=>(xs[j]?).map λd=>(pC k j,d)|none=>NX
noncomputable def Il(k:Kd)(x:D)(i:Int):Option KD:=match x with
 |.nd hd xs=>(match hd with|.lst=>G7 k xs i|.tup=>G7 k xs i|_=>NX)
 |.scr ns=>(L2.oV ns i).map λd=>(.sh,.int d)
 |.str z=>if z.length<=100000 then(BL z i).map λd=>(.sh,.str d) else NX
 |_=>NX
noncomputable def BM(x:D):Option (Nat×List DK×List D):=match x with
 |.nd hd xs=>(match hd with|.dic t ks=>NW (t,ks,xs)|_=>NX)
 |_=>NX
noncomputable def va(k:Kd)(p:Nat×List DK×List D)(y:D):Option KD:=match gp y with
 |some q=>if jW p.1 q=NY then(match a9 p.2.1 q with|some j=>(p.2.2[j]?).map λd=>(pC k j,d)|none=>NX) else NX
 |none=>NX
noncomputable def BN(x y:KD):Option KD:=match BM x.2 with
 |some p=>va x.1 p y.2
 |none=>(match y.2 with|.int i=>Il x.1 x.2 i|_=>NX)
noncomputable def qS(a b:Option KD):Option KD:=match a with
 |some x=>(match b with|some y=>BN x y|none=>NX)
 |none=>NX
noncomputable def KL(f:Str)(a:Option KD):Option KD:=match a with
 |some (ka,.nd (.obj _ ns) xs)=>(match bt f ns with|some j=>(xs[j]?).map λd=>(pC ka j,d)|none=>NX)
 |_=>NX
theorem yh{α β:Type}(f:α->β)(xs:List α)(i:Int):L2.oV (xs.map f) i=(L2.oV xs i).map f:=by
 unfold L2.oV;rw[Li]
 cases i4 xs.length i with
 |none=>rfl
 |some j=>simp
theorem vb{α β:Type}{o:Option α}{g:α->β}{b:β}(h:o.map g=NW b):∃a,o=NW a/\b=g a:=by
 cases o with
 |none=>cases h
 |some a=>cases h;exact⟨a,rfl,rfl⟩
theorem vc{xs:List D}{i:Int}{r:KD}(h:G7 k xs i=NW r):∃j,i4 xs.length i=NW j/\xs[j]?=NW r.2/\r.1=pC k j:=by
 unfold G7 at h
 cases e:i4 xs.length i with
 |none=>rw[e] at h;cases h
 |some j=>
  rw[e] at h;obtain⟨d,e1,e2⟩:=vb h;exact⟨j,rfl,by rw[e1,e2],by rw[e2]⟩
theorem yj{p:Nat×List DK×List D}{r:KD}(h:va k p y=NW r):∃q j,gp y=NW q/\jW p.1 q=NY/\a9 p.2.1 q=NW j/\p.2.2[j]?=NW r.2/\r.1=pC k j:=by
 unfold va at h
 cases e:gp y with
 |none=>rw[e] at h;cases h
 |some q=>
  rw[e] at h;by_cases hf:jW p.1 q=NY
  ·dsimp only at h;rw[if_pos hf] at h
   cases e1:a9 p.2.1 q with
   |none=>rw[e1] at h;cases h
   |some j=>
    rw[e1] at h;obtain⟨d,e2,e3⟩:=vb h;exact⟨q,j,rfl,hf,e1,by rw[e2,e3],by rw[e3]⟩
  ·dsimp only at h;rw[if_neg hf] at h;cases h
theorem yk{p:Nat×List DK×List D}(h:BM x=NW p):x=.nd (.dic p.1 p.2.1) p.2.2:=by
 cases x with
 |nd hd xs=>cases hd with
  |dic t ks=>cases h;rfl
  |_=>cases h
 |_=>cases h
theorem qT{x y r:KD}(h:BN x y=NW r):(∃i,y.2=.int i/\Il x.1 x.2 i=NW r)\/∃p,x.2=.nd (.dic p.1 p.2.1) p.2.2/\va x.1 p y.2=NW r:=by
 unfold BN at h
 cases e:BM x.2 with
 |some p=>rw[e] at h;exact .inr ⟨p,yk e,h⟩
 |none=>
  rw[e] at h;obtain⟨ky,dy⟩:=y
  cases dy with
  |int i=>exact .inl ⟨i,rfl,h⟩
  |_=>cases h
theorem qU{i:Int}{Q:VK}(h:Il k dx i=NW (kd,d))(rx:VR K g H0 H2 k dx vx)(q:∀v,VR K g H0 H2 kd d v->Q v H2):Kh K vx (.int i) H2 Q:=by
 cases dx with
 |nd hd xs=>cases hd with
  |lst=>
   obtain⟨j,hj,e,rfl⟩:=vc h;obtain⟨p,o,us,rfl,g1,q1,l1,c1⟩:=rx.ch;cases(show o=_ from q1);obtain⟨v,e1,e2⟩:=c1 j _ e;exact .inl ⟨p,us,i,v,rfl,rfl,.of g1,by unfold L2.oV;rw[l1,hj];exact e1,q v e2⟩
  |tup=>
   obtain⟨j,hj,e,rfl⟩:=vc h;obtain⟨p,o,us,rfl,g1,q1,l1,c1⟩:=rx.ch;cases(show o=_ from q1);obtain⟨v,e1,e2⟩:=c1 j _ e;exact .inr (.inl ⟨p,us,i,v,rfl,rfl,.of g1,by unfold L2.oV;rw[l1,hj];exact e1,q v e2⟩)
  |_=>cases h
 |scr ns=>
  obtain⟨d',e,e'⟩:=vb (show(L2.oV ns i).map _=NW (kd,d) from h);cases e';obtain⟨p,rfl,g1⟩:=rx.rd.scr;exact .inl ⟨p,_,i,.int d',rfl,rfl,g1,by rw[yh,e];rfl,q _ mE⟩
 |str z=>
  by_cases hz:z.length<=100000
  ·have h:(BL z i).map _=NW (kd,d):=(if_pos hz).symm.trans h;unfold BL at h
   cases e:L2.oV z.cps.toList i with
   |none=>rw[e] at h;cases h
   |some d'=>
    rw[e] at h;cases h;obtain rfl:=rx.rd.str;exact .inr (.inr ⟨z,i,d',rfl,rfl,bj hz,e,q _ EI⟩)
  ·cases(if_neg hz).symm.trans h
 |_=>cases h
theorem nT{p:Nat×List DK×List D}{Q:VK}(h:va k p dy=NW (kd,d))(rx:VR K g H0 H2 k (.nd (.dic p.1 p.2.1) p.2.2) vx)(ry:VR K g H0 H2 ky dy vy)(q:∀v,VR K g H0 H2 kd d v->Q v H2):∃b v,vx=.ref b/\DGet H2 b vy (NW v)/\Q v H2:=by
 obtain⟨qq,j,h1,h2,h3,h4,rfl⟩:=yj h;obtain⟨b,o,us,rfl,g1,q1,l1,c1⟩:=rx.ch;obtain⟨v,e1,e2⟩:=c1 j _ h4;have dg:=mH g1 q1 h1 ry.rd h2;rw[h3,L1,e1] at dg;exact⟨b,v,rfl,dg,q v e2⟩
theorem Im(O:aC X Γ c){fa fb:Ro->Option KD}{a b:N0}{pos:Pos}(ha:SndE X fa a)(hb:SndE X fb b)(hp:cR b=NY):SndE X (λρ=>qS (fa ρ) (fb ρ)) (.Subscript a b pos):=by
 intro ρ kd d h g σ H Q se q;dsimp only[qS] at h
 cases ea:fa ρ with
 |none=>rw[ea] at h;cases h
 |some x=>cases eb:fb ρ with
  |none=>rw[ea,eb] at h;cases h
  |some y=>
   rw[ea,eb] at h;obtain⟨kx,dx⟩:=x;obtain⟨ky,dy⟩:=y;rcases qT h with⟨i,e,hh⟩|⟨p,e,hh⟩
   ·cases(show dy=_ from e);refine aE (qI mq aB aB (ck hp)) (two ha hb ea eb se λvx vy H' s rx ry=>?_);obtain rfl:=ry.rd.int;exact qU hh rx λv r=>q v H' s r
   ·cases(show dx=_ from e);exact aE (my (by have:=O.tab.units;lia) aB aB (ck hp)) (two ha hb ea eb se λvx vy H' s rx ry=>nT hh rx ry λv r=>q v H' s r)
noncomputable def k6(xs:List D)(lo hi:Option Int):List D:=(xs.drop (HT.jI xs.length 0 lo)).take (HT.jI xs.length xs.length hi-HT.jI xs.length 0 lo)
theorem RpL.cut(h:RpL K H S ds vs)(lo hi:Option Int):RpL K H S (k6 ds lo hi) (sR vs lo hi):=by
 unfold k6 sR;rw[h.len];exact(h.drop _).take _
noncomputable def wO(X:Cx)(e:Option N0):TO:=λσ H Q=>∃t,PO X e t/\t σ H Q
theorem vd:PO X e (wO X e):=λpins s σ H Q I h=>let ⟨t,p,q⟩:=h;p pins s σ H Q I q
noncomputable def sZ(X:Cx)(f:Ro->Option (Option Int))(e:Option N0):Prop:=∀ρ o,f ρ=NW o->∀g σ H Q,SE X.K g ρ σ H->(∀H',Same H H'->Q o H')->wO X e σ H Q
noncomputable def ym(a:Option KD):Option (Option Int):=match a with|some (_,.int i)=>NW (NW i)|_=>NX
theorem BO:sZ X (λ_=>NW NX) NX:=λρ o h g σ H Q se q=>by cases h;exact⟨_,qF,q H (Same.refl H)⟩
theorem BQ{f:Ro->Option KD}(hf:SndE X f e):sZ X (λρ=>ym (f ρ)) (NW e):=λρ o h g σ H Q se q=>by
 dsimp only[ym] at h;split at h
 ·rename_i k i ea;cases h;exact⟨_,qG aB,hf ρ _ _ ea g σ H _ se λv H' s r=>⟨i,r.rd.int,q H' s⟩⟩
 ·cases h
noncomputable def DN(a:Option KD)(lo hi:Option (Option Int)):Option KD:=match a,lo,hi with
 |some (ka,.nd .lst xs),NW l,NW u=>if gm ka xs=NY then NW (.fr bv,.lst (k6 xs l u)) else NX
 |some (_,.scr ns),NW l,NW u=>NW (.fr bv,.lst (k6 (ns.map .int) l u))
 |_,_,_=>NX
theorem Io{fa:Ro->Option KD}{fl fh:Ro->Option (Option Int)}(ha:SndE X fa a)(hl:sZ X fl lo)(hh:sZ X fh hi):SndE X (λρ=>DN (fa ρ) (fl ρ) (fh ρ)) (.Subscript a (.Slice lo hi NX p2) pos):=by
 intro ρ kd d h g σ H Q se q;dsimp only[DN] at h;split at h
 ·rename_i ka xs l u ea el eu;split at h
  ·rename_i hk;cases h;refine aE (jJ mt aB vd vd) (ha ρ _ _ ea g σ H _ se λx H1 s1 rx=>hl ρ _ el g σ H1 _ (se.same s1) λH2 s2=>hh ρ _ eu g σ H2 _ ((se.same s1).same s2) λH3 s3=>?_);obtain⟨p,o,us,rfl,g1,q1,r⟩:=((rx.same s2).same s3).items hk se.mu ((s1.trans s2).trans s3);cases(show o=_ from q1);exact⟨p,us,rfl,.of g1,λp' hp'=>q _ _ (((s1.trans s2).trans s3).trans (aq hp')) ((k5 hp' (r.cut l u)).older ((s1.trans s2).trans s3))⟩
  ·cases h
 ·rename_i ka ns l u ea el eu;cases h;refine aE (jJ mt aB vd vd) (ha ρ _ _ ea g σ H _ se λx H1 s1 rx=>hl ρ _ el g σ H1 _ (se.same s1) λH2 s2=>hh ρ _ eu g σ H2 _ ((se.same s1).same s2) λH3 s3=>?_);obtain⟨p,rfl,g1⟩:=((rx.same s2).same s3).rd.scr;exact⟨p,_,rfl,g1,λp' hp'=>q _ _ (((s1.trans s2).trans s3).trans (aq hp')) ((k5 hp' ((RpL.ints ns).cut l u)).older ((s1.trans s2).trans s3))⟩
 ·cases h
theorem RpL.pick{ds:List D}{us:List V}(r:RpL K H S ds us):∀is:List Nat,RpL K H S (is.filterMap λi=>ds[i]?) (is.filterMap λi=>us[i]?)
 |[]=>.nil
 |i::is=>by
  have ih:=RpL.pick r is;by_cases h:i<ds.length
  ·obtain⟨u,e1,e2⟩:=r.getD (Lm h);rw[LK,LK,Lm h,e1];exact .cons e2 ih
  ·rw[LK,LK,LY (by lia),LY (by rw[r.len];lia)];exact ih
noncomputable def EZ(x:KD)(l:Option Int)(d:D):Option KD:=match x.2 with
 |.nd hd xs=>(match hd with
  |.lst=>(match d with|.int k=>if gm x.1 xs=NY/\1<=k then NW (.fr bv,.lst (G.cz xs l (NW k))) else NX|_=>NX)
  |_=>NX)
 |_=>NX
noncomputable def tf(a:Option KD)(lo:Option (Option Int))(b:Option KD):Option KD:=match a with
 |some x=>(match lo with|some l=>(match b with|some y=>EZ x l y.2|none=>NX)|none=>NX)
 |none=>NX
theorem E1{fa fs:Ro->Option KD}{fl:Ro->Option (Option Int)}{a st:N0}{lo:Option N0}{p2 pos:Pos}(ha:SndE X fa a)(hl:sZ X fl lo)(hs:SndE X fs st):SndE X (λρ=>tf (fa ρ) (fl ρ) (fs ρ)) (.Subscript a (.Slice lo NX (NW st) p2) pos):=by
 intro ρ kd d h g σ H Q se q;dsimp only at h
 cases ea:fa ρ with
 |none=>rw[ea] at h;cases h
 |some x=>cases el:fl ρ with
  |none=>rw[ea,el] at h;cases h
  |some l=>cases es:fs ρ with
   |none=>rw[ea,el,es] at h;cases h
   |some y=>
    rw[ea,el,es] at h;have h:EZ x l y.2=NW (kd,d):=h;obtain⟨kx,dx⟩:=x;obtain⟨ky,dy⟩:=y
    cases dx with
    |nd hd xs=>cases hd with
     |lst=>cases dy with
      |int k=>
       obtain⟨hk,e⟩:=uZ (show(if gm kx xs=NY/\1<=k then NW (Kd.fr bv,D.lst (G.cz xs l (NW k))) else NX)=NW (kd,d) from h)
       cases e;refine aE (G.BF aB vd aB) (ha ρ _ _ ea g σ H _ se λv H1 s1 rx=>hl ρ _ el g σ H1 _ (se.same s1) λH2 s2=>hs ρ _ _ es g σ H2 _ ((se.same s1).same s2) λw H3 s3 ry=>?_);have s13:=(s1.trans s2).trans s3;obtain⟨p,o,us,rfl,g1,q1,rr⟩:=((rx.same s2).same s3).items hk.1 se.mu s13;cases(show o=_ from q1);obtain rfl:=ry.rd.int
       have rp:RpL X.K H3 (Sg g) (G.cz xs l (NW k)) (G.cz us l (NW k)):=by
        unfold G.cz;rw[rr.len];exact rr.pick _
       exact⟨p,us,k,rfl,rfl,by lia,.of g1,λp' hp'=>q _ _ (s13.trans (aq hp')) ((k5 hp' rp).older s13)⟩
      |_=>cases h
     |_=>cases h
    |_=>cases h
noncomputable def pG(a b:Option KD):Option KD:=match a,b with
 |some (ka,.nd .lst xs),NW (_,.int i)=>if i=-1/\gm ka xs=NY then NW (.fr bv,.lst xs.reverse) else NX
 |_,_=>NX
theorem E2{fa fs:Ro->Option KD}{a st:N0}{p2 pos:Pos}(ha:SndE X fa a)(hs:SndE X fs st):SndE X (λρ=>pG (fa ρ) (fs ρ)) (.Subscript a (.Slice NX NX (NW st) p2) pos):=by
 intro ρ kd d h g σ H Q se q;dsimp only[pG] at h;split at h
 ·rename_i ka xs kb i ea eb;split at h
  ·rename_i hi;obtain⟨rfl,hk⟩:=hi;cases h;refine aE (BA aB aB) (two ha hs ea eb se λx y H' s rx ry=>?_);obtain⟨p,o,us,rfl,g1,q1,r⟩:=rx.items hk se.mu s;cases(show o=_ from q1);obtain rfl:=ry.rd.int;exact⟨p,us,rfl,rfl,.of g1,λp' hp'=>q _ _ (s.trans (aq hp')) ((k5 hp' r.reverse).older s)⟩
  ·cases h
 ·cases h
end
end J
namespace J
open PySem PySem.Spec L2
section
variable {X:Cx} {pins:List (N2×Obj)} {σ:L2.St} {H:Hp} {s:N3} {S:Pr}
end
end J
namespace G
open PySem PySem.Spec PyProof.Rows L2
section
variable {X:Cx}
end
end G
namespace G
open PySem PySem.Spec PyProof.Rows L2
noncomputable def Ri(xs:Array Nat):Prop:=xs.toList.Pairwise (· < ·)
structure Gd(led:Bool)(t:SetTable):Prop where
 ri:Ri t.place
 nod:t.dummies=#[]
 led:t.led=led
noncomputable def ns(es:List (Int×N1)):List Int:=es.map λe=>numOf e.2
noncomputable def addI(ms:List Int)(k:Int):List Int:=if k∈ms then ms else ms++[k]
section
variable {prog:N8} {w:Oa} {A:Od} {E:N1->N3->Prop} {s:N3}
end
section
variable {prog:N8} {w:Oa} {A:Od} {R:Result->N3->Prop} {J:N2} {fp wr:List N2} {GG:Array GenState->Array GenState->Prop} {n:Nat} {P:Nat->N1->Prop} {St:Nat->N3->Prop}
end
section
variable {prog:N8} {w:Oa} {A:Od} {E:N1->N3->Prop} {s:N3}
end
end G
namespace G
open PySem PySem.Spec PyProof.Rows L2
section
variable {prog:N8} {w:Oa} {A:Od} {E:N1->N3->Prop} {s:N3}
end
section
variable {prog:N8} {w:Oa}
end
section
variable {prog:N8} {w:Oa} {A:Od} {E:N1->N3->Prop} {s:N3}
end
end G
namespace G
open PySem PySem.Spec PyProof.Rows L2
section
variable {prog:N8} {w:Oa} {A:Od} {E:N1->N3->Prop} {s:N3}
end
section
variable {X:Cx}
end
end G
namespace G
open PySem PySem.Spec PyProof.Rows L2
section
variable {prog:N8} {w:Oa} {A:Od} {E:N1->N3->Prop} {s:N3} {R:Result->N3->Prop}
end
section
variable {X:Cx}
end
end G
namespace G
open PySem PySem.Spec PyProof.Rows L2
section
variable {X:Cx}
end
end G
namespace J
open PySem PySem.Spec L2
section
variable {X:Cx}
theorem nU:i3 X (.builtin "isinstance") (λxs H Q=>∃x T t b,xs=[x,.ty T]/\gP X.K H x t/\Mb X.K t (.type T)=NW b/\Q (.bl b) H):=by
 intro pins s σ H xs us Q I r h;obtain⟨x,T,t,b,rfl,ty,e,q⟩:=h;obtain⟨u,w',rfl,r1,r2⟩:=Ag r;cases r2;exact sO I r1 ty e λtk=>⟨.bl b,H,I.tok _,rfl,q⟩
end
noncomputable def yn:D->Option Nat
 |.nd .lst ds=>NW ds.length
 |.nd .tup ds=>NW ds.length
 |.scr ns=>NW ns.length
 |_=>NX
noncomputable def qV:List D->Option (List Bool)
 |[]=>NW []
 |.bl b::r=>(qV r).map (b::·)
 |_=>NX
noncomputable def ve:List D->Option (List Int)
 |[]=>NW []
 |.int b::r=>(ve r).map (b::·)
 |_=>NX
noncomputable def vf(kds:List KD):Option KD:=match kds with|[(_,d)]=>(yn d).map λn=>(.sh,.int n)|_=>NX
noncomputable def KM(kds:List KD):Option KD:=match kds with|[(_,.nd .lst ds)]=>(qV ds).map λbs=>(.sh,.bl (bs.all id))|_=>NX
noncomputable def vg(kds:List KD):Option KD:=match kds with
 |[(k,.nd .lst ds)]=>if gm k ds=NY then NW (.fr bv,.lst ds) else NX
 |[(k,.nd .tup ds)]=>if gm k ds=NY then NW (.fr bv,.lst ds) else NX
 |[(_,.scr ns)]=>NW (.fr bv,.lst (ns.map D.int))
 |_=>NX
noncomputable def BR:Kd->Kd
 |.fr (.own es (.own es' r))=>.fr (.own es (.own es' r))
 |_=>.sh
noncomputable def pH(kds:List KD):Option KD:=match kds with
 |[(k,.nd .lst ds)]=>if gm k ds=NY then NW (BR k,.tup ds) else NX
 |_=>NX
noncomputable def KN(kds:List KD):Option KD:=match kds with|[(_,.int i)]=>if i.natAbs.log2<1920 then NW (.sh,.str (toString i)) else NX|_=>NX
noncomputable def BS(kds:List KD):Option KD:=match kds with
 |[(_,.int i),(_,.int j)]=>NW (.sh,.int (if j<i then j else i))
 |_=>NX
noncomputable def Ip(n:Int)(ns:List Int):Int:=ns.foldl (λa b=>if a<b then b else a) n
noncomputable def KO(kds:List KD):Option KD:=match kds with
 |[(_,.int i),(_,.int j)]=>NW (.sh,.int (if j > i then j else i))
 |[(_,.nd .lst ds)]=>(match J.ve ds with|some (n::ns)=>NW (.sh,.int (Ip n ns))|_=>NX)
 |_=>NX
noncomputable def lE(a:Option KD):Option KD:=match a with
 |some (_,.int j)=>if 0<=j/\j<=100000 then NW (.fr bv,.lst (((Ln j.toNat).map λ(i:Nat)=>(i:Int)).map D.int)) else NX
 |_=>NX
noncomputable def BT(kds:List KD):Option KD:=match kds with|[(_,.int i)]=>NW (.sh,.int (if i<0 then -i else i))|_=>NX
noncomputable def aF(ps:List (Int×D)):D:=.nd (.dic 0 (ps.map λp=>Sum.inl (Sum.inl p.1))) (ps.map (·.2))
noncomputable def eW(x:Str):List KD->Option KD:=
 if x="len" then vf else if x="all" then(λ_=>NX) else if x="any" then(λ_=>NX) else if x="list" then vg else if x="tuple" then pH else if x="str" then(λ_=>NX) else if x="sum" then(λ_=>NX)
 else if x="min" then BS else if x="max" then(λ_=>NX) else if x="abs" then BT else if x="int" then(λ_=>NX) else if x="dict" then(λ_=>NX) else if x="repr" then(λ_=>NX) else λ_=>NX
noncomputable def pI(x:Str)(a:Option (List KD)):Option KD:=match a with|some kds=>eW x kds|none=>NX
noncomputable def Kn(X:Cx)(kds:List KD)(kd:Kd)(d:D)(Q:VK)(vs:List V)(H1:Hp):Prop:=∃g H0,MuOk H0 (Sg g)/\Same H0 H1/\VRs X.K g H0 H1 kds vs/\∀v H',Same H1 H'->VR X.K g H0 H' kd d v->Q v H'
noncomputable def StrictOk(X:Cx)(f:List KD->Option KD)(es:List N0)(node:N0):Prop:=∀kds kd d,f kds=NW (kd,d)->∀σ H Q,wA X es σ H (Kn X kds kd d Q)->wE X node σ H Q
theorem bN{H:Hp}{Q Q':List V->Hp->Prop}(h:wA X es σ H Q)(k:∀vs H,Q vs H->Q' vs H):wA X es σ H Q':=λpos pins s I=>bB (h pos pins s I) λus s' ⟨vs,H',I',r,q⟩=>⟨vs,H',I',r,k vs H' q⟩
theorem cU{H:Hp}{Q Q':VK}(h:wE X e σ H Q)(k:∀v H,Q v H->Q' v H):wE X e σ H Q':=λpins s I=>bB (h pins s I) λu s' ⟨v,H',I',r,q⟩=>⟨v,H',I',r,k v H' q⟩
theorem StrictOk.snd{fa:Ro->Option (List KD)}(h:StrictOk X f es node)(ha:jS X fa es):SndE X (λρ=>(fa ρ).bind f) node:=by
 intro ρ kd d hd g σ H Q se q;dsimp only at hd
 cases e:fa ρ with
 |none=>rw[e] at hd;cases hd
 |some kds=>
  rw[e] at hd;exact h kds kd d hd σ H Q (ha ρ kds e g σ H _ se λvs H1 s1 r1=>⟨g,H,se.mu,s1,r1,λv H' s r=>q v H' (s1.trans s) r⟩)
noncomputable def fX(X:Cx)(x:Str)(f:List KD->Option KD):Prop:=∀(e:N0) (es:List N0) (p pos:Pos),Gl X x->ar e=NY->es.all ar=NY->StrictOk X f (e::es) (.Call (.Name x p) (e::es) [] pos)
section
variable {X:Cx} {Γ:fV} {c:Cz}
theorem E3(O:aC X Γ c):fX X "len" vf:=by
 intro e es p pos hg n1 n2 kds kd d h σ H Q hA;unfold vf at h;split at h
 ·rename_i ka da
  cases hl:yn da with
  |none=>rw[hl] at h;cases h
  |some n=>
   rw[hl] at h;cases h;refine aE (gQ (mw) hg (O.tab.bl _ (by simp[aS])) PySem.boot_len dE (by decide) (by decide) (ao n1) (bJ n2)) (bN hA λvs H1 ⟨g,H0,m,s1,r1,q⟩=>?_);obtain⟨v,rfl,r⟩:=r1.one;have t:=r.rd
   cases da with
   |scr ns=>
    obtain⟨a,rfl,g1⟩:=t.scr;cases hl;exact⟨a,_,rfl,.inl g1,q _ H1 (Same.refl H1) (by rw[Li];exact mE)⟩
   |nd hd ds=>
    obtain⟨a,o,us,rfl,_,g1,q1,rr⟩:=t.nd
    cases hd with
    |lst=>cases hl;cases(show o=_ from q1);exact⟨a,us,rfl,.inl (.of g1),q _ H1 (Same.refl H1) (by rw[rr.len];exact mE)⟩
    |tup=>cases hl;cases(show o=_ from q1);exact⟨a,us,rfl,.inr (.of g1),q _ H1 (Same.refl H1) (by rw[rr.len];exact mE)⟩
    |dic tt ks=>cases hl
    |obj c ns=>cases hl
   |_=>cases hl
 ·cases h
theorem BU(O:aC X Γ c):fX X "list" vg:=by
 intro e es p pos hg n1 n2 kds kd d h σ H Q hA;unfold vg at h;split at h
 ·rename_i ka ds;split at h
  ·rename_i hk;cases h;refine aE (fC eI hg (O.tab.bl _ (by simp[aS])) PyProof.Rows.boot_list dE (by decide) (by decide) (ao n1) (bJ n2)) (bN hA λvs H1 ⟨g,H0,m,s1,r1,q⟩=>?_);obtain⟨v,rfl,r⟩:=r1.one;obtain⟨a,o,us,rfl,g1,q1,rr⟩:=r.items hk m s1;cases(show o=_ from q1);exact⟨a,us,rfl,.inl (.of g1),λl hl=>q _ _ (aq hl) ((k5 hl rr).older s1)⟩
  ·cases h
 ·rename_i ka ds;split at h
  ·rename_i hk;cases h;refine aE (fC eI hg (O.tab.bl _ (by simp[aS])) PyProof.Rows.boot_list dE (by decide) (by decide) (ao n1) (bJ n2)) (bN hA λvs H1 ⟨g,H0,m,s1,r1,q⟩=>?_);obtain⟨v,rfl,r⟩:=r1.one;obtain⟨a,o,us,rfl,g1,q1,rr⟩:=r.items hk m s1;cases(show o=_ from q1);exact⟨a,us,rfl,.inr (.of g1),λl hl=>q _ _ (aq hl) ((k5 hl rr).older s1)⟩
  ·cases h
 ·rename_i ka ns;cases h;refine aE (fC eI hg (O.tab.bl _ (by simp[aS])) PyProof.Rows.boot_list dE (by decide) (by decide) (ao n1) (bJ n2)) (bN hA λvs H1 ⟨g,H0,m,s1,r1,q⟩=>?_);obtain⟨v,rfl,r⟩:=r1.one;obtain⟨a,rfl,g1⟩:=r.rd.scr;exact⟨a,_,rfl,.inl g1,λl hl=>q _ _ (aq hl) ((k5 hl (RpL.ints ns)).older s1)⟩
 ·cases h
theorem vh{H0 H1:Hp}(m:MuOk H0 (Sg g))(s1:Same H0 H1)(h:VR K g H0 H1 (.fr (.own es r)) (.nd .lst ds) v) :
  ∃a us,v=.ref a/\H1 a=NW (.lst us)/\∀l,H1 l=NX->VR K g H0 (upd H1 l (.tup us)) (.fr (.own es r)) (.tup ds) (.ref l):=by
 obtain⟨F,h1,h2⟩:=h;have h2:Tr K H1 (Sx g F) (.nd .lst ds) (.own es r) v F:=h2;unfold Tr at h2;obtain⟨a,o,xs,F',rfl,g1,q1,n1,n2,hF,t⟩:=h2;cases(show o=_ from q1);refine⟨a,xs,rfl,g1,λl hl=>⟨F',λb z=>h1 b ((hF b).mpr (.inr z)),?_⟩⟩;show Tr K _ _ (.nd .tup ds) (.own es r) _ _;unfold Tr
 refine⟨l,.tup xs,xs,F',rfl,aG,rfl,(λh=>nomatch h),λ_ z=>?_,λb=>⟨.inr,λz=>z.elim (λz=>nomatch z.1) id⟩,t.go (λb o _ e=>aq hl b o e) λb o _ n z=>n (z.imp id λz=>(hF b).mpr (.inr z))⟩
 rcases z with z|z
 ·obtain⟨o,e,_⟩:=m.same s1 l z;rw[hl] at e;cases e
 ·obtain⟨o,e,_⟩:=t.dom l z;rw[hl] at e;cases e
theorem yo(O:aC X Γ c):fX X "tuple" pH:=by
 intro e es p pos hg n1 n2 kds kd d h σ H Q hA;unfold pH at h;split at h
 ·rename_i ka ds;split at h
  ·rename_i hk;cases h;refine aE (fC kX hg (O.tab.bl _ (by simp[aS])) PyProof.Rows.boot_tuple dE (by decide) (by decide) (ao n1) (bJ n2)) (bN hA λvs H1 ⟨g,H0,m,s1,r1,q⟩=>?_);obtain⟨v,rfl,r⟩:=r1.one;unfold BR at q;split at q
   ·obtain⟨a,us,rfl,g1,z⟩:=vh m s1 r;exact⟨a,us,rfl,.inl ⟨.of g1,λl hl=>q _ _ (aq hl) (z l hl)⟩⟩
   obtain⟨a,o,us,rfl,g1,q1,rr⟩:=r.items hk m s1;cases(show o=_ from q1);exact⟨a,us,rfl,.inl ⟨.of g1,λl hl=>q _ _ (aq hl) ((BH (m.same s1) hl rr).older s1)⟩⟩
  ·cases h
 ·cases h
theorem E4(O:aC X Γ c):fX X "min" BS:=by
 intro e es p pos hg n1 n2 kds kd d h σ H Q hA;unfold BS at h;split at h
 ·rename_i ka i kb j;cases h;refine aE (gQ (sM O.calm) hg (O.tab.bl _ (by simp[aS])) PyProof.Rows.boot_min dE (by decide) (by decide) (ao n1) (bJ n2)) (bN hA λvs H1 ⟨g,H0,m,s1,r1,q⟩=>?_);obtain⟨v,v',rfl,r,r'⟩:=r1.two;obtain rfl:=r.rd.int;obtain rfl:=r'.rd.int;exact⟨i,j,rfl,q _ H1 (Same.refl H1) mE⟩
 ·cases h
theorem mN{e:N0}(h:ar e=NY):((backTo cp (Ob [e] env)).all (λx=>!x.1)&&(backToKw cp (keywordEach [] env)).all (λx=>x.1.isSome)
      && decide ([e].length+([]:List Keyword).length+(if([]:List Keyword).isEmpty then 0 else 1)<30))=NY:=by
  rw[ao h];rfl
noncomputable def dR:N0->Bool
 |.Name x _=>!(x==("super":Str))
 |.Subscript ..=>NY
 |.Attribute ..=>NY
 |_=>NZ
theorem jr{m:Str}(h:dR b=NY):attributeBase b m env w=w:=by
 cases b with
 |Name x p=>
  unfold attributeBase;have h:(x==("super":Str))=NZ:=by simpa[dR] using h
  simp[h]
 |Subscript a b p=>rfl
 |Attribute a b p=>rfl
 |_=>cases h
theorem BV(O:aC X Γ c){fa:Ro->Option KD}{a:N0}{p p2 pos pos2:Pos}(hg:Gl X "list")(hg2:Gl X "range")(hn:ar a=NY)(ha:SndE X fa a):SndE X (λρ=>lE (fa ρ)) (.Call (.Name "list" p) [.Call (.Name "range" p2) [a] [] pos2] [] pos):=by
 intro ρ kd d h g σ H Q se q;dsimp only[lE] at h;split at h
 ·rename_i ka j ea;split at h
  ·rename_i hj;cases h;refine aE (G.xU O.calm hg (O.tab.bl _ (by simp[aS])) hg2 (O.tab.bl _ (by simp[aS])) (bd aB cq (ao hn)) (ao hn)) (ha ρ _ _ ea g σ H _ se λv H1 s1 r1=>?_);obtain rfl:=r1.rd.int;refine⟨j,rfl,hj.1,hj.2,λl hl=>q _ _ (s1.trans (aq hl)) ?_⟩;have rr:=RpL.ints (K:=X.K) (H:=H1) (S:=Sg g) ((Ln j.toNat).map λ(i:Nat)=>(i:Int));rw[show((Ln j.toNat).map λ(i:Nat)=>V.int (i:Int))=((Ln j.toNat).map λ(i:Nat)=>(i:Int)).map V.int by rw[LO];rfl];exact(k5 hl rr).older s1
  ·cases h
 ·cases h
inductive Iq (X:Cx) (ρ:Ro):List (Option Expr)->List Expr->List aV->List KD->Prop
 |nil:Iq X ρ [] [] [] []
 |cons {k v:N0} {kD:D} {x:aV} {kv:Kd} {d:D} {f:Ro->Option KD} {ks:List (Option N0)} {vs:List N0} {xs:List aV} {kds:List KD}:SndE X (λ_=>NW (.sh,kD)) k->eZ kD=NW x->SndE X f v->f ρ=NW (kv,d)->mC kv d=NY->Iq X ρ ks vs xs kds->Iq X ρ (NW k::ks) (v::vs) (x::xs) ((kv,d)::kds)
noncomputable def i8(m:Nat)(k a:Option KD):Option KD:=match k,a with
 |some (_,dk),NW (kv,d)=>(match gp dk with
  |some (.inr xs)=>if Al m xs=NY/\mC kv d=NY then NW (.fr bv,.nd (.dic (m+1) [.inr xs]) [d]) else NX
  |_=>NX)
 |_,_=>NX
theorem BW(O:aC X Γ c){fk fa:Ro->Option KD}{m:Nat}{k a:N0}{pos:Pos}(hk:SndE X fk k)(ha:SndE X fa a):SndE X (λρ=>i8 m (fk ρ) (fa ρ)) (.Dict [NW k] [a] pos):=by
 intro ρ kd d h g σ H Q se q;dsimp only[i8] at h;split at h
 ·rename_i kk dk kv dv ek ea;split at h
  ·rename_i xs hx;obtain⟨hz,e⟩:=uZ h;cases e;refine aE (xS (m:=m) (by have:=O.tab.units;lia) aB aB) λp hp=>?_
   have se1:SE X.K (g.plus λb=>b=p) ρ σ (upd H p (.dT m 0 [])):=se.plus (aq hp) (λb z=>z▸hp) λb z=>⟨.dT m 0 [],by rw[z];exact aG,λxs e=>nomatch e⟩
   refine hk ρ _ _ ek _ σ _ _ se1 λx1 H1 s1 rx=>ha ρ _ _ ea _ σ H1 _ (se1.same s1) λy H2 s2 ry=>?_;rcases jV hx rx.rd with⟨x,e,_⟩|⟨ys,b,e,rfl,gb⟩
   ·cases e
   cases e;have rp:Rp X.K H2 (Sg (g.plus λb=>b=p)) dv y:=ry.sh hz.2 (se1.same s1).mu s2;refine⟨s2 _ _ (s1 _ _ aG),xs,b,rfl,(gb m hz.1).keep λc zs ec=>s2 _ _ ec,λep=>q _ _ (λb o e=>?_) ?_⟩
   ·rw[al (aD e hp)];exact s2 _ _ (s1 _ _ (aq hp b o e))
   ·refine⟨λb=>b=p,λb z=>z▸hp,?_⟩;show Tr X.K _ _ _ _ _ _;unfold Tr
    refine⟨p,_,[y],λ_=>False,rfl,aG,.inr ⟨m,rfl,[(xs,y)],ep,rfl,rfl,rfl⟩,λ_ z=>z,(λh=>nomatch h),λb=>⟨λz=>.inl ⟨rfl,z⟩,λz=>z.elim (λz=>z.2) λz=>z.elim⟩,.ofFz (.cons (rp.go λb o n e=>?_) .nil)⟩
    have nb:¬(Sg g b\/b=p):=λz=>n ((av b).mpr z);exact⟨by rw[al λz=>nb (.inr z)];exact e,nb⟩
  ·cases h
 ·cases h
theorem E5(O:aC X Γ c):fX X "abs" BT:=by
 intro e es p pos hg n1 n2 kds kd d h σ H Q hA;unfold BT at h;split at h
 ·rename_i ka i;cases h;refine aE (gQ uB hg (O.tab.bl _ (by simp[aS])) PyProof.Rows.boot_abs dE (by decide) (by decide) (ao n1) (bJ n2)) (bN hA λvs H1 ⟨g,H0,m,s1,r1,q⟩=>?_);obtain⟨v,rfl,r⟩:=r1.one;obtain rfl:=r.rd.int;exact⟨i,rfl,q _ H1 (Same.refl H1) mE⟩
 ·cases h
theorem eA{x:Str}:fX X x (λ_=>NX):=λe es p pos hg n1 n2 kds kd d h=>by cases h
theorem iH{x y:Str}(h1:x=y->fX X x f)(h2:fX X x g):fX X x (if x=y then f else g):=by
 by_cases h:x=y
 ·rw[if_pos h];exact h1 h
 ·rw[if_neg h];exact h2
theorem nV(O:aC X Γ c)(x:Str):fX X x (eW x):=by
 unfold eW;refine iH (λh=>?_) ?_
 ·first|exact eA|(subst h;exact E3 O)
 refine iH (λh=>?_) ?_
 ·first|exact eA|(subst h;exact b_all O)
 refine iH (λh=>?_) ?_
 ·first|exact eA|(subst h;exact b_any O)
 refine iH (λh=>?_) ?_
 ·first|exact eA|(subst h;exact BU O)
 refine iH (λh=>?_) ?_
 ·first|exact eA|(subst h;exact yo O)
 refine iH (λh=>?_) ?_
 ·first|exact eA|(subst h;exact b_str O)
 refine iH (λh=>?_) ?_
 ·first|exact eA|(subst h;exact b_sum O)
 refine iH (λh=>?_) ?_
 ·first|exact eA|(subst h;exact E4 O)
 refine iH (λh=>?_) ?_
 ·first|exact eA|(subst h;exact b_max O)
 refine iH (λh=>?_) ?_
 ·first|exact eA|(subst h;exact E5 O)
 refine iH (λh=>?_) ?_
 ·first|exact eA|(subst h;exact b_int O)
 refine iH (λh=>?_) ?_
 ·first|exact eA|(subst h;exact b_dict O)
 refine iH (λh=>?_) ?_
 ·first|exact eA|(subst h;exact b_repr O)
 ·intro e es p pos hg n1 n2 kds kd d h;cases h
theorem E6(O:aC X Γ c){x:Str}{e:N0}{es:List N0}{p pos:Pos}{fa:Ro->Option (List KD)}(hf:jS X fa (e::es))(hg:eh c.sc x=NY)(n1:ar e=NY)(n2:es.all ar=NY):SndE X (λρ=>pI x (fa ρ)) (.Call (.Name x p) (e::es) [] pos):=by
 have:=(nV O x e es p pos (cA O hg) n1 n2).snd hf
 rw[show(λρ=>pI x (fa ρ))=λρ=>(fa ρ).bind (eW x) by funext ρ;unfold pI;cases fa ρ<;>rfl]
 exact this
end
end J
namespace J
open PySem PySem.Spec L2
inductive Src where
 |non|l (a:N2) (ds:List D)|t (a:N2) (ds:List D)|two (s u:Src)
noncomputable def Src.P(K:Lh):Src->Gh->Hp->Prop
 |.non,_,_=>True
 |.l a ds,g,H=>∃xs,SqL K H a xs/\RpL K H (Sg g) ds xs
 |.t a ds,g,H=>∃xs,SqT K H a xs/\RpL K H (Sg g) ds xs
 |.two s u,g,H=>s.P K g H/\u.P K g H
noncomputable def Src.isL(b:N2):Src->Prop
 |.non=>False
 |.l a _=>a=b
 |.t _ _=>False
 |.two s u=>s.isL b\/u.isL b
noncomputable def Src.isT(b:N2):Src->Prop
 |.non=>False
 |.l _ _=>False
 |.t a _=>a=b
 |.two s u=>s.isT b\/u.isT b
noncomputable def Src.from(g:Gh)(H:Hp)(bs:List Nat):Src->Prop
 |.non=>True
 |.l a _=>g a=NX\/∃i∈bs,g a=NW (NW i)
 |.t a _=>g a=NX
 |.two s u=>s.from g H bs/\u.from g H bs
theorem Src.from.from_l{g:Gh}{bs:List Nat}{b:N2}:∀{s:Src},s.from g H bs->s.isL b->g b=NX\/∃i∈bs,g b=NW (NW i)
 |.l a _,h,e=>by cases(show a=b from e);exact h
 |.two s u,h,e=>by
  rcases(show s.isL b\/u.isL b from e) with e|e
  ·exact Src.from.from_l (show s.from g H bs/\u.from g H bs from h).1 e
  ·exact Src.from.from_l (show s.from g H bs/\u.from g H bs from h).2 e
 |.non,_,e=>e.elim
 |.t _ _,_,e=>e.elim
theorem Src.from.from_t{g:Gh}{bs:List Nat}{b:N2}:∀{s:Src},s.from g H bs->s.isT b->g b=NX
 |.t a _,h,e=>by cases(show a=b from e);exact h
 |.two s u,h,e=>by
  rcases(show s.isT b\/u.isT b from e) with e|e
  ·exact Src.from.from_t (show s.from g H bs/\u.from g H bs from h).1 e
  ·exact Src.from.from_t (show s.from g H bs/\u.from g H bs from h).2 e
 |.non,_,e=>e.elim
 |.l _ _,_,e=>e.elim
theorem Src.from.from_H{bs:List Nat}:∀{s:Src},s.from g H bs->s.from g H' bs
 |.t a _,h=>h
 |.l a _,h=>h
 |.non,_=>trivial
 |.two s u,h=>⟨Src.from.from_H (show s.from g H bs/\u.from g H bs from h).1,Src.from.from_H (show s.from g H bs/\u.from g H bs from h).2⟩
theorem Src.from.from_mono{bs bs':List Nat}(k:∀i∈bs,i∈bs'):∀{s:Src},s.from g H bs->s.from g H bs'
 |.t a _,h=>h
 |.l a _,h=>Or.imp_right (λ⟨i,h1,h2⟩=>⟨i,k i h1,h2⟩) h
 |.non,_=>trivial
 |.two s u,h=>⟨Src.from.from_mono k (show s.from g H bs/\u.from g H bs from h).1,Src.from.from_mono k (show s.from g H bs/\u.from g H bs from h).2⟩
section
variable {K:Lh} {H H':Hp} {g g':Gh}
theorem vi(k:∀o,H a=NW o->H' a=NW o)(h:SqL K H a xs):SqL K H' a xs:=by
 rcases h with(h|⟨o,h⟩)|h
 ·exact .inl (.inl (k _ h))
 ·exact .inl (.inr ⟨o,k _ h⟩)
 ·exact .inr h
theorem vj(k:∀o,H a=NW o->H' a=NW o)(h:SqT K H a xs):SqT K H' a xs:=by
 rcases h with(h|⟨o,h⟩)|h
 ·exact .inl (.inl (k _ h))
 ·exact .inl (.inr ⟨o,k _ h⟩)
 ·exact .inr h
theorem Src.mono(k2:∀b o,H b=NW o->¬Sg g b->¬Sg g' b):∀{s:Src},(∀b o,(¬Sg g b\/s.isL b)->H b=NW o->H' b=NW o)->(∀a,s.isT a->g a=NX)->s.P K g H->s.P K g' H'
 |.non,_,_,_=>trivial
 |.l a ds,k,ht,h=>by
  obtain⟨xs,h1,h2⟩:=h;exact⟨xs,vi (λo e=>k a o (.inr rfl) e) h1,h2.go λb o n e=>⟨k b o (.inl n) e,k2 b o e n⟩⟩
 |.t a ds,k,ht,h=>by
  obtain⟨xs,h1,h2⟩:=h;exact⟨xs,vj (λo e=>k a o (.inl (by rw[Sg,ht a rfl];simp)) e) h1,h2.go λb o n e=>⟨k b o (.inl n) e,k2 b o e n⟩⟩
 |.two s u,k,ht,h=>⟨Src.mono k2 (λb o z=>k b o (z.imp id .inl)) (λa z=>ht a (.inl z)) (show s.P K g H/\u.P K g H from h).1,Src.mono k2 (λb o z=>k b o (z.imp id .inr)) (λa z=>ht a (.inr z)) (show s.P K g H/\u.P K g H from h).2⟩
end
noncomputable def iI(K:Lh)(J:It)(s:Src)(ds:List D):Prop:=∀(i:Nat) (g:Gh) (H:Hp),s.P K g H->MuOk H (Sg g)->
 (ds.length<=i->J.stop i H)/\∀d,ds[i]?=NW d->J.go i H/\∀x H',J.yld i H x H'->Same H H'/\Rp K H' (Sg g) d x
section
variable {K:Lh}
theorem BX:iI K (DI K a) (.l a ds) ds:=by
 rintro i g H ⟨us,g1,r⟩ m
 refine⟨λhi=>⟨us,g1,by rw[r.len];exact hi⟩,λd hd=>?_⟩;obtain⟨x,e1,e2⟩:=r.getD hd;refine⟨⟨us,x,g1,e1⟩,λy H' hy=>?_⟩;obtain⟨rfl,hy⟩:=hy;have:=hy us g1;rw[e1] at this;cases this;exact⟨Same.refl _,e2⟩
theorem Ir:iI K (HM K a) (.t a ds) ds:=by
 rintro i g H ⟨us,g1,r⟩ m
 refine⟨λhi=>⟨us,g1,by rw[r.len];exact hi⟩,λd hd=>?_⟩;obtain⟨x,e1,e2⟩:=r.getD hd;refine⟨⟨us,x,g1,e1⟩,λy H' hy=>?_⟩;obtain⟨rfl,hy⟩:=hy;have:=hy us g1;rw[e1] at this;cases this;exact⟨Same.refl _,e2⟩
theorem BY{ds:List D}:iI K (G.G6 K a) (.l a ds) (ds.mapIdx λi d=>D.tup [.int i,d]):=by
 rintro i g H ⟨us,g1,r⟩ m
 refine⟨λhi=>⟨us,g1,by rw[r.len];simpa using hi⟩,λd hd=>?_⟩;rw[Me] at hd
 cases q:ds[i]? with
 |none=>rw[q] at hd;cases hd
 |some d'=>
  rw[q] at hd;cases hd;obtain⟨x,e1,e2⟩:=r.getD q;refine⟨⟨us,x,g1,e1⟩,λy H' hy=>?_⟩;obtain⟨p,v,hp,rfl,rfl,hy⟩:=hy;have:=hy us g1;rw[e1] at this;cases this;refine⟨aq hp,?_⟩;unfold Rp;refine⟨p,_,_,rfl,λz=>?_,aG,rfl,.cons (by unfold Rp;rfl) (.cons (e2.same (aq hp)) .nil)⟩;obtain⟨o,q,_⟩:=m p z;rw[hp] at q;cases q
theorem E7{ds:List D}:iI K (G.Ib K a) (.t a ds) (ds.mapIdx λi d=>D.tup [.int i,d]):=by
 rintro i g H ⟨us,g1,r⟩ m
 refine⟨λhi=>⟨us,g1,by rw[r.len];simpa using hi⟩,λd hd=>?_⟩;rw[Me] at hd
 cases q:ds[i]? with
 |none=>rw[q] at hd;cases hd
 |some d'=>
  rw[q] at hd;cases hd;obtain⟨x,e1,e2⟩:=r.getD q;refine⟨⟨us,x,g1,e1⟩,λy H' hy=>?_⟩;obtain⟨p,v,hp,rfl,rfl,hy⟩:=hy;have:=hy us g1;rw[e1] at this;cases this;refine⟨aq hp,?_⟩;unfold Rp;refine⟨p,_,_,rfl,λz=>?_,aG,rfl,.cons (by unfold Rp;rfl) (.cons (e2.same (aq hp)) .nil)⟩;obtain⟨o,q,_⟩:=m p z;rw[hp] at q;cases q
theorem BZ(lo:Int)(n:Nat):iI K (Ee lo n) .non ((Ln n).map λ(k:Nat)=>D.int (lo+(k:Int))):=by
 rintro i g H _ m
 refine⟨λhi=>(by have hi':n<=i:=(by simpa using hi);exact hi'),λd hd=>?_⟩;rw[Ll] at hd
 cases q:(Ln n)[i]? with
 |none=>rw[q] at hd;cases hd
 |some j=>
  rw[q] at hd;cases hd
  have hlt:i<n:=by
   have:=(Lk.mp q).1;simpa using this
  have hj:j=i:=by
   rw[LQ hlt] at q;cases q;rfl
  subst hj;refine⟨hlt,λx H' hy=>?_⟩;obtain⟨rfl,rfl⟩:=hy;exact⟨Same.refl _,by unfold Rp;rfl⟩
end
noncomputable def SndI(X:Cx)(f:Ro->Option (List Nat×List D))(tg iter:N0):Prop:=∀ρ bs ds,f ρ=NW (bs,ds)->∀g σ H R,SE X.K g ρ σ H->
 (∀J s H1,Same H H1->iI X.K J s ds->s.P X.K g H1->s.from g H bs->R J H1)->wI X tg iter σ H R
noncomputable def vk:Kd->List Nat
 |.bo i _=>[i]
 |_=>[]
noncomputable def g8(a:Option KD):Option (List Nat×List D):=match a with
 |some (k,.nd .lst ds)=>if gm k ds=NY then NW (vk k,ds) else NX
 |some (_,.scr ns)=>NW ([],ns.map D.int)
 |_=>NX
noncomputable def pJ(a:Option KD):Option (List Nat×List D):=match a with
 |some (k,.nd .tup ds)=>if gm k ds=NY then NW ([],ds) else NX
 |a=>g8 a
noncomputable def vm(a:Option KD):Option (List Nat×List D):=match a with
 |some (k,.nd .tup ds)=>if gm k ds=NY then NW ([],ds) else NX
 |a=>g8 a
noncomputable def pK(a:Option KD):Option (List Nat×List D):=(vm a).map λp=>(p.1,p.2.mapIdx λi d=>D.tup [.int i,d])
noncomputable def tj(xs ys:List D):List D:=List.zipWith (λx y=>D.tup [x,y]) xs ys
noncomputable def nW(a b:Option KD):Option (List Nat×List D):=match g8 a with
 |some (bs,xs)=>(match g8 b with|some (bs',ys)=>NW (bs++bs',tj xs ys)|none=>NX)
 |none=>NX
noncomputable def eK(i j:Int):Bool:=decide (-(2^62)<=i)&&decide (i<2^62)&&decide (-(2^62)<=j)&&decide (j<2^62)&&decide (j-i<=100000)
noncomputable def cY(i j:Int):List D:=(Ln (j-i).toNat).map λ(k:Nat)=>D.int (i+(k:Int))
noncomputable def g9(a b:Option KD):Option (List Nat×List D):=match a,b with
 |some (_,.int i),NW (_,.int j)=>if eK i j then NW ([],cY i j) else NX
 |_,_=>NX
noncomputable def i9:N0->Bool
 |.Tuple ..=>NY
 |_=>NZ
section
variable {X:Cx} {Γ:fV} {c:Cz}
theorem VR.scrK{g:Gh}{ns:List Int}(h:VR K g H H1 k (.scr ns) v):∃a,v=.ref a/\((g a=NX/\Rd H1 a (.lst (ns.map V.int)))\/EB K a (ns.map V.int)):=by
 have key:∀{S:Pr},(∀b,g b≠NX->S b)->Rp K H1 S (.scr ns) v->∃a,v=.ref a/\((g a=NX/\Rd H1 a (.lst (ns.map V.int)))\/EB K a (ns.map V.int)):=λhs r=>by
  unfold Rp at r;obtain⟨a,e,r⟩:=r;refine⟨a,e,r.imp (λr=>⟨?_,r.2⟩) id⟩
  cases q:g a with
  |none=>rfl
  |some i=>exact absurd (hs a (by rw[q];simp)) r.1
 obtain⟨F,h1,h2⟩:=h
 cases k with
 |sh=>exact key (λb z=>.inl z) h2.2
 |fr k=>have h2:Tr _ _ _ _ _ _ _:=h2;unfold Tr at h2;exact key (λb z=>.inl z) h2.2
 |bo i k=>obtain⟨_,F0,_,h4⟩:=h2;unfold Tr at h4;exact key (λb z=>.inl z) h4.2
theorem Iu{g:Gh}{hd:Hd}(hm:hd.mu=NY)(m:MuOk H (Sg g))(s1:Same H H1)(h:VR K g H H1 k (.nd hd ds) (.ref a)):g a=NX\/∃i∈vk k,g a=NW (NW i):=by
 have nn:∀{S:Pr},(∀b,g b≠NX->S b)->¬S a->g a=NX:=λhs n=>by
  cases q:g a with
  |none=>rfl
  |some i=>exact absurd (hs a (by rw[q];simp)) n
 cases k with
 |sh=>
  left;obtain⟨F,h1,h2,h3⟩:=h;obtain⟨a',o',xs',e1,n1,_⟩:=h3.nd;cases e1;exact nn (λb z=>.inl z) n1
 |fr k=>
  left;obtain⟨a',o',xs',e1,n1,_⟩:=(h.sh rfl m s1).nd;cases e1;exact nn (λb z=>z) n1
 |bo i k=>
  obtain⟨F,h1,h2,F0,h3,h4⟩:=h
  cases k with
  |fz=>
   left;obtain⟨a',o',xs',e1,n1,_⟩:=h4.fz_inv.2.nd;cases e1;exact nn (λb z=>.inl z) n1
  |own es r=>
   right;unfold Tr at h4;obtain⟨a',o',xs',F',e1,_,_,_,_,hF,_⟩:=h4;cases e1;exact⟨i,L6.mpr rfl,h3 a ((hF a).mpr (.inl ⟨hm,rfl⟩))⟩
theorem hJ{ds:List D}(m:MuOk H (Sg g))(s1:Same H H1)(h:VR K g H H1 k d v)(e:g8 (NW (k,d))=NW (bs,ds)) :
  ∃a s,v=.ref a/\(∃xs,SqL K H1 a xs)/\iI K (DI K a) s ds/\iI K (G.G6 K a) s (ds.mapIdx λi d=>D.tup [.int i,d])/\s.P K g H1/\s.from g H bs:=by
 unfold g8 at e;split at e
 ·rename_i k' ds' e';cases e';split at e
  ·rename_i hk;cases e;obtain⟨a,o,us,rfl,g1,q1,rr⟩:=h.items hk m s1;cases(show o=_ from q1);refine⟨a,.l a ds,rfl,⟨us,.of g1⟩,BX,BY,⟨us,.of g1,rr⟩,Iu rfl m s1 h⟩
  ·cases e
 ·rename_i k' ns e';cases e';cases e;obtain⟨a,rfl,q⟩:=h.scrK;rcases q with⟨q1,q2⟩|q
  ·exact⟨a,.l a _,rfl,⟨_,.inl q2⟩,BX,BY,⟨_,.inl q2,RpL.ints ns⟩,.inl q1⟩
  ·refine⟨a,.non,rfl,⟨_,.inr q⟩,λi g' H' _ m'=>BX i g' H' ⟨_,.inr q,RpL.ints ns⟩ m',λi g' H' _ m'=>BY i g' H' ⟨_,.inr q,RpL.ints ns⟩ m',trivial,trivial⟩
 ·cases e
theorem E8{fa:Ro->Option KD}{tg e:N0}(ha:SndE X fa e):SndI X (λρ=>pJ (fa ρ)) tg e:=by
 intro ρ bs ds h g σ H R se q;dsimp only at h
 cases ea:fa ρ with
 |none=>rw[ea] at h;cases h
 |some kd=>
  obtain⟨k,d⟩:=kd;rw[ea] at h;by_cases hx:∃x,d=.str x
  ·obtain⟨x,rfl⟩:=hx;cases h
  by_cases ht:∃ds',d=.tup ds'
  ·obtain⟨ds',rfl⟩:=ht;simp only[pJ] at h;split at h
   ·rename_i hk;cases h;refine i6 (Be aB) (ha ρ k _ ea g σ H _ se λv H1 s1 r1=>?_);obtain⟨a,o,us,rfl,g1,q1,rr⟩:=r1.items hk se.mu s1;cases(show o=_ from q1);refine⟨a,rfl,⟨us,.of g1⟩,q _ (.t a ds) H1 s1 Ir ⟨us,.of g1,rr⟩ ?_⟩
    cases q2:g a with
    |none=>exact q2
    |some i=>
     obtain⟨o,e1,n⟩:=se.mu.same s1 a (by rw[Sg,q2];simp);rw[g1] at e1;cases e1;exact absurd rfl (n us)
   ·cases h
  ·have h':g8 (NW (k,d))=NW (bs,ds):=by
    cases d with
    |nd hd ds'=>cases hd with
     |tup=>exact absurd ⟨ds',rfl⟩ ht
     |_=>exact h
    |str x=>exact absurd ⟨x,rfl⟩ hx
    |_=>exact h
   refine i6 (qC aB) (ha ρ k d ea g σ H _ se λv H1 s1 r1=>?_);obtain⟨a,s,rfl,h1,h2,_,h3,h4⟩:=hJ se.mu s1 r1 h';exact⟨a,rfl,h1,q _ s H1 s1 h2 h3 h4⟩
theorem E9(O:aC X Γ c){fa:Ro->Option KD}{tg e:N0}{p pos:Pos}(hg:eh c.sc "enumerate" = NY)(hn:ar e=NY)(ht:i9 tg=NY)(ha:SndE X fa e):SndI X (λρ=>pK (fa ρ)) tg (.Call (.Name "enumerate" p) [e] [] pos):=by
 intro ρ bs ds h g σ H R se q;dsimp only at h
 cases ea:fa ρ with
 |none=>rw[ea] at h;cases h
 |some kd=>
  obtain⟨k,d⟩:=kd;rw[ea] at h;unfold pK at h;by_cases hx:∃ds',d=.tup ds'
  ·obtain⟨ds',rfl⟩:=hx;simp only[vm] at h;split at h
   ·rename_i hk;cases h
    cases tg with
    |Tuple es kk tp=>
     refine i6 (G.uV (cA O hg) (O.tab.bl _ (by simp[aS])) (bd aB cq (ao hn)) (ao hn)) (ha ρ _ _ ea g σ H _ se λv H1 s1 r1=>?_);obtain⟨a,o,us,rfl,g1,q1,rr⟩:=r1.items hk se.mu s1;cases(show o=_ from q1);refine⟨a,rfl,⟨us,.of g1⟩,q _ (.t a ds') H1 s1 E7 ⟨us,.of g1,rr⟩ ?_⟩
     cases q2:g a with
     |none=>exact q2
     |some i=>
      obtain⟨o,e1,n⟩:=se.mu.same s1 a (by rw[Sg,q2];simp);rw[g1] at e1;cases e1;exact absurd rfl (n us)
    |_=>exact absurd ht (by simp[i9])
   ·cases h
  have h0:vm (NW (k,d))=g8 (NW (k,d)):=by
   cases d with
   |nd hd ds'=>cases hd with
    |tup=>exact absurd ⟨ds',rfl⟩ hx
    |_=>rfl
   |_=>rfl
  rw[h0] at h
  cases h':g8 (NW (k,d)) with
  |none=>rw[h'] at h;cases h
  |some r=>
   obtain⟨bs',ds'⟩:=r;rw[h'] at h;cases h
   cases tg with
   |Tuple es kk tp=>
    refine i6 (G.xT (cA O hg) (O.tab.bl _ (by simp[aS])) (bd aB cq (ao hn)) (ao hn)) (ha ρ _ _ ea g σ H _ se λv H1 s1 r1=>?_);obtain⟨a,s,rfl,h1,_,h2,h3,h4⟩:=hJ se.mu s1 r1 h';exact⟨a,rfl,h1,q _ s H1 s1 h2 h3 h4⟩
   |_=>exact absurd ht (by simp[i9])
theorem Ca(O:aC X Γ c){fa:Ro->Option KD}{tg e:N0}{p pos:Pos}(hg:eh c.sc "range" = NY)(hn:ar e=NY)(ha:SndE X fa e):SndI X (λρ=>g9 (NW (.sh,.int 0)) (fa ρ)) tg (.Call (.Name "range" p) [e] [] pos):=by
 intro ρ bs ds h g σ H R se q;dsimp only[g9] at h;split at h
 ·rename_i k1 i k2 j e1 ea;cases e1;split at h
  ·rename_i hr;simp only[eK,Lj,decide_eq_true_eq] at hr;cases h;refine i6 (lg (cA O hg) (O.tab.bl _ (by simp[aS])) (bd aB cq (ao hn)) (ao hn)) (ha ρ _ _ ea g σ H _ se λv H1 s1 r1=>?_);obtain rfl:=r1.rd.int;refine⟨j,rfl,hr.1.1.2,hr.1.2,q _ .non H1 s1 ?_ trivial trivial⟩;unfold cY;rw[NB];exact BZ 0 _
  ·cases h
 ·cases h
theorem Cb(O:aC X Γ c){fa fb:Ro->Option KD}{tg e e2:N0}{p pos:Pos}(hg:eh c.sc "range" = NY)(hn:ar e=NY)(hn2:ar e2=NY)(ha:SndE X fa e)(hb:SndE X fb e2):SndI X (λρ=>g9 (fa ρ) (fb ρ)) tg (.Call (.Name "range" p) [e,e2] [] pos):=by
 intro ρ bs ds h g σ H R se q;dsimp only[g9] at h;split at h
 ·rename_i k1 i k2 j ea eb;split at h
  ·rename_i hr;simp only[eK,Lj,decide_eq_true_eq] at hr;cases h;refine i6 (sJ (cA O hg) (O.tab.bl _ (by simp[aS])) (bd aB (bd aB cq (ao hn2)) (ao hn)) (by rw[ao hn,ao hn2];rfl) (ao hn2)) ?_;refine two ha hb ea eb se λx y H1 s1 rx ry=>?_;obtain rfl:=rx.rd.int;obtain rfl:=ry.rd.int;exact⟨i,j,rfl,⟨hr.1.1.1.1,hr.1.1.1.2,hr.1.1.2,hr.1.2⟩,q _ .non H1 s1 (BZ i _) trivial trivial⟩
  ·cases h
 ·cases h
theorem Cc(h1:iI K (DI K a) s xs)(h2:iI K (DI K b) u ys):iI K (G.Ic K a b) (.two s u) (tj xs ys):=by
 intro i g H hp m;have hp:s.P K g H/\u.P K g H:=hp;obtain⟨s1,g1⟩:=h1 i g H hp.1 m;obtain⟨s2,g2⟩:=h2 i g H hp.2 m
 have q1:∃us,SqL K H a us/\(xs.length<=i->us.length<=i):=by
  by_cases hi:xs.length<=i
  ·obtain⟨us,e1,e2⟩:=s1 hi;exact⟨us,e1,λ_=>e2⟩
  ·obtain⟨⟨us,x,e1,_⟩,_⟩:=g1 _ (Lm (NR hi));exact⟨us,e1,λz=>absurd z hi⟩
 have q2:∃us,SqL K H b us/\(ys.length<=i->us.length<=i):=by
  by_cases hi:ys.length<=i
  ·obtain⟨us,e1,e2⟩:=s2 hi;exact⟨us,e1,λ_=>e2⟩
  ·obtain⟨⟨us,x,e1,_⟩,_⟩:=g2 _ (Lm (NR hi));exact⟨us,e1,λz=>absurd z hi⟩
 obtain⟨us,a1,a2⟩:=q1;obtain⟨vs,b1,b2⟩:=q2;refine⟨λhi=>⟨us,vs,a1,b1,?_⟩,λd hd=>?_⟩
 ·unfold tj at hi;rw[List.length_zipWith] at hi;by_cases hx:xs.length<=i
  ·exact .inl (a2 hx)
  ·exact .inr (b2 (by lia))
 ·unfold tj at hd;rw[List.getElem?_zipWith] at hd
  cases ex:xs[i]? with
  |none=>rw[ex] at hd;simp at hd
  |some x=>
   cases ey:ys[i]? with
   |none=>rw[ex,ey] at hd;simp at hd
   |some y=>
    rw[ex,ey] at hd;simp only[Option.some.injEq] at hd;subst hd;obtain⟨⟨us',x',e1,e2⟩,y1⟩:=g1 x ex;obtain⟨⟨vs',y',e3,e4⟩,y2⟩:=g2 y ey;refine⟨⟨us',vs',x',y',e1,e3,e2,e4⟩,λz H' hy=>?_⟩;obtain⟨p,v,w,hp',rfl,rfl,hv,hw⟩:=hy;have r1:=(y1 v H ⟨rfl,hv⟩).2;have r2:=(y2 w H ⟨rfl,hw⟩).2;refine⟨aq hp',?_⟩;unfold Rp;refine⟨p,_,_,rfl,λz=>?_,aG,rfl,.cons (r1.same (aq hp')) (.cons (r2.same (aq hp')) .nil)⟩;obtain⟨o,q,_⟩:=m p z;rw[hp'] at q;cases q
theorem Fe(O:aC X Γ c){fa fb:Ro->Option KD}{tg e e2:N0}{p pos:Pos}(hg:eh c.sc "zip" = NY)(hn:ar e=NY)(hn2:ar e2=NY)(ht:i9 tg=NY)(ha:SndE X fa e)(hb:SndE X fb e2):SndI X (λρ=>nW (fa ρ) (fb ρ)) tg (.Call (.Name "zip" p) [e,e2] [] pos):=by
 intro ρ bs ds h g σ H R se q;dsimp only[nW] at h
 cases ea:fa ρ with
 |none=>rw[ea] at h;cases h
 |some kd=>
  obtain⟨k,d⟩:=kd
  cases eb:fb ρ with
  |none=>
   rw[ea,eb] at h;split at h
   ·cases h
   ·cases h
  |some kd2=>
   obtain⟨k2,d2⟩:=kd2;rw[ea,eb] at h;split at h
   ·rename_i bs1 xs h1;split at h
    ·rename_i bs2 ys h2;cases h
     cases tg with
     |Tuple es kk tp=>
      refine i6 (G.BE (cA O hg) (O.tab.bl _ (by simp[aS])) (bd aB (bd aB cq (ao hn2)) (ao hn)) (by rw[ao hn,ao hn2];rfl) (ao hn2)) ?_;refine two ha hb ea eb se λx y H1 s1 rx ry=>?_;obtain⟨a,s,rfl,l1,i1,_,p1,f1⟩:=hJ se.mu s1 rx h1;obtain⟨b,u,rfl,l2,i2,_,p2,f2⟩:=hJ se.mu s1 ry h2;exact⟨a,b,rfl,l1,l2,q _ (.two s u) H1 s1 (Cc i1 i2) ⟨p1,p2⟩ ⟨f1.from_mono λi z=>Mp _ z,f2.from_mono λi z=>LA _ z⟩⟩
     |_=>exact absurd ht (by simp[i9])
    ·cases h
   ·cases h
noncomputable def Ff:D->Option String
 |.non=>NW "NoneType"
 |.bl _=>NW "bool"
 |.int _=>NW "int"
 |.str _=>NW "str"
 |.scr _=>NX
 |.nd .lst _=>NW "list"
 |.nd .tup _=>NW "tuple"
 |.nd (.dic 0 _) _=>NW "dict"
 |_=>NX
noncomputable def nX(T:Str)(d:D):Option Bool:=match Ff d with
 |some t=>if T="int" then NW (t=="int" || t=="bool") else if T="bool" then NW (t=="bool") else if T="list" then NW (t=="list") else if T="tuple" then NW (t=="tuple") else if T="str" then NW (t=="str") else if T="dict" then NW (t=="dict") else NX
 |none=>NX
theorem Fg{t:String}(h:Rp K H S d v)(e:Ff d=NW t):gP K H v (.type t):=by
 cases d with
 |non=>obtain rfl:=h.non;cases e;exact .non
 |bl b=>obtain rfl:=h.bl;cases e;exact .bl b
 |int b=>obtain rfl:=h.int;cases e;exact .int b
 |str b=>obtain rfl:=h.str;cases e;exact .str b
 |scr b=>cases e
 |nd hd ds=>
  obtain⟨a,o,xs,rfl,_,g,q,r⟩:=h.nd
  cases hd with
  |lst=>cases e;cases(show o=_ from q);exact .lst g
  |tup=>cases e;cases(show o=_ from q);exact .tup g
  |dic t ks=>
   cases t with
   |succ t=>cases e
   |zero=>
    cases e;rcases q with⟨_,kvs,rfl,_⟩|⟨_,h0,_⟩
    ·exact .dK g
    ·cases h0
  |obj c ns=>cases e
noncomputable def cZ:List Str:=["int","bool","list","tuple","str","dict"]
noncomputable def jk:List String:=["NoneType","bool","int","str","list","tuple","dict"]
theorem tq{p:String->Prop}(a:p "NoneType")(b:p "bool")(c:p "int")(d:p "str")(e:p "list")(f:p "tuple")(g:p "dict"):∀t∈jk,p t:=by
 intro t ht;simp only[jk,Lq,L7,or_false] at ht
 rcases ht with rfl|rfl|rfl|rfl|rfl|rfl|rfl<;>assumption
theorem yp{t:String}(ht:Ff d=NW t):t∈jk:=by
 cases d with
 |nd hd ds=>cases hd with
  |dic tt ks=>cases tt<;>cases ht<;>simp[jk]
  |_=>cases ht<;>simp[jk]
 |_=>cases ht<;>simp[jk]
theorem Cd:∀t∈jk,Mb K (.type t) (.type "int")=NW (t=="int" || t=="bool"):=tq (by with_unfolding_all rfl) (by with_unfolding_all rfl) (by with_unfolding_all rfl) (by with_unfolding_all rfl) (by with_unfolding_all rfl) (by with_unfolding_all rfl) (by with_unfolding_all rfl)
theorem yq:∀t∈jk,Mb K (.type t) (.type "bool")=NW (t=="bool"):=tq (by with_unfolding_all rfl) (by with_unfolding_all rfl) (by with_unfolding_all rfl) (by with_unfolding_all rfl) (by with_unfolding_all rfl) (by with_unfolding_all rfl) (by with_unfolding_all rfl)
theorem yr:∀t∈jk,Mb K (.type t) (.type "list")=NW (t=="list"):=tq (by with_unfolding_all rfl) (by with_unfolding_all rfl) (by with_unfolding_all rfl) (by with_unfolding_all rfl) (by with_unfolding_all rfl) (by with_unfolding_all rfl) (by with_unfolding_all rfl)
theorem vn:∀t∈jk,Mb K (.type t) (.type "tuple")=NW (t=="tuple"):=tq (by with_unfolding_all rfl) (by with_unfolding_all rfl) (by with_unfolding_all rfl) (by with_unfolding_all rfl) (by with_unfolding_all rfl) (by with_unfolding_all rfl) (by with_unfolding_all rfl)
theorem Ce:∀t∈jk,Mb K (.type t) (.type "str")=NW (t=="str"):=tq (by with_unfolding_all rfl) (by with_unfolding_all rfl) (by with_unfolding_all rfl) (by with_unfolding_all rfl) (by with_unfolding_all rfl) (by with_unfolding_all rfl) (by with_unfolding_all rfl)
theorem yt:∀t∈jk,Mb K (.type t) (.type "dict")=NW (t=="dict"):=tq (by with_unfolding_all rfl) (by with_unfolding_all rfl) (by with_unfolding_all rfl) (by with_unfolding_all rfl) (by with_unfolding_all rfl) (by with_unfolding_all rfl) (by with_unfolding_all rfl)
theorem yu{T:Str}{b:Bool}(h:nX T d=NW b):∃t T',Ff d=NW t/\T∈cZ/\bootBuiltins T=NW (.type T')/\Mb K (.type t) (.type T')=NW b:=by
 unfold nX at h
 cases ht:Ff d with
 |none=>rw[ht] at h;cases h
 |some t=>
  rw[ht] at h;have hm:=yp ht;dsimp only at h;by_cases e0:T="int"
  ·subst e0;rw[if_pos rfl] at h;exact⟨t,"int",rfl,by simp[cZ],by rfl,(Cd t hm).trans h⟩
  by_cases e1:T="bool"
  ·subst e1;rw[if_neg (by decide),if_pos rfl] at h;exact⟨t,"bool",rfl,by simp[cZ],by rfl,(yq t hm).trans h⟩
  by_cases e2:T="list"
  ·subst e2;rw[if_neg (by decide),if_neg (by decide),if_pos rfl] at h;exact⟨t,"list",rfl,by simp[cZ],by rfl,(yr t hm).trans h⟩
  by_cases e3:T="tuple"
  ·subst e3;rw[if_neg (by decide),if_neg (by decide),if_neg (by decide),if_pos rfl] at h;exact⟨t,"tuple",rfl,by simp[cZ],by rfl,(vn t hm).trans h⟩
  by_cases e4:T="str"
  ·subst e4;rw[if_neg (by decide),if_neg (by decide),if_neg (by decide),if_neg (by decide),if_pos rfl] at h;exact⟨t,"str",rfl,by simp[cZ],by rfl,(Ce t hm).trans h⟩
  by_cases e5:T="dict"
  ·subst e5;rw[if_neg (by decide),if_neg (by decide),if_neg (by decide),if_neg (by decide),if_neg (by decide),if_pos rfl] at h;exact⟨t,"dict",rfl,by simp[cZ],by rfl,(yt t hm).trans h⟩
  rw[if_neg e0,if_neg e1,if_neg e2,if_neg e3,if_neg e4,if_neg e5] at h;cases h
noncomputable def tu(T:Str)(a:Option KD):Option KD:=match a with|some (_,d)=>bV (nX T d)|none=>NX
theorem Fh(O:aC X Γ c){fa:Ro->Option KD}{a:N0}{T:Str}{p p2 pos:Pos}(hg:eh c.sc "isinstance" = NY)(hgT:eh c.sc T=NY)(hn:ar a=NY)(ha:SndE X fa a):SndE X (λρ=>tu T (fa ρ)) (.Call (.Name "isinstance" p) [a,.Name T p2] [] pos):=by
 intro ρ kd d h g σ H Q se q;dsimp only[tu] at h;split at h
 ·rename_i ka da ea
  cases hi:nX T da with
  |none=>rw[hi] at h;cases h
  |some b=>
   rw[hi] at h;cases h;obtain⟨t,T',h1,h2,h3,h4⟩:=yu (K:=X.K) hi
   have hT:T∈aS/\T≠"__name__"/\(T==("__debug__":Str))=NZ:=by
    simp only[cZ,Lq,L7,or_false] at h2
    rcases h2 with rfl|rfl|rfl|rfl|rfl|rfl<;>exact⟨by simp[aS],by decide,by decide⟩
   refine aE (gQ nU (cA O hg) (O.tab.bl _ (by simp[aS])) PyProof.Rows.boot_isinstance (bd aB (bd (xD (v:=.ty T') (cA O hgT) (O.tab.bl _ hT.1) h3 rfl hT.2.1 hT.2.2) cq (ao rfl)) (ao hn)) (by decide) (by decide) (ao hn) (bJ rfl)) ?_;exact ha ρ _ _ ea g σ H _ se λv H1 s1 r1=>⟨v,T',_,b,rfl,Fg r1.rd h1,h4,q _ H1 s1 EH⟩
 ·cases h
end
end J
namespace J
open PySem PySem.Spec L2
mutual
noncomputable def iJ:D->Ow->Bool
 |.nd _ ds,.own es r=>jZ ds es r
 |d,_=>jQ d
noncomputable def jZ:List D->List Ow->Ow->Bool
 |[],_,_=>NY
 |d::ds,es,r=>iJ d (es.headD r)&&jZ ds es.tail r
end
section
variable {K:Lh} {H H' H0:Hp} {S S':Pr} {g:Gh}
mutual
theorem Tr.clean(m:MuOk H S'):∀{d:D} {k:Ow} {v:V} {F:Pr},iJ d k=NY->Tr K H S d k v F->Tr K H S' d k v F
 |.non,_,_,_,c,h=>by unfold Tr at h⊢;exact⟨h.1,h.2.im m rfl⟩
 |.bl _,_,_,_,c,h=>by unfold Tr at h⊢;exact⟨h.1,h.2.im m rfl⟩
 |.int _,_,_,_,c,h=>by unfold Tr at h⊢;exact⟨h.1,h.2.im m rfl⟩
 |.str _,_,_,_,c,h=>by unfold Tr at h⊢;exact⟨h.1,h.2.im m rfl⟩
 |.scr ns,k,_,_,c,h=>by simp[iJ,jQ] at c
 |.nd hd ds,.fz,_,_,c,h=>by
  have c:jQ (.nd hd ds)=NY:=by simpa[iJ] using c
  unfold Tr at h⊢;exact⟨h.1,h.2.im m c⟩
 |.nd hd ds,.own es r,v,F,c,h=>by
  have c:jZ ds es r=NY:=by simpa[iJ] using c
  unfold Tr at h⊢;obtain⟨a,o,xs,F',e,q1,q2,n1,n2,hF,t⟩:=h;refine⟨a,o,xs,F',e,q1,q2,n1,λhm z=>?_,hF,TrL.clean m c t⟩;obtain⟨o',e',n⟩:=m a z;rw[q1] at e';cases e'
  cases hd with
  |tup=>exact n _ q2
  |_=>exact absurd hm (by simp[Hd.mu])
theorem TrL.clean(m:MuOk H S'):∀{ds:List D} {es:List Ow} {r:Ow} {vs:List V} {F:Pr},jZ ds es r=NY->TrL K H S ds es r vs F->TrL K H S' ds es r vs F
 |[],_,_,_,_,_,h=>by unfold TrL at h⊢;exact h
 |d::ds,es,r,vs,F,c,h=>by
  simp only[jZ,Lj] at c;unfold TrL at h⊢;obtain⟨y,ys,F1,F2,e,hF,dj,h1,h2⟩:=h;exact⟨y,ys,F1,F2,e,hF,dj,Tr.clean m c.1 h1,TrL.clean m c.2 h2⟩
end
noncomputable def pL:Kd->D->Bool
 |.sh,d=>jQ d
 |.fr k,d=>iJ d k
 |.bo _ _,_=>NZ
theorem VR.clean(c:pL kd d=NY)(m:MuOk H0 (Sg g))(s:Same H0 H)(h:VR K g' H0 H kd d v):VR K g H0 H kd d v:=by
 obtain⟨F,h1,h2⟩:=h;have mm:MuOk H (Sx g F):=λb z=>z.elim (λz=>m.same s b z) λz=>h2.dom b z;refine⟨F,h1,?_⟩
 cases kd with
 |sh=>exact⟨h2.1,h2.2.im mm c⟩
 |fr k=>exact Tr.clean mm c h2
 |bo i k=>cases c
end
noncomputable def bZ:Kd->Bool
 |.bo _ _=>NY
 |_=>NZ
noncomputable def tw(φ:Fn)(kds:List KD):Option KD:=
 match φ (kds.map (·.2)) with
 |some (kd,d)=>if(kds.all λp=>mC p.1 p.2)=NY then(if bZ kd=NY then NX else NW (kd,d)) else if pL kd d=NY then NW (kd,d) else NX
 |none=>NX
noncomputable def xu(φ:Option Fn)(a:Option (List KD)):Option KD:=match φ,a with|some φ,NW kds=>tw φ kds|_,_=>NX
section
variable {X:Cx} {Γ:fV} {c:Cz}
theorem mO(K:Lh){φ:Fn}{kds:List KD}{kd:Kd}{d:D}(h:tw φ kds=NW (kd,d)){g:Gh}{H0 H:Hp}{vs:List V}{Q:VK}{E:XK}(m:MuOk H0 (Sg g))(s:Same H0 H)(r:VRs K g H0 H kds vs)(q:∀v H',Same H H'->VR K g H0 H' kd d v->Q v H'):ua K φ vs H Q E:=by
 unfold tw at h;split at h
 ·rename_i kd' d' e';split at h
  ·rename_i ok;split at h
   ·cases h
   ·cases h;exact⟨_,g,_,_,r.sh ok m s,m.same s,e',λv H2 s2 r2=>q v H2 s2 (r2.older s)⟩
  ·split at h
   ·rename_i cl;cases h;exact⟨_,λ_=>NX,_,_,r.rd.go (λb o n e=>⟨e,λz=>z rfl⟩),λa z=>absurd rfl z,e',λv H2 s2 r2=>q v H2 s2 ((r2.clean cl (m.same s) s2).older s)⟩
   ·cases h
 ·cases h
theorem Iv(O:aC X Γ c){x:Str}{e:N0}{es:List N0}{p pos:Pos}{fa:Ro->Option (List KD)}(hf:jS X fa (e::es))(hg:eh c.sc x=NY)(n1:ar e=NY)(n2:es.all ar=NY):SndE X (λρ=>xu (Γ.fn x) (fa ρ)) (.Call (.Name x p) (e::es) [] pos):=by
 intro ρ kd d h g σ H Q se q;dsimp only[xu] at h;split at h
 ·rename_i φ kds hφ he;refine aE (u6 (t:=wA X (e::es)) (λ_ _ _ _=>bN) (O.tab.fn x φ hφ) (cA O hg) dE (ao n1) (bJ n2)) (hf ρ _ he g σ H _ se λvs H1 s1 r1=>?_);exact mO X.K h se.mu s1 r1 λv H2 s2 r2=>q v H2 (s1.trans s2) r2
 ·cases h
theorem Fk(O:aC X Γ c){x:Str}{p pos:Pos}(hg:eh c.sc x=NY):SndE X (λ_=>xu (Γ.fn x) (NW [])) (.Call (.Name x p) [] [] pos):=by
 intro ρ kd d h g σ H Q se q;dsimp only[xu] at h;split at h
 ·rename_i φ kds hφ he;cases he;refine aE (BK (O.tab.fn x φ hφ) (cA O hg)) ?_;exact mO (E:=λ_ _ _=>False) X.K h se.mu (Same.refl H) VRs.nil λv H2 s2 r2=>q v H2 s2 r2
 ·cases h
end
inductive IT where
 |nm (i:Nat)
 |tp (ts:List IT)
mutual
noncomputable def nY:IT->D->Option (List (Nat×D))
 |.nm i,d=>NW [(i,d)]
 |.tp ts,.nd .tup ds=>pM ts ds
 |_,_=>NX
noncomputable def pM:List IT->List D->Option (List (Nat×D))
 |[],[]=>NW []
 |t::ts,d::ds=>match nY t d,pM ts ds with
  |some a,NW b=>NW (a++b)
  |_,_=>NX
 |_,_=>NX
end
noncomputable def xv(d:D):Sl:=⟨NZ,.fz,d⟩
noncomputable def setAll:List (Nat×D)->Ro->Ro
 |[],ρ=>ρ
 |(i,d)::r,ρ=>setAll r (ρ.set i (NW (xv d)))
noncomputable def vo(f:N0->Option IT):List N0->Option (List IT)
 |[]=>NW []
 |e::es=>match f e,vo f es with
  |some a,NW b=>NW (a::b)
  |_,_=>NX
noncomputable def oX(c:Cz):Nat->N0->Option IT
 |0,_=>NX
 |n+1,e=>match e with
  |.Name x _=>if gY c x then(bt x c.N).map .nm else NX
  |.Tuple es _ _=>if es.all ar then(vo (oX c n) es).map .tp else NX
  |_=>NX
theorem SE.set{ρ:Ro}{σ:L2.St}(h:SE K g ρ σ H)(i:Nat){d:D}{v:V}(r:Rp K H (Sg g) d v):SE K g (ρ.set i (NW (xv d))) (σ.set i (NW v)) H:=by
 refine⟨λj sl e=>?_,h.mu,by simp[h.len]⟩;by_cases hj:j=i
 ·subst hj
  have hlt:j<ρ.length:=by
   have:=(Lk.mp e).1;simpa using this
  rw[Ly hlt] at e;cases e;exact⟨v,_,Ly (by rw[<- h.len];exact hlt),λb z=>z.elim,.fz r⟩
 ·rw[Lx (Ne.symm hj)] at e⊢;exact h.slot j sl e
theorem SE.pass{ρ:Ro}{σ:L2.St}(h:SE K g ρ σ H)(i:Nat){v:V}(n:∀sl,ρ[i]?≠NW (NW sl)):SE K g ρ (σ.set i (NW v)) H:=by
 refine⟨λj sl e=>?_,h.mu,by simp[h.len]⟩;have hj:j≠i:=λz=>n sl (z▸e);rw[Lx (Ne.symm hj)];exact h.slot j sl e
noncomputable def iK:List (Nat×V)->L2.St->L2.St
 |[],σ=>σ
 |(i,v)::r,σ=>iK r (σ.set i (NW v))
theorem nZ:∀(a b:List (Nat×V)) (σ:L2.St),iK (a++b) σ=iK b (iK a σ)
 |[],_,_=>rfl
 |(i,v)::a,b,σ=>nZ a b _
section
variable {X:Cx} {Γ:fV} {c:Cz}
noncomputable def RpP(K:Lh)(H:Hp)(S:Pr):List (Nat×D)->List (Nat×V)->Prop
 |[],vs=>vs=[]
 |(i,d)::r,vs=>∃v ws,vs=(i,v)::ws/\Rp K H S d v/\RpP K H S r ws
theorem RpP.app:∀{a b:List (Nat×D)} {x y:List (Nat×V)},RpP K H S a x->RpP K H S b y->RpP K H S (a++b) (x++y)
 |[],_,_,_,h,g=>by rw[(show _=[] from h)];exact g
 |(i,d)::a,b,_,y,h,g=>by
  obtain⟨v,ws,rfl,h1,h2⟩:=h;exact⟨v,ws++y,rfl,h1,RpP.app h2 g⟩
mutual
noncomputable def Ap(K:Lh):IT->TG
 |.nm i=>jF i
 |.tp ts=>Ed K ts.length (n0 K ts)
noncomputable def n0(K:Lh):List IT->ul
 |[]=>A8
 |t::ts=>um (Ap K t) (n0 K ts)
end
mutual
theorem js:∀{t:IT} {d:D} {ps:List (Nat×D)} {v:V} {σ:L2.St} {Q:L2.St->Hp->Prop},nY t d=NW ps->Rp K H S d v->(∀vs,RpP K H S ps vs->Q (iK vs σ) H)->Ap K t v σ H Q
 |.nm i,d,ps,v,σ,Q,ht,r,q=>by
  simp only[nY] at ht;cases ht;simp only[Ap];exact q [(i,v)] ⟨v,[],rfl,r,rfl⟩
 |.tp ts,d,ps,v,σ,Q,ht,r,q=>by
  cases d with
  |nd hd ds=>
   cases hd with
   |tup=>
    simp only[nY] at ht;obtain⟨a,o,xs,rfl,_,g1,q1,rl⟩:=r.nd;cases(show o=_ from q1);obtain⟨h1,h2⟩:=j0 ht rl q;simp only[Ap];exact⟨a,xs,rfl,.of g1,h2,h1⟩
   |_=>simp[nY] at ht
  |_=>simp[nY] at ht
theorem j0:∀{ts:List IT} {ds:List D} {ps:List (Nat×D)} {vs:List V} {σ:L2.St} {Q:L2.St->Hp->Prop},pM ts ds=NW ps->RpL K H S ds vs->(∀ws,RpP K H S ps ws->Q (iK ws σ) H)->n0 K ts vs σ H Q/\vs.length=ts.length
 |[],[],ps,vs,σ,Q,ht,r,q=>by
  simp only[pM] at ht;cases ht;simp only[n0];rw[r.nil_inv];exact⟨⟨rfl,q [] rfl⟩,rfl⟩
 |t::ts,d::ds,ps,vs,σ,Q,ht,r,q=>by
  simp only[pM] at ht;split at ht
  ·rename_i a b ha hb;cases ht;obtain⟨y,ys,rfl,r1,r2⟩:=r.cons_inv;simp only[n0];have len:=(j0 (σ:=σ) (Q:=λ_ _=>True) hb r2 λ_ _=>trivial).2;refine⟨⟨y,ys,rfl,js ha r1 λvs1 h1=>(j0 hb r2 λvs2 h2=>?_).1⟩,by simp[len]⟩;have:=q (vs1++vs2) (h1.app h2);rw[nZ] at this;exact this
  ·cases ht
 |[],_::_,ps,vs,σ,Q,ht,r,q=>by simp[pM] at ht
 |_::_,[],ps,vs,σ,Q,ht,r,q=>by simp[pM] at ht
end
theorem de(h:ar e=NY):Oi (e::es) env=(NZ,assign e env)::Oi es env:=by
 cases e<;>first|rfl|cases h
theorem qW(O:aC X Γ c):∀(n:Nat) {e:N0} {t:IT},oX c n e=NW t->PG X e (Ap X.K t)
 |0,e,t,h=>by cases h
 |n+1,e,t,h=>by
  have ih:∀{e:N0} {t:IT},oX c n e=NW t->PG X e (Ap X.K t):=λh=>qW O n h
  have lst:∀{es:List N0} {ts:List IT},es.all ar=NY->vo (oX c n) es=NW ts->A6 X es (n0 X.K ts)/\(Oi es X.env).length=ts.length/\(Oi es X.env).findIdx? (·.1)=NX:=by
   intro es
   induction es with
   |nil=>intro ts _ h;cases h;simp only[n0];exact⟨l8,rfl,rfl⟩
   |cons e es ihe=>
    intro ts hn h;rw[L3,Lj] at hn;unfold vo at h;split at h
    ·rename_i a b ha hb;cases h;obtain⟨g1,g2,g3⟩:=ihe hn.2 hb;simp only[n0];refine⟨gO (ih ha) g1 (by rw[de hn.1];rfl),by rw[de hn.1,LW,g2];rfl,?_⟩;rw[de hn.1,L0];simp[g3]
    ·cases h
  unfold oX at h;split at h
  ·rename_i x p;split at h
   ·rename_i hl
    cases hi:bt x c.N with
    |none=>rw[hi] at h;cases h
    |some i=>
     rw[hi] at h;cases h;have l:=dY O hl;simp only[Ap];exact jp (i:=i) (by rw[O.N];exact O.nd) (by rw[O.N];exact aY hi) l.1 l.2
   ·cases h
  ·rename_i es k p;split at h
   ·rename_i hn
    cases hs:vo (oX c n) es with
    |none=>rw[hs] at h;cases h
    |some ts=>
     rw[hs] at h;cases h;obtain⟨g1,g2,g3⟩:=lst hn hs;simp only[Ap];exact o5 O.calm g1 g2 g3
   ·cases h
  ·cases h
theorem SE.setAll{H:Hp}:∀{ps:List (Nat×D)} {vs:List (Nat×V)} {ρ:Ro} {σ:L2.St},RpP K H (Sg g) ps vs->SE K g ρ σ H->SE K g (setAll ps ρ) (iK vs σ) H
 |[],vs,ρ,σ,h,se=>by rw[(show vs=[] from h)];exact se
 |(i,d)::ps,vs,ρ,σ,h,se=>by
  obtain⟨v,ws,rfl,h1,h2⟩:=h;exact SE.setAll (ρ:=ρ.set i (NW (xv d))) (vs:=ws) (σ:=σ.set i (NW v)) h2 (se.set i h1)
noncomputable def dG(ps:List (Nat×D))(ρ:Ro):Bool:=ps.all λp=>match ρ[p.1]? with|some NX=>NY|_=>NZ
theorem SE.passAll{H:Hp}:∀{ps:List (Nat×D)} {vs:List (Nat×V)} {ρ:Ro} {σ:L2.St},RpP K H S ps vs->dG ps ρ=NY->SE K g ρ σ H->SE K g ρ (iK vs σ) H/\∀(j:Nat) sl,ρ[j]?=NW (NW sl)->(iK vs σ)[j]?=σ[j]?
 |[],vs,ρ,σ,h,_,se=>by rw[(show vs=[] from h)];exact⟨se,λ_ _ _=>rfl⟩
 |(i,d)::ps,vs,ρ,σ,h,hn,se=>by
  obtain⟨v,ws,rfl,h1,h2⟩:=h;simp only[dG,L3,Lj] at hn
  have ni:∀sl,ρ[i]?≠NW (NW sl):=λsl e=>by
   have:=hn.1;rw[e] at this;cases this
  obtain⟨a1,a2⟩:=SE.passAll h2 (by simpa[dG] using hn.2) (se.pass i (v:=v) ni);exact⟨a1,λj sl e=>(a2 j sl e).trans (Lx (λz=>ni sl (by rw[z];exact e)))⟩
end
end J
namespace J
open PySem PySem.Spec L2
noncomputable def Gh.re(m:Nat->Option Nat)(g:Gh):Gh:=λb=>match g b with
 |some (NW i)=>NW (m i)
 |x=>x
section
variable {K:Lh} {H H':Hp} {g:Gh} {F F2:Pr} {m:Nat->Option Nat}
theorem k7(b:N2):Sg (g.re m) b↔Sg g b:=by
 unfold Gh.re Sg
 cases h:g b with
 |none=>simp[h]
 |some x=>cases x<;>simp[h]
theorem iL:(g.plus F).plus F2=g.plus (λb=>F b\/F2 b):=by
 funext b;unfold Gh.plus;by_cases h2:F2 b
 ·simp[h2]
 ·by_cases h1:F b
  ·simp[h1]
  ·simp[h1,h2]
theorem bf(h:F b):g.plus F b=NW NX:=by
 unfold Gh.plus;rw[if_pos h]
theorem SE.upd(h:SE K g ρ σ H)(hp:g p=NW NX)(ho:∀xs,o≠.tup xs):SE K g ρ σ (upd H p o):=by
 have kk:∀b o',b≠p->H b=NW o'->L2.upd H p o b=NW o':=λb o' n e=>by rw[al n];exact e
 refine⟨λi sl e=>?_,λb z=>?_,h.len⟩
 ·obtain⟨v,F,e1,e2,e3⟩:=h.slot i sl e;refine⟨v,F,e1,e2,e3.go (λb o' hb e=>kk b o' (λz=>?_) e) λ_ _ _ n=>n⟩;subst z;rcases hb with hb|hb
  ·exact hb (by rw[Sg,hp];simp)
  ·rw[e2 b hb] at hp;cases hp
 ·by_cases hb:b=p
  ·exact⟨o,by rw[hb];exact aG,ho⟩
  ·obtain⟨o',e,n⟩:=h.mu b z;exact⟨o',kk b o' hb e,n⟩
noncomputable def cC(ρ:Ro)(cap:List (Option Nat)):Ro:=cap.map λo=>o.bind λi=>(ρ[i]?).join
noncomputable def j3(cap:List (Option Nat))(i:Nat):Option Nat:=cap.findIdx? λo=>o==NW i
noncomputable def lF(cap:List (Option Nat)):Bool:=decide (cap.filterMap id).Nodup
theorem qX:∀{cap:List (Option Nat)} {j i:Nat},(cap.filterMap id).Nodup->cap[j]?=NW (NW i)->j3 cap i=NW j
 |[],j,i,_,e=>by simp at e
 |o::cap,0,i,hn,e=>by
  simp at e;subst e;simp[j3,L0]
 |o::cap,j+1,i,hn,e=>by
  have e':cap[j]?=NW (NW i):=by simpa using e
  have hm:i∈cap.filterMap id:=M3.mpr ⟨NW i,LD e',rfl⟩
  have hno:(o==NW i)=NZ:=by
   cases o with
   |none=>rfl
   |some k=>
    simp only[LK,id] at hn;have:=(LV.mp hn).1;simp only[beq_eq_false_iff_ne,ne_eq,Option.some.injEq];intro z;subst z;exact this hm
  have hn':(cap.filterMap id).Nodup:=by
   cases o with
   |none=>simpa using hn
   |some k=>simp only[LK,id] at hn;exact(LV.mp hn).2
  have ih:=qX hn' e';unfold j3 at ih⊢;rw[L0,hno,ih];rfl
theorem SE.cap(h:SE K g ρ σ H){cap:List (Option Nat)}(hc:lF cap=NY):SE K (g.re (j3 cap)) (cC ρ cap) (dQ σ cap) H:=by
 refine⟨λj sl e=>?_,λb z=>h.mu b ((k7 b).mp z),by simp[cC,dQ]⟩;unfold cC at e;unfold dQ;rw[Ll] at e⊢
 cases q:cap[j]? with
 |none=>rw[q] at e;cases e
 |some o=>
  rw[q] at e
  cases o with
  |none=>cases e
  |some i=>
   have e':(ρ[i]?).join=NW sl:=by simpa using e
   have e2:ρ[i]?=NW (NW sl):=by
    cases z:ρ[i]? with
    |none=>rw[z] at e';cases e'
    |some w=>rw[z] at e';have:w=NW sl:=e';rw[this]
   obtain⟨v,F,g1,g2,g3⟩:=h.slot i sl e2;refine⟨v,F,by simp[g1],λb z=>?_,g3.go (λ_ _ _ h=>h) λb o _ n z=>n ((k7 b).mp z)⟩;unfold Gh.re;rw[g2 b z];show NW (j3 cap i)=_;rw[qX (by simpa[lF] using hc) q]
end
noncomputable def gq(scope sc:Of):Of:=
 { scope with names:=scope.names.map λ(n,k)=>if(k==.free&&sc.kind==.function&&sc.names.lookup n==NW .cell) then(n,.cell) else(n,k) }
theorem yw{env:Env}(h:env.scope=sc):relabel scope env=gq scope sc:=by
 subst h;rfl
noncomputable def aO(c:Cz)(scope:Of):List (Option Nat):=scope.names.map λ(x,k)=>if k=.free then bt x c.N else NX
noncomputable def aA(scope:Of):List Str:=scope.names.map (·.1)
noncomputable def bO(c:Cz)(scope:Of):Bool:=
 scope.kind==.function&&decide (aA scope).Nodup&&lF (aO c scope)&&scope.names.all λ(x,k)=>(k != .free||c.sc.names.lookup x==NW .cell||c.sc.names.lookup x==NW .free)
theorem dl:∀{l:List (Str×Ol)} {x:Str} {k:Ol},(l.map (·.1)).Nodup->(x,k)∈l->l.lookup x=NW k
 |(y,j)::r,x,k,hn,hm=>by
  rw[LH];rw[LJ,LV] at hn;rcases Lq.mp hm with e|hm
  ·cases e;simp
  ·have:x≠y:=λz=>hn.1 (by rw[<- z];exact LX.mpr ⟨(x,k),hm,rfl⟩);have e:(x==y)=NZ:=by simpa using this
   rw[e];exact dl hn.2 hm
theorem gr(O:aC X Γ c)(h:bO c scope=NY):jP X (aA scope) scope (aO c scope):=by
 simp only[bO,Lj,decide_eq_true_eq,LI,beq_iff_eq] at h;obtain⟨⟨⟨h1,h2⟩,_⟩,h3⟩:=h;have hk:∀x,X.env.kindOf x=c.sc.names.lookup x:=λx=>by show X.env.scope.names.lookup x=_;rw[O.sc]
 have free:∀y∈scope.names,y.2=.free->X.env.kindOf y.1=NW .cell\/X.env.kindOf y.1=NW .free:=λy hy e=>by
  have:=h3 y hy;simp only[Mu,bne_iff_ne,beq_iff_eq] at this;rw[hk];rcases this with(z|z)|z
  ·exact absurd e z
  ·exact .inl z
  ·exact .inr z
 refine⟨h1,λy hy e=>?_,λy hy e=>?_,free,by simp[aO,aA],λj i x hj hc=>?_⟩
 ·obtain⟨x,k⟩:=y;have e':k=.cell:=e;subst e';exact dl h2 hy
 ·obtain⟨x,k⟩:=y;have e':k=.local:=e;subst e';exact dl h2 hy
 ·unfold aA at hj;unfold aO at hc;rw[Ll] at hj hc
  cases q:scope.names[j]? with
  |none=>rw[q] at hj;cases hj
  |some y=>
   rw[q] at hj hc;obtain⟨y,k⟩:=y;cases hj
   have hc':(if k=.free then bt y c.N else NX)=NW i:=by simpa using hc
   split at hc'
   ·rename_i e;subst e;have hm:=LD q;exact⟨by rw[O.N];exact aY hc',dl h2 hm,free _ hm rfl⟩
   ·cases hc'
theorem fG{c:Cz}(O:aC X Γ c)(h:bO c scope=NY)(C:N2)(s:N3)(H:Hp)(ex:List N2):aC (aX X (aA scope) scope C s H ex) Γ ⟨gq scope c.sc,aA scope,gZ scope⟩:=by
 simp only[bO,Lj,decide_eq_true_eq] at h;exact⟨yw O.sc,rfl,λx z=>z,O.calm,h.1.1.2,⟨O.tab.fn,O.tab.cf,O.tab.fm,O.tab.bl,O.tab.units,O.tab.gd,O.tab.cst⟩⟩
noncomputable def eL(tg:IT)(ft:Ro->Option Bool)(fe:Ro->Option KD)(ρ0:Ro)(d:D):Option (Option KD):=match nY tg d with
 |some ps=>if dG ps ρ0=NY then(match ft (setAll ps ρ0) with|some NY=>(fe (setAll ps ρ0)).map NW|some NZ=>NW NX|none=>NX) else NX
 |none=>NX
noncomputable def ba(r:Ow)(f:D->Option (Option KD)):List D->Option (List D)
 |[]=>NW []
 |d::ds=>match f d,ba r f ds with
  |some (NW kd),NW ys=>if cy r kd=NY then NW (kd.2::ys) else NX
  |some NX,NW ys=>NW ys
  |_,_=>NX
theorem iM:∀{a b:List D} {ys:List D},ba r f (a++b)=NW ys->∃x y,ba r f a=NW x/\ba r f b=NW y/\ys=x++y
 |[],b,ys,h=>⟨[],ys,rfl,h,rfl⟩
 |d::a,b,ys,h=>by
  rw[Ms] at h;unfold ba at h;split at h
  ·rename_i kd zs e1 e2;split at h
   ·rename_i hf;cases h;obtain⟨x,y,h1,h2,rfl⟩:=iM e2;exact⟨kd.2::x,y,by simp[ba,e1,h1,hf],h2,rfl⟩
   ·cases h
  ·rename_i zs e1 e2;cases h;obtain⟨x,y,h1,h2,rfl⟩:=iM e2;exact⟨x,y,by simp[ba,e1,h1],h2,rfl⟩
  ·cases h
theorem j4{a:List D}{d:D}{x:List D}(h:ba r f a=NW x){y:List D}(h1:ba r f [d]=NW y):ba r f (a++[d])=NW (x++y):=by
 induction a generalizing x with
 |nil=>cases h;exact h1
 |cons e a ih=>
  unfold ba at h;rw[Ms];unfold ba;split at h
  ·rename_i kd zs e1 e2;split at h
   ·rename_i hf;cases h;rw[e1,ih e2];simp[hf]
   ·cases h
  ·rename_i zs e1 e2;cases h;rw[e1,ih e2]
  ·cases h
theorem pN{f:D->Option (Option KD)}{ds ys:List D}(h:ba r f ds=NW ys){i:Nat}{d:D}(e:ds[i]?=NW d){x:List D}(hx:ba r f (ds.take i)=NW x) :
  (f d=NW NX/\ba r f (ds.take (i+1))=NW x)\/∃kd,f d=NW (NW kd)/\cy r kd=NY/\ba r f (ds.take (i+1))=NW (x++[kd.2]):=by
 have hs:ds=ds.take i++(d::ds.drop (i+1)):=by
  obtain⟨hl,rfl⟩:=Lk.mp e;rw[<- MC hl,Nw]
 have ht:ds.take (i+1)=ds.take i++[d]:=by rw[L9,e];rfl
 rw[hs] at h;obtain⟨_,y,_,h2,_⟩:=iM h;unfold ba at h2;rw[ht];split at h2
 ·rename_i kd zs e1 e2;split at h2
  ·rename_i hf;exact .inr ⟨kd,e1,hf,j4 hx (by simp[ba,e1,hf])⟩
  ·cases h2
 ·rename_i zs e1 e2;exact .inl ⟨e1,by simpa using j4 hx (y:=[]) (by simp[ba,e1])⟩
 ·cases h2
noncomputable def lG(r:Ow)(it:Option (List Nat×List D))(f:D->Option (Option KD)):Option KD:=match it with
 |some (_,ds)=>if ds.length<=100000 then(match ba r f ds with|some ys=>NW (.fr (.own [] r),.lst ys)|none=>NX) else NX
 |none=>NX
theorem iN:∀{ds ys:List D},ba r f ds=NW ys->ys.length<=ds.length
 |[],ys,h=>by cases h;exact Lo _
 |d::ds,ys,h=>by
  unfold ba at h;split at h
  ·rename_i kd zs e1 e2;split at h
   ·cases h;have:=iN e2;simp;lia
   ·cases h
  ·rename_i zs e1 e2;cases h;have:=iN e2;simp;lia
  ·cases h
section
variable {K:Lh} {H:Hp} {S:Pr}
theorem TrL.snoc:∀{ds:List D} {r:Ow} {us:List V} {F F2:Pr} {d:D} {v:V},TrL K H S ds [] r us F->Tr K H S d r v F2->(∀b,F b->¬F2 b)->TrL K H S (ds++[d]) [] r (us++[v]) (λb=>F b\/F2 b)
 |[],r,us,F,F2,d,v,h,t,dj=>by
  unfold TrL at h;obtain⟨rfl,hn⟩:=h;show TrL K H S [d] [] r [v] _;unfold TrL;refine⟨v,[],F2,λ_=>False,rfl,λb=>⟨λz=>.inl (z.elim (λz=>absurd z (hn b)) id),λz=>z.elim .inr λz=>z.elim⟩,λ_ _ z=>z,t,?_⟩;unfold TrL;exact⟨rfl,λ_ z=>z⟩
 |e::ds,r,us,F,F2,d,v,h,t,dj=>by
  unfold TrL at h;obtain⟨y,ys,F1,F3,rfl,hF,dj1,h1,h2⟩:=h;show TrL K H S (e::(ds++[d])) [] r (y::(ys++[v])) _;unfold TrL;refine⟨y,ys++[v],F1,λb=>F3 b\/F2 b,rfl,λb=>?_,λb z1 z2=>?_,h1,TrL.snoc h2 t λb z=>dj b ((hF b).mpr (.inr z))⟩
  ·show F b\/F2 b↔F1 b\/F3 b\/F2 b;rw[hF b,or_assoc]
  ·rcases z2 with z2|z2
   ·exact dj1 b z1 z2
   ·exact dj b ((hF b).mpr (.inl z1)) z2
end
end J
namespace J
open PySem PySem.Spec L2
noncomputable def DO(X:Cx)(ifs:List N0):TT:=λσ H Q=>∀pins s,Inv X pins σ H s->N5 (N6 X.prog X.w) X.A (forIn ifs NY λc r=>if r=NY then do let ok <- isTrue c X.env (eval c X.env);pure (ForInStep.yield ok) else pure (ForInStep.yield r)) (TP X pins σ Q) X.xe s
theorem mP{tt:TT}(p:DM X ifs tt){σ:L2.St}{H:Hp}{Q:Bool->Hp->Prop}(h:tt σ H Q):DO X ifs σ H Q:=λpins s I=>p pins s σ H Q I h
noncomputable def n4(X:Cx)(f:Ro->Option Bool)(ifs:List N0):Prop:=∀ρ b,f ρ=NW b->∀g σ H Q,SE X.K g ρ σ H->(∀H',Same H H'->Q b H')->DO X ifs σ H Q
theorem Fl:n4 X (λ_=>NW NY) []:=λρ b h g σ H Q se q=>by cases h;exact mP qN (q H (Same.refl H))
theorem Fo{e:N0}(h:SndT X f e):n4 X f [e]:=λρ b hb g σ H Q se q=>mP (qO gX) (h ρ b hb g σ H Q se q)
section
variable {X:Cx} {Γ:fV} {c:Cz}
theorem vp(O:aC X Γ c){r:Ow}{fi:Ro->Option (List Nat×List D)}{ft:Ro->Option Bool}{fe:Ro->Option KD}{elt tg iter:N0}{ifs:List N0}{scope:Of}{t:IT}{n:Nat}(hck:bO c scope=NY)(hi:SndI X fi tg iter)
  (htg:oX ⟨gq scope c.sc,aA scope,gZ scope⟩ n tg=NW t)
  (hft:∀C s H ex,n4 (aX X (aA scope) scope C s H ex) ft ifs) (hfe:∀C s H ex,SndE (aX X (aA scope) scope C s H ex) fe elt)
  {ρ:Ro} {kd:Kd} {d:D} (h:lG r (fi ρ) (eL t ft fe (cC ρ (aO c scope)))=NW (kd,d)) {g:Gh} {σ:L2.St} {H:Hp} {Q:VK} (se:SE X.K g ρ σ H) (q:∀v H',Same H H'->VR X.K g H H' kd d v->Q v H') :
  iE (wI X tg iter) (λv σ H Q=>∀C s H0 ex,wG (aX X (aA scope) scope C s H0 ex) tg v σ H Q) (λσ H Q=>∀C s H0 ex,DO (aX X (aA scope) scope C s H0 ex) ifs σ H Q) (λσ H Q=>∀C s H0 ex,wE (aX X (aA scope) scope C s H0 ex) elt σ H Q) (aO c scope) σ H Q:=by
 have hcap:lF (aO c scope)=NY:=by
  simp only[bO,Lj] at hck;exact hck.1.2
 unfold lG at h;split at h
 ·rename_i bs ds hit;split at h
  ·rename_i hlen;split at h
   ·rename_i ys hm;cases h;have CO:=fG O hck;refine hi ρ bs ds hit g σ H _ se λjj src H1 s1 jt sp sf D hD=>?_;have se1:SE X.K (g.re (j3 (aO c scope))) (cC ρ (aO c scope)) (dQ σ (aO c scope)) H1:=(se.same s1).cap hcap;generalize hg':g.re (j3 (aO c scope))=g' at se1;have gS:∀b,Sg g' b↔Sg g b:=λb=>by rw[<- hg'];exact k7 b
    generalize hρ:cC ρ (aO c scope)=ρc at se1 hm;generalize hσ:dQ σ (aO c scope)=σc at se1;clear hρ hσ
    refine⟨λi m σ' H'=>m=ds.length-i/\i<=ds.length/\∃(Fi:Pr) (us:List V) (yi:List J.D),ba r (eL t ft fe ρc) (ds.take i)=NW yi/\(∀b,Fi b->H1 b=NX/\b≠D)/\SE X.K (g'.plus λb=>b=D\/Fi b) ρc σ' H'/\
      (∀b o,H1 b=NW o->H' b=NW o)/\H' D=NW (.lst us)/\TrL X.K H' (Sx g λb=>b=D\/Fi b) yi [] r us Fi,
     ⟨ds.length,by simp,LF _,λ_=>False,[],[],by simp[ba],λb z=>z.elim,?_,λb o e=>aq hD _ _ e,aG,by unfold TrL;exact⟨rfl,λ_ z=>z⟩⟩,?_⟩
    ·exact se1.plus (aq hD) (λb z=>z.elim (λz=>z▸hD) λz=>z.elim) λb z=>z.elim (λz=>⟨.lst [],z▸aG,λxs h=>by cases h⟩) λz=>z.elim
    rintro i m σ' H' ⟨rfl,hi',Fi,us,yi,hyi,hFi,se',kk,gD,tr⟩
    have gpS:∀b,Sg (g'.plus λb=>b=D\/Fi b) b↔Sx g (λb=>b=D\/Fi b) b:=λb=>(av b).trans (or_congr (gS b) Iff.rfl);have hnew:∀b o,H1 b=NW o->¬(b=D\/Fi b):=λb o e z=>z.elim (λz=>by rw[z,hD] at e;cases e) λz=>by rw[(hFi b z).1] at e;cases e
    have sp':src.P X.K (g'.plus λb=>b=D\/Fi b) H':=Src.mono (λb o e n z=>((gpS b).mp z).elim n (hnew b o e)) (λb o _ e=>kk b o e) (λa e=>sf.from_t e) sp;obtain⟨j1,j2⟩:=jt i _ H' sp' se'.mu;by_cases hlt:i<ds.length
    ·have hd:ds[i]?=NW ds[i]:=Lm hlt;obtain⟨go,yl⟩:=j2 _ hd;refine .inr ⟨go,λx H2 hy C s0 H0 ex=>?_⟩;obtain⟨s2,rx⟩:=yl x H2 hy;have st:=pN hm hd hyi
     have stuck:∃o,eL t ft fe ρc ds[i]=NW o:=by
      rcases st with⟨e,_⟩|⟨kd,e,_⟩
      ·exact⟨_,e⟩
      ·exact⟨_,e⟩
     obtain⟨o0,ho0⟩:=stuck;have he:=ho0;unfold eL at he;split at he
     ·rename_i ps hps;split at he
      ·rename_i hno;refine uY (qW (CO C s0 H0 ex) n htg) (js hps rx λvs hvs C1 s01 H01 ex1=>?_);have t1:=SE.setAll hvs (se'.same s2);obtain⟨t2,t3⟩:=SE.passAll hvs hno (se'.same s2);split at he
       ·rename_i hT
        -- the test holds
        refine hft C1 s01 H01 ex1 _ NY hT _ _ _ _ t1 λH3 s3=>uL λC2 s02 H02 ex2=>?_
        cases hke:fe (setAll ps ρc) with
        |none=>rw[hke] at he;cases he
        |some ke=>
         rw[hke] at he;cases he;obtain⟨ky,y⟩:=ke
         have st2:cy r (ky,y)=NY/\ba r (eL t ft fe ρc) (ds.take (i+1))=NW (yi++[y]):=by
          rcases st with⟨e,_⟩|⟨kd,e,e2,e3⟩
          ·rw[ho0] at e;cases e
          ·rw[ho0] at e;cases e;exact⟨e2,e3⟩
         refine hfe C2 s02 H02 ex2 _ ky y hke _ _ H3 _ (t1.same s3) λvy H4 s4 r4=>?_;obtain⟨Fy,y1,y2⟩:=r4;have Aq:Same H' H4:=(s2.trans s3).trans s4;have seE:SE X.K (g'.plus λb=>b=D\/Fi b) ρc (iK vs σ') H3:=t2.same s3
         have hgy:∀b,Fy b->(g'.plus λb=>b=D\/Fi b) b=NX:=λb z=>by
          cases e:(g'.plus λb=>b=D\/Fi b) b with
          |none=>rfl
          |some k=>
           obtain⟨o,q2,_⟩:=seE.mu b (by rw[Sg,e];simp);rw[y1 b z] at q2;cases q2
         have mm:MuOk H4 (Sx (g'.plus λb=>b=D\/Fi b) Fy):=λb z=>z.elim (λz=>seE.mu.same s4 b z) λz=>y2.dom b z;obtain⟨F2,a1,a2⟩:=VR1.fit (p:=(ky,y)) st2.1 mm hgy (λb z=>z) y2;have gD4:H4 D=NW (.lst us):=Aq _ _ gD;have nF2D:¬F2 D:=λz=>by have:=y1 D (a1 D z);rw[(s2.trans s3) _ _ gD] at this;cases this
         have nF2:∀b,F2 b->H' b=NX:=λb z=>(s2.trans s3).free (y1 b (a1 b z))
         have hul:us.length<=i:=by
          rw[tr.len];exact LM (iN hyi) (by rw[LU];lia)
         have kD:∀b o,b≠D->H4 b=NW o->upd H4 D (.lst (us++[vy])) b=NW o:=λb o n e=>by rw[al n];exact e
         refine⟨us,gD4,Mc hul (Lr hlt (bj hlen)),ds.length-(i+1),by lia,rfl,hlt,λb=>Fi b\/F2 b,us++[vy],yi++[y],st2.2,λb z=>?_,?_,λb o e=>?_,aG,?_⟩
         ·rcases z with z|z
          ·exact hFi b z
          ·refine⟨?_,λe=>nF2D (e▸z)⟩
           cases e:H1 b with
           |none=>rfl
           |some o=>have:=nF2 b z;rw[kk b o e] at this;cases this
         ·have e1:(g'.plus λb=>b=D\/(Fi b\/F2 b))=(g'.plus λb=>b=D\/Fi b).plus F2:=by
           rw[iL];congr 1;funext b;exact propext ⟨λz=>z.elim (λz=>.inl (.inl z)) λz=>z.elim (λz=>.inl (.inr z)) .inr,λz=>z.elim (λz=>z.elim .inl λz=>.inr (.inl z)) λz=>.inr (.inr z)⟩
          rw[e1];refine SE.upd (seE.plus s4 (λb z=>y1 b (a1 b z)) λb z=>y2.dom b (a1 b z)) ?_ (λxs h=>by cases h);rw[iL];exact bf (.inl (.inl rfl))
         ·exact kD b o (λz=>hnew b o e (.inl z)) (Aq _ _ (kk b o e))
         ·refine TrL.snoc (tr.go (λb o hb e=>kD b o (λz=>?_) (Aq _ _ e)) λb o e n z=>?_) ((a2 (λb=>g b≠NX\/b=D\/Fi b\/F2 b) λb z=>?_).go (λb o hb e=>kD b o (λz=>?_) e) λb o e n z=>n z) λb z1 z2=>?_
          ·subst z;exact hb.elim (λz=>z (.inr (.inl rfl))) λz=>(hFi b z).2 rfl
          ·rcases z with z|z|z|z
           ·exact n (.inl z)
           ·exact n (.inr (.inl z))
           ·exact n (.inr (.inr z))
           ·rw[nF2 b z] at e;cases e
          ·rcases z with z|z|z|z
           ·exact .inr (.inl ((gpS b).mpr (.inl z)))
           ·exact .inr (.inl ((gpS b).mpr (.inr (.inl z))))
           ·exact .inr (.inl ((gpS b).mpr (.inr (.inr z))))
           ·exact .inr (.inr (.inl z))
          ·subst z;exact hb.elim (λz=>z (.inr (.inl rfl))) nF2D
          ·obtain⟨o,e,_⟩:=tr.dom b z1;rw[nF2 b z2] at e;cases e
       ·rename_i hT;cases he
        have st2:ba r (eL t ft fe ρc) (ds.take (i+1))=NW yi:=by
         rcases st with⟨_,e⟩|⟨kd,e,_⟩
         ·exact e
         ·rw[ho0] at e;cases e
        refine hft C1 s01 H01 ex1 _ NZ hT _ _ _ _ t1 λH3 s3=>uK ?_;have tz:=s2.trans s3;exact⟨ds.length-(i+1),by lia,rfl,hlt,Fi,us,yi,st2,hFi,t2.same s3,λb o e=>tz _ _ (kk b o e),tz _ _ gD,tr.go (λb o _ e=>tz _ _ e) λ_ _ _ n=>n⟩
       ·cases he
      ·cases he
     ·cases he
    ·have e:i=ds.length:=by lia
     subst e;rw[Ma,hm] at hyi;cases hyi;refine .inl ⟨j1 (Lo _),q _ H' (λb o e=>kk b o (s1 _ _ e)) ⟨λb=>b=D\/Fi b,λb z=>s1.free (z.elim (λz=>z▸hD) λz=>(hFi b z).1),?_⟩⟩;show Tr _ _ _ _ _ _ _;unfold Tr
     exact⟨D,_,us,Fi,rfl,gD,rfl,λ_ z=>(hFi D z).2 rfl,(λh=>nomatch h),λb=>⟨λz=>z.imp (λz=>⟨rfl,z⟩) id,λz=>z.imp (λz=>z.2) id⟩,tr⟩
   ·cases h
  ·cases h
 ·cases h
noncomputable def dH:N0->Bool
 |.Set ..=>NZ
 |_=>NY
theorem eB(h:dH e=NY)(x:N1):foldedSetIterable e env x=pure x:=by
 cases e<;>first|rfl|cases h
theorem Cf(O:aC X Γ c){r:Ow}{fi:Ro->Option (List Nat×List D)}{ft:Ro->Option Bool}{fe:Ro->Option KD}{elt tg iter:N0}{ifs:List N0}{scope:Of}{pos:Pos}{t:IT}{n:Nat}(hck:bO c scope=NY)(hns:dH iter=NY)(hi:SndI X fi tg iter)
  (htg:oX ⟨gq scope c.sc,aA scope,gZ scope⟩ n tg=NW t)
  (hft:∀C s H ex,n4 (aX X (aA scope) scope C s H ex) ft ifs) (hfe:∀C s H ex,SndE (aX X (aA scope) scope C s H ex) fe elt) :
  SndE X (λρ=>lG r (fi ρ) (eL t ft fe (cC ρ (aO c scope)))) (.ListComp elt [⟨tg,iter,ifs,0⟩] scope pos):=by
 intro ρ kd d h g σ H Q se q
 exact aE (nM (N':=aA scope) (cap:=aO c scope) O.calm (gr O hck) xW
  (λC s H0 ex pins s' σ' H' v u Q' I r hh=>xX pins s' σ' H' v u Q' I r (hh C s H0 ex)) (λC s H0 ex pins s' σ' H' Q' I hh=>hh C s H0 ex pins s' I) (λC s H0 ex pins s' σ' H' Q' I hh=>hh C s H0 ex pins s' I) (eB hns)) (vp O hck hi htg hft hfe h se q)
end
end J
namespace J
open PySem PySem.Spec L2
mutual
inductive IE where
 |var (i:Nat)
 |lit (d:D)
 |bin (op:Oe) (a b:IE)
 |cmp (op:Om) (a b:IE)
 |chain (op op':Om) (a b d:IE)
 |neg (a:IE)
 |not (a:IE)
 |bool (op:BoolOp) (es:gu)
 |ifx (t a b:IE)
 |lst (k:Ow) (es:gu)
 |tup (k:Ow) (es:gu)
 |dnew (t:Nat) (r:Ow)
 |ix (a b:IE)
 |sl (a:IE) (lo hi:IO)
 |rev (a st:IE)
 |stp (a:IE) (lo:IO) (st:IE)
 |maxd (a b:IE)
 |idx (a b:IE)
 |lrng (a:IE)
 |lset (a:IE)
 |sset (a:IE)
 |lrev (a:IE)
 |dsp (k:D) (a:IE)
 |dspT (m:Nat) (k a:IE)
 |get (a k b:IE)
 |isi2 (T U:Str) (a:IE)
 |dspN (ks:List D) (es:gu)
 |isi (T:Str) (a:IE)
 |fld (f:Str) (a:IE)
 |fn (i:Nat) (es:gu)
 |blt (x:Str) (es:gu)
 |comp (r:Ow) (cap:List (Option Nat)) (tg:IT) (it:II) (ts:IO) (elt:IE)
inductive gu where
 |nil
 |cons (a:IE) (r:gu)
inductive IO where
 |non
 |som (a:IE)
inductive II where
 |e (a:IE)
 |rng (a b:IE)
 |enm (a:IE)
 |zp (a b:IE)
end
noncomputable def qY(t:Nat)(r:Ow):Option KD:=NW (.fr (.own [] r),.dic t [] [])
mutual
noncomputable def ak(Γ:Nat->Option Fn):IE->Ro->Option KD
 |.var i,ρ=>pD i ρ[i]?
 |.lit d,_=>NW (.sh,d)
 |.bin op a b,ρ=>u7 op (ak Γ a ρ) (ak Γ b ρ)
 |.cmp op a b,ρ=>bV (jY op (ak Γ a ρ) (ak Γ b ρ))
 |.chain op op' a b d,ρ=>NX
 |.neg a,ρ=>u8 (ak Γ a ρ)
 |.not a,ρ=>NX
 |.bool op es,ρ=>j5 Γ op es ρ
 |.ifx t a b,ρ=>EW (bp Γ t ρ) (ak Γ a ρ) (ak Γ b ρ)
 |.lst k es,ρ=>g6 k (a7 Γ es ρ)
 |.tup k es,ρ=>g7 k (a7 Γ es ρ)
 |.dnew t r,_=>qY t r
 |.ix a b,ρ=>qS (ak Γ a ρ) (ak Γ b ρ)
 |.sl a lo hi,ρ=>DN (ak Γ a ρ) (dZ Γ lo ρ) (dZ Γ hi ρ)
 |.rev a b,ρ=>pG (ak Γ a ρ) (ak Γ b ρ)
 |.stp a lo st,ρ=>tf (ak Γ a ρ) (dZ Γ lo ρ) (ak Γ st ρ)
 |.maxd a b,ρ=>NX
 |.idx a b,ρ=>NX
 |.lrng a,ρ=>lE (ak Γ a ρ)
 |.lset a,ρ=>NX
 |.sset a,ρ=>NX
 |.lrev a,ρ=>NX
 |.dsp k a,ρ=>NX
 |.dspN ks es,ρ=>NX
 |.dspT m k a,ρ=>i8 m (ak Γ k ρ) (ak Γ a ρ)
 |.get a k b,ρ=>NX
 |.isi T a,ρ=>tu T (ak Γ a ρ)
 |.isi2 T U a,ρ=>NX
 |.fld f a,ρ=>NX
 |.fn i es,ρ=>xu (Γ i) (a7 Γ es ρ)
 |.blt x es,ρ=>pI x (a7 Γ es ρ)
 |.comp r cap tg it ts elt,ρ=>lG r (d3 Γ it ρ) (eL tg (eC Γ ts) (ak Γ elt) (cC ρ cap))
noncomputable def bp(Γ:Nat->Option Fn):IE->Ro->Option Bool
 |.cmp op a b,ρ=>jY op (ak Γ a ρ) (ak Γ b ρ)
 |.chain op op' a b d,ρ=>fj op op' (ak Γ a ρ) (ak Γ b ρ) (ak Γ d ρ)
 |.not a,ρ=>(bp Γ a ρ).map (!·)
 |.bool op es,ρ=>fq Γ op es ρ
 |.var i,ρ=>mM (pD i ρ[i]?)
 |.ix a b,ρ=>mM (qS (ak Γ a ρ) (ak Γ b ρ))
 |.isi T a,ρ=>mM (tu T (ak Γ a ρ))
 |.isi2 T U a,ρ=>NX
 |.fn i es,ρ=>mM (xu (Γ i) (a7 Γ es ρ))
 |.blt x es,ρ=>mM (pI x (a7 Γ es ρ))
 |_,_=>NX
noncomputable def eC(Γ:Nat->Option Fn):IO->Ro->Option Bool
 |.non,_=>NW NY
 |.som a,ρ=>bp Γ a ρ
noncomputable def a7(Γ:Nat->Option Fn):gu->Ro->Option (List KD)
 |.nil,_=>NW []
 |.cons a r,ρ=>fW (ak Γ a ρ) (a7 Γ r ρ)
noncomputable def j5(Γ:Nat->Option Fn)(op:BoolOp):gu->Ro->Option KD
 |.nil,_=>NX
 |.cons a r,ρ=>match r with
  |.nil=>ak Γ a ρ
  |.cons _ _=>(match ak Γ a ρ with
   |some (_,.bl x)=>if(op==.And)=x then j5 Γ op r ρ else NW (.sh,.bl x)
   |_=>NX)
noncomputable def fq(Γ:Nat->Option Fn)(op:BoolOp):gu->Ro->Option Bool
 |.nil,_=>NX
 |.cons a r,ρ=>match r with
  |.nil=>bp Γ a ρ
  |.cons _ _=>(match bp Γ a ρ with
   |some x=>if(op==.And)=x then fq Γ op r ρ else NW x
   |none=>NX)
noncomputable def dZ(Γ:Nat->Option Fn):IO->Ro->Option (Option Int)
 |.non,_=>NW NX
 |.som a,ρ=>ym (ak Γ a ρ)
noncomputable def d3(Γ:Nat->Option Fn):II->Ro->Option (List Nat×List D)
 |.e a,ρ=>pJ (ak Γ a ρ)
 |.rng a b,ρ=>g9 (ak Γ a ρ) (ak Γ b ρ)
 |.enm a,ρ=>pK (ak Γ a ρ)
 |.zp a b,ρ=>nW (ak Γ a ρ) (ak Γ b ρ)
end
section
theorem yx:ak Γ (.var i) ρ=pD i ρ[i]?:=rfl
theorem qZ:ak Γ (.lit d) ρ=NW (.sh,d):=rfl
theorem yy:ak Γ (.bin op a b) ρ=u7 op (ak Γ a ρ) (ak Γ b ρ):=rfl
theorem yz:ak Γ (.cmp op a b) ρ=bV (jY op (ak Γ a ρ) (ak Γ b ρ)):=rfl
theorem yA:ak Γ (.neg a) ρ=u8 (ak Γ a ρ):=rfl
theorem hU:ak Γ (.bool op es) ρ=j5 Γ op es ρ:=rfl
theorem q8:ak Γ (.ifx t a b) ρ=EW (bp Γ t ρ) (ak Γ a ρ) (ak Γ b ρ):=rfl
theorem yB:ak Γ (.lst k es) ρ=g6 k (a7 Γ es ρ):=rfl
theorem yC:ak Γ (.tup k es) ρ=g7 k (a7 Γ es ρ):=rfl
theorem vq:ak Γ (.dnew t r) ρ=qY t r:=rfl
theorem Cg:ak Γ (.ix a b) ρ=qS (ak Γ a ρ) (ak Γ b ρ):=rfl
theorem Ch:ak Γ (.sl a lo hi) ρ=DN (ak Γ a ρ) (dZ Γ lo ρ) (dZ Γ hi ρ):=rfl
theorem yD:ak Γ (.rev a b) ρ=pG (ak Γ a ρ) (ak Γ b ρ):=rfl
theorem yE:ak Γ (.stp a lo st) ρ=tf (ak Γ a ρ) (dZ Γ lo ρ) (ak Γ st ρ):=rfl
theorem vt:ak Γ (.lrng a) ρ=lE (ak Γ a ρ):=rfl
theorem vA:ak Γ (.dspT m k a) ρ=i8 m (ak Γ k ρ) (ak Γ a ρ):=rfl
theorem yF:ak Γ (.isi T a) ρ=tu T (ak Γ a ρ):=rfl
theorem Cj{Γ:Nat->Option Fn}:ak Γ (.fn i es) ρ=xu (Γ i) (a7 Γ es ρ):=rfl
theorem yG:ak Γ (.blt x es) ρ=pI x (a7 Γ es ρ):=rfl
theorem n5:ak Γ (.comp r cap tg it ts elt) ρ=lG r (d3 Γ it ρ) (eL tg (eC Γ ts) (ak Γ elt) (cC ρ cap)):=rfl
theorem vB:bp Γ (.cmp op a b) ρ=jY op (ak Γ a ρ) (ak Γ b ρ):=rfl
theorem j6:bp Γ (.chain op op' a b d) ρ=fj op op' (ak Γ a ρ) (ak Γ b ρ) (ak Γ d ρ):=rfl
theorem vC:bp Γ (.not a) ρ=(bp Γ a ρ).map (!·):=rfl
theorem fH:bp Γ (.bool op es) ρ=fq Γ op es ρ:=rfl
end
structure Nms where
 fns:List Str
 cs:List (Str×D)
 an:Nat->Nat->Option Ow:=λ_ _=>NX
 md:Nat->Nat->Option Bool:=λ_ _=>NX
 io:Nat->Option (List Bool):=λ_=>NX
 vw:Nat->Nat->List Nat:=λ_ _=>[]
 cls:List (Str×List Str):=[]
noncomputable def cv(fns:Nms)(Γ:Nat->Option Fn)(fm:Str->Option (Lh->Sp)):fV:=⟨λx=>(bt x fns.fns).bind Γ,fm,λx=>fns.cs.lookup x,λx=>fns.cls.lookup x⟩
noncomputable def dS(f:N0->Option IE):List N0->Option gu
 |[]=>NW .nil
 |e::es=>if ar e then(match f e,dS f es with|some a,NW r=>NW (.cons a r)|_,_=>NX) else NX
noncomputable def dI(f:N0->Option IE):List N0->Option gu
 |[]=>NW .nil
 |e::es=>match f e,dI f es with|some a,NW r=>NW (.cons a r)|_,_=>NX
noncomputable def Ck(c:Cz)(f:N0->Option IE)(tg iter:N0):Option II:=
 match iter with
 |.Call (.Name x _) [a] [] _=>
  if x="range" then(if eh c.sc "range" && ar a then(f a).map (.rng (.lit (.int 0))) else NX)
  else if x="enumerate" then(if eh c.sc "enumerate" && ar a&&i9 tg then(f a).map .enm else NX)
  else(f iter).map .e
 |.Call (.Name x _) [a,b] [] _=>
  if x="range" then(if eh c.sc "range" && ar a&&ar b then(match f a,f b with|some a,NW b=>NW (.rng a b)|_,_=>NX) else NX)
  else if x="zip" then(if eh c.sc "zip" && ar a&&ar b&&i9 tg then(match f a,f b with|some a,NW b=>NW (.zp a b)|_,_=>NX) else NX)
  else(f iter).map .e
 |_=>(f iter).map .e
noncomputable def yH(f:N0->Option IE):Option N0->Option IO
 |none=>NW .non
 |some e=>(f e).map .som
noncomputable def pO(f:N0->Option IE):List N0->Option IO
 |[]=>NW .non
 |[e]=>(f e).map .som
 |_=>NX
noncomputable def vD(fns:Nms)(c:Cz)(f:N0->Option IE)(x:Str)(es:List N0):Option IE:=
 if eh c.sc x&&es.all ar then(match dS f es with|some ies=>(match bt x fns.fns with|some i=>(match fns.io i with|some _=>NX|none=>NW (.fn i ies))|none=>NW (.blt x ies))|none=>NX) else NX
noncomputable def yI:IE->Bool
 |.var _|.ix ..|.isi ..|.isi2 ..|.fn ..|.blt ..=>NY
 |_=>NZ
noncomputable def ja(o:Option IE):Option IE:=match o with|some ie=>if yI ie then NW ie else NX|none=>NX
noncomputable def Nms.kL(fns:Nms)(p:Pos):Ow:=(fns.an p.line p.col).getD bv
noncomputable def Nms.kT(fns:Nms)(p:Pos):Ow:=(fns.an p.line p.col).getD .fz
noncomputable def vE:Const->Option IE
 |.int i=>NW (.lit (.int i))
 |.bool i=>NW (.lit (.bl i))
 |.none=>NW (.lit .non)
 |.str x=>NW (.lit (.str x))
 |_=>NX
noncomputable def pP(f:N0->Option IE)(a:N0)(ops:List Om)(bs:List N0):Option IE:=match ops with
 |[]=>NX
 |op::ops=>match bs with
  |[]=>NX
  |b::bs=>match ops with
   |[]=>(match bs with
    |[]=>if Oj op b then NX else match f a,f b with|some a,NW b=>NW (.cmp op a b)|_,_=>NX
    |_::_=>NX)
   |op'::ops=>match ops with
    |_::_=>NX
    |[]=>match bs with
     |[]=>NX
     |d::bs=>match bs with
      |_::_=>NX
      |[]=>if Oj op' d then NX else match f a,f b,f d with|some a,NW b,NW d=>NW (.chain op op' a b d)|_,_,_=>NX
noncomputable def Iw:N0->Bool
 |.UnaryOp ..=>NY
 |_=>NZ
noncomputable def Cl(f:N0->Option IE)(a b:N0):Option IE:=match b with
 |.Slice lo hi st _=>(match st with
  |none=>(match f a,yH f lo,yH f hi with|some a,NW lo,NW hi=>NW (.sl a lo hi)|_,_,_=>NX)
  |some st=>(match hi with
   |some _=>NX
   |none=>if Iw st then(match lo with
    |some _=>NX
    |none=>(match f a,f st with|some a,NW b=>NW (.rev a b)|_,_=>NX)) else(match f a,yH f lo,f st with|some a,NW lo,NW b=>NW (.stp a lo b)|_,_,_=>NX)))
 |b=>if cR b then(match f a,f b with|some a,NW b=>NW (.ix a b)|_,_=>NX) else NX
noncomputable def vF(c:Cz)(f:N0->Option IE)(a:N0)(es:List N0):Option IE:=match es with
 |[]=>NX
 |e::es=>match es with
  |[]=>NX
  |e2::es=>match es with
   |_::_=>NX
   |[]=>match e with
    |.Name T _=>(match e2 with
     |.Name U _=>if eh c.sc "isinstance" && eh c.sc T&&eh c.sc U&&ar a then(f a).map (.isi2 T U) else NX
     |_=>NX)
    |_=>NX
noncomputable def Cm(c:Cz)(f:N0->Option IE)(as:List N0):Option IE:=match as with
 |[]=>NX
 |a::as=>match as with
  |[]=>NX
  |t::as=>match as with
   |_::_=>NX
   |[]=>match t with
    |.Name T _=>if eh c.sc "isinstance" && eh c.sc T&&ar a then(f a).map (.isi T) else NX
    |.Tuple es _ _=>vF c f a es
    |_=>NX
noncomputable def vG(c:Cz)(f:N0->Option IE)(g:N0)(as:List N0)(ks:List Keyword):Option IE:=match g with
 |.Name x _=>(match as with
  |[]=>NX
  |a::as=>(match as with
   |_::_=>NX
   |[]=>(match ks with
    |[]=>NX
    |k::ks=>(match ks with
     |_::_=>NX
     |[]=>if x="max"/\k.arg=NW "default"/\eh c.sc "max" = NY/\ar a=NY then(match f a,f k.value with|some a,NW b=>NW (.maxd a b)|_,_=>NX) else NX))))
 |_=>NX
noncomputable def vH(c:Cz)(f:N0->Option IE)(x:Str)(as:List N0):Option IE:=match as with
 |[]=>NX
 |a::as=>match as with
  |_::_=>NX
  |[]=>match a with
   |.Call g bs ks _=>(match g with
    |.Name y _=>(match bs with
     |[]=>NX
     |b::bs=>(match bs with
      |_::_=>NX
      |[]=>(match ks with
       |_::_=>NX
       |[]=>if x="list"/\y="range"/\eh c.sc "list" = NY/\eh c.sc "range" = NY/\ar b=NY then(f b).map .lrng else if x="len"/\y="set"/\eh c.sc "len" = NY/\eh c.sc "set" = NY/\ar b=NY then(f b).map .lset else if x="sorted"/\y="set"/\eh c.sc "sorted" = NY/\eh c.sc "set" = NY/\ar b=NY then(f b).map .sset else if x="list"/\y="reversed"/\eh c.sc "list" = NY/\eh c.sc "reversed" = NY/\ar b=NY then(f b).map .lrev else NX)))
    |_=>NX)
   |_=>NX
noncomputable def Fp(f:N0->Option IE)(o:N0)(m:Str)(ap:Pos)(as:List N0)(pos:Pos):Option IE:=NX
noncomputable def Ix(fns:Nms)(c:Cz)(f:N0->Option IE)(g:N0)(as:List N0)(ks:List Keyword)(pos:Pos):Option IE:=match ks with
 |k::ks=>vG c f g as (k::ks)
 |[]=>match g with
  |.Name x _=>if x="isinstance" then Cm c f as else(match as with
   |[]=>if eh c.sc x then(match bt x fns.fns with|some i=>(match fns.io i with|some _=>NX|none=>NW (.fn i .nil))|none=>NX) else NX
   |a::es=>match vH c f x (a::es) with|some r=>NW r|none=>vD fns c f x (a::es))
  |.Attribute o m ap=>Fp f o m ap as pos
  |_=>NX
noncomputable def Fs(fns:Nms)(c:Cz)(fE fT:Cz->N0->Option IE)(elt:N0)(gs:List Comprehension)(scope:Of)(p:Pos):Option IE:=match gs with
 |[]=>NX
 |g::gs=>match gs with
  |_::_=>NX
  |[]=>if g.is_async=0 then(if dH g.iter&&bO c scope then(match oX ⟨gq scope c.sc,aA scope,gZ scope⟩ 4 g.target,Ck c (fE c) g.target g.iter,pO (fT ⟨gq scope c.sc,aA scope,gZ scope⟩) g.ifs,fE ⟨gq scope c.sc,aA scope,gZ scope⟩ elt with
   |some t,NW it,NW ts,NW el=>NW (.comp ((fns.an p.line p.col).getD .fz) (aO c scope) t it ts el)|_,_,_,_=>NX) else NX) else NX
noncomputable def Iy(k:Option N0):Option D:=match k with
 |some k=>(match k with
  |.Constant z _ _=>(match vE z with
   |some z=>(match z with
    |.lit d=>NW d
    |_=>NX)
   |none=>NX)
  |_=>NX)
 |none=>NX
noncomputable def Ar(f:N0->Option IE):List (Option N0)->List N0->Option (List D×gu)
 |[],vs=>(match vs with|[]=>NW ([],.nil)|_::_=>NX)
 |k::ks,vs=>match vs with
  |[]=>NX
  |v::vs=>match Iy k,f v,Ar f ks vs with
   |some d,NW a,NW p=>NW (d::p.1,.cons a p.2)
   |_,_,_=>NX
noncomputable def yJ(f:N0->Option IE)(ks:List (Option N0))(vs:List N0):Option IE:=match ks with
 |[]=>NX
 |k::ks=>match ks with
  |k2::ks2=>(Ar f (k::k2::ks2) vs).map λp=>.dspN p.1 p.2
  |[]=>match vs with
   |[]=>NX
   |v::vs=>match vs with
    |_::_=>NX
    |[]=>match k with
     |none=>NX
     |some k=>(match k with
      |.Constant z _ _=>(match vE z with
       |some z=>(match z with
        |.lit d=>(f v).map (.dsp d)
        |_=>NX)
       |none=>NX)
      |_=>NX)
noncomputable def vI(m:Nat)(f:N0->Option IE)(ks:List (Option N0))(vs:List N0):Option IE:=match ks with
 |[]=>NX
 |k::ks=>match ks with
  |_::_=>NX
  |[]=>match vs with
   |[]=>NX
   |v::vs=>match vs with
    |_::_=>NX
    |[]=>match k with
     |none=>NX
     |some k=>(match f k,f v with|some a,NW b=>NW (.dspT m a b)|_,_=>NX)
theorem vJ{m:Nat}{f:N0->Option IE}(h:vI m f ks vs=NW ie):∃k v a b,ks=[NW k]/\vs=[v]/\f k=NW a/\f v=NW b/\ie=.dspT m a b:=by
 unfold vI at h
 repeat' split at h
 all_goals first|(cases h;done)|skip
 rename_i a b h1 h2;cases h;exact⟨_,_,a,b,rfl,rfl,h1,h2,rfl⟩
noncomputable def Ko:Ow->Nat
 |.fz=>1
 |.own es _=>if es.length=0 then 1 else es.length
noncomputable def KP:Ow->Ow
 |.fz=>.fz
 |.own _ r=>r
mutual
noncomputable def cE(fns:Nms):Nat->Cz->N0->Option IE
 |0,_,_=>NX
 |n+1,c,e=>match e with
  |.Name x p=>if eh c.sc x then(fns.cs.lookup x).map .lit else(match fns.md p.line p.col with|none=>(cX c x).map .var|some _=>NX)
  |.Constant v _ _=>vE v
  |.BinOp a op b _=>match cE fns n c a,cE fns n c b with|some a,NW b=>NW (.bin op a b)|_,_=>NX
  |.Compare a ops bs _=>pP (cE fns n c) a ops bs
  |.UnaryOp op a _=>(match op with|.USub=>(cE fns n c a).map .neg|.Not=>(cE fns n c a).map .not|_=>NX)
  |.BoolOp op es _=>(dI (cE fns n c) es).map (.bool op)
  |.IfExp t a b _=>match cT fns n c t,cE fns n c a,cE fns n c b with|some t,NW a,NW b=>NW (.ifx t a b)|_,_,_=>NX
  |.List es p=>(dS (cE fns n c) es).map (.lst (fns.kL p))
  |.Tuple es _ p=>(dS (cE fns n c) es).map (.tup (fns.kT p))
  |.Dict ks vs p=>(match ks with|k::ks'=>(match fns.an p.line p.col with|some o=>(match Ko o with|0=>yJ (cE fns n c) (k::ks') vs|m+1=>vI m (cE fns n c) (k::ks') vs)|none=>yJ (cE fns n c) (k::ks') vs)|[]=>(match vs with|_::_=>NX|[]=>NW (match fns.an p.line p.col with|some k=>.dnew (Ko k) (KP k)|none=>.dnew 0 .fz)))
  |.Subscript a b _=>Cl (cE fns n c) a b
  |.Attribute a f _=>if dR a then(cE fns n c a).map (.fld f) else NX
  |.Call g as ks pos=>Ix fns c (cE fns n c) g as ks pos
  |.ListComp elt gs scope p=>Fs fns c (cE fns n) (cT fns n) elt gs scope p
  |_=>NX
noncomputable def cT(fns:Nms):Nat->Cz->N0->Option IE
 |0,_,_=>NX
 |n+1,c,e=>match e with
  |.Compare a ops bs _=>pP (cE fns n c) a ops bs
  |.UnaryOp op a _=>(match op with|.Not=>(cT fns n c a).map .not|_=>NX)
  |.BoolOp op es _=>(dI (cT fns n c) es).map (.bool op)
  |.Name x p=>ja (cE fns n c (.Name x p))
  |.Call f as ks p=>ja (cE fns n c (.Call f as ks p))
  |.Subscript a b p=>ja (cE fns n c (.Subscript a b p))
  |_=>NX
end
theorem k8{f:Ro->Option KD}(h:∀ρ,f ρ=NX):SndE X f e:=λρ kd d hh=>by rw[h] at hh;cases hh
theorem aZ{α β:Type}{o:Option α}{g:α->β}{b:β}(h:o.map g=NW b):∃a,o=NW a/\b=g a:=by
 cases o with
 |none=>cases h
 |some a=>cases h;exact⟨a,rfl,rfl⟩
theorem ju(h:yI ie=NY):bp Γ ie=λρ=>mM (ak Γ ie ρ):=by
 funext ρ
 cases ie with
 |var i=>rfl
 |ix a b=>rfl
 |isi T a=>rfl
 |isi2 T U a=>rfl
 |fn i es=>rfl
 |blt x es=>rfl
 |_=>cases h
theorem j7(d:D):ak Γ (.lit d)=λ_=>NW (.sh,d):=by
 exact funext λ_=>rfl
theorem j8(h:ja o=NW ie):o=NW ie/\yI ie=NY:=by
 unfold ja at h;split at h
 ·split at h
  ·rename_i hk;cases h;exact⟨rfl,hk⟩
  ·cases h
 ·cases h
section
variable {X:Cx} {c:Cz} (fns:Nms) (Γ:Nat->Option Fn) {fm:Str->Option (Lh->Sp)}
theorem Cn{t:Nat}:SndE X (λ_=>qY t r) (.Dict [] [] pos):=by
 intro ρ kd d h g σ H Q se q;cases(show NW (Kd.fr (.own [] r),D.dic t [] [])=NW (kd,d) from h)
 have mk:∀{p:N2} {o:HO},H p=NX->eV X.K o (.dic t []) []->VR X.K g H (upd H p o) (.fr (.own [] r)) (.dic t [] []) (.ref p):=λ{p o} hp ho=>
  VRs.node (kds:=[]) (es:=[]) (r:=r) (vs:=[]) (hd:=.dic t []) rfl se.mu (Same.refl H) .nil hp ho rfl
 cases t with
 |zero=>exact aE uN λp hp=>q _ _ (aq hp) (mk hp (.inl ⟨rfl,[],rfl,rfl,rfl⟩))
 |succ m=>exact aE (uO (m:=m)) λp hp=>q _ _ (aq hp) (mk hp (.inr ⟨m,rfl,[],0,rfl,rfl,rfl⟩))
theorem fI{f:N0->Option IE}(hf:∀e ie,f e=NW ie->SndE X (ak Γ ie) e):∀{es:List N0} {ies:gu},dS f es=NW ies->jS X (a7 Γ ies) es/\es.all ar=NY
 |[],ies,h=>by
  cases h;refine⟨?_,rfl⟩;have:a7 Γ .nil=λ_=>NW []:=by funext ρ;rw[a7]
  rw[this];exact yf
 |e::es,ies,h=>by
  unfold dS at h;split at h
  ·rename_i hn;split at h
   ·rename_i a r ha hr;cases h;obtain⟨h1,h2⟩:=fI hf hr;refine⟨?_,by rw[L3,hn,h2];rfl⟩;have:a7 Γ (.cons a r)=λρ=>fW (ak Γ a ρ) (a7 Γ r ρ):=by funext ρ;rw[a7]
    rw[this];exact yg hn (hf e a ha) h1
   ·cases h
  ·cases h
theorem q9{f:N0->Option IE}(hf:∀e ie,f e=NW ie->SndE X (ak Γ ie) e)(op:BoolOp)(pos:Pos):∀{es:List N0} {ies:gu},dI f es=NW ies->SndE X (j5 Γ op ies) (.BoolOp op es pos)
 |[],ies,h=>by cases h;intro ρ k d h;unfold j5 at h;cases h
 |[a],ies,h=>by
  unfold dI dI at h;split at h
  ·rename_i a' r ha hr;cases h;cases hr;intro ρ k d h g σ H Q se q;unfold j5 at h;exact aE (A3 aB) (hf a a' ha ρ k d h g σ H Q se q)
  ·cases h
 |a::b::es,ies,h=>by
  unfold dI at h;split at h
  ·rename_i a' r ha hr;cases h;have rest:=q9 hf op pos hr
   have hr2:∃b' r',r=.cons b' r':=by
    unfold dI at hr;split at hr
    ·cases hr;exact⟨_,_,rfl⟩
    ·cases hr
   obtain⟨b',r',rfl⟩:=hr2;intro ρ k d h g σ H Q se q;unfold j5 at h;dsimp only at h;split at h
   ·rename_i ka x ea;split at h
    ·rename_i hx
     cases op with
     |And=>
      refine aE (uj aB aB) (hf a a' ha ρ _ _ ea g σ H _ se λv H1 s1 r=>⟨x,r.rd.bl,?_⟩);have:x=NY:=by rw[<- hx];rfl
      rw[if_pos this];exact rest ρ k d h g σ H1 Q (se.same s1) λv2 H2 s2 r2=>q v2 H2 (s1.trans s2) (r2.older s1)
     |Or=>
      refine aE (Ac aB aB) (hf a a' ha ρ _ _ ea g σ H _ se λv H1 s1 r=>⟨x,r.rd.bl,?_⟩);have:x=NZ:=by rw[<- hx];rfl
      rw[if_neg (by rw[this];decide)];exact rest ρ k d h g σ H1 Q (se.same s1) λv2 H2 s2 r2=>q v2 H2 (s1.trans s2) (r2.older s1)
    ·rename_i hx;cases h
     cases op with
     |And=>
      refine aE (uj aB aB) (hf a a' ha ρ _ _ ea g σ H _ se λv H1 s1 r=>⟨x,r.rd.bl,?_⟩)
      have:x=NZ:=by cases x with|true=>exact absurd rfl hx|false=>rfl
      subst this;rw[if_neg (by decide)];exact q _ H1 s1 EH
     |Or=>
      refine aE (Ac aB aB) (hf a a' ha ρ _ _ ea g σ H _ se λv H1 s1 r=>⟨x,r.rd.bl,?_⟩)
      have:x=NY:=by cases x with|false=>exact absurd rfl hx|true=>rfl
      subst this;rw[if_pos rfl];exact q _ H1 s1 EH
   ·cases h
  ·cases h
theorem rc{f:N0->Option IE}(hf:∀e ie,f e=NW ie->SndT X (bp Γ ie) e)(op:BoolOp)(pos:Pos):∀{es:List N0} {ies:gu},dI f es=NW ies->∀ρ r,fq Γ op ies ρ=NW r->∀g σ H Q,SE X.K g ρ σ H->(∀H',Same H H'->Q r H')->wW X (.BoolOp op es pos) σ H Q
 |[],ies,h,ρ,r,hr,g,σ,H,Q,se,q=>by cases h;unfold fq at hr;cases hr
 |[a],ies,h,ρ,r,hb,g,σ,H,Q,se,q=>by
  unfold dI dI at h;split at h
  ·rename_i a' r' ha hr;cases h;cases hr;unfold fq at hb;have h1:=hf a a' ha ρ r hb g σ H Q se q
   cases op with
   |And=>exact lz (xE gX) h1
   |Or=>exact lz (A1 gX) h1
  ·cases h
 |a::b::es,ies,h,ρ,r,hb,g,σ,H,Q,se,q=>by
  unfold dI at h;split at h
  ·rename_i a' r0 ha hr;cases h;have rest:=rc hf op pos hr ρ r
   have hr2:∃b' r',r0=.cons b' r':=by
    unfold dI at hr;split at hr
    ·cases hr;exact⟨_,_,rfl⟩
    ·cases hr
   obtain⟨b',r',rfl⟩:=hr2;unfold fq at hb;dsimp only at hb;split at hb
   ·rename_i x ea;split at hb
    ·rename_i hx
     cases op with
     |And=>
      refine lz (ui gX xV) (hf a a' ha ρ x ea g σ H _ se λH1 s1=>?_);have:x=NY:=by rw[<- hx];rfl
      rw[if_pos this];exact rest hb g σ H1 Q (se.same s1) λH2 s2=>q H2 (s1.trans s2)
     |Or=>
      refine lz (Ab gX xV) (hf a a' ha ρ x ea g σ H _ se λH1 s1=>?_);have:x=NZ:=by rw[<- hx];rfl
      rw[if_neg (by rw[this];decide)];exact rest hb g σ H1 Q (se.same s1) λH2 s2=>q H2 (s1.trans s2)
    ·rename_i hx;cases hb
     cases op with
     |And=>
      refine lz (ui gX xV) (hf a a' ha ρ r ea g σ H _ se λH1 s1=>?_)
      have:r=NZ:=by cases r with|true=>exact absurd rfl hx|false=>rfl
      subst this;rw[if_neg (by decide)];exact q H1 s1
     |Or=>
      refine lz (Ab gX xV) (hf a a' ha ρ r ea g σ H _ se λH1 s1=>?_)
      have:r=NY:=by cases r with|false=>exact absurd rfl hx|true=>rfl
      subst this;rw[if_pos rfl];exact q H1 s1
   ·cases hb
  ·cases h
theorem yK(O:aC X (cv fns Γ fm) c){f:N0->Option IE}(hf:∀e ie,f e=NW ie->SndE X (ak Γ ie) e){x:Str}{a:N0}{es:List N0}{p pos:Pos}{ie:IE}(h:vD fns c f x (a::es)=NW ie):SndE X (ak Γ ie) (.Call (.Name x p) (a::es) [] pos):=by
 unfold vD at h;split at h
 ·rename_i hg;rw[Lj,L3,Lj] at hg;split at h
  ·rename_i ies ha;have hA:=(fI Γ hf ha).1;split at h
   ·rename_i i hi;split at h
    ·cases h
    cases h
    have e:ak Γ (.fn i ies)=λρ=>xu ((cv fns Γ fm).fn x) (a7 Γ ies ρ):=by
     funext ρ;show xu (Γ i) (a7 Γ ies ρ)=_;unfold cv;dsimp only;rw[hi];rfl
    rw[e];exact Iv O hA hg.1 hg.2.1 hg.2.2
   ·cases h
    (have e:ak Γ (.blt x ies)=λρ=>pI x (a7 Γ ies ρ):=(by exact funext λ_=>rfl);rw[e];exact E6 O hA hg.1 hg.2.1 hg.2.2)
  ·cases h
 ·cases h
theorem vK(O:aC X (cv fns Γ fm) c){f:N0->Option IE}(hf:∀e ie,f e=NW ie->SndE X (ak Γ ie) e){tg iter:N0}{it:II}(h:Ck c f tg iter=NW it):SndI X (d3 Γ it) tg iter:=by
 have one:∀{it:II},(f iter).map .e=NW it->SndI X (d3 Γ it) tg iter:=λh=>by
  obtain⟨a,ha,rfl⟩:=aZ h
  (have e:d3 Γ (.e a)=λρ=>pJ (ak Γ a ρ):=(by exact funext λ_=>rfl);rw[e];exact E8 (hf _ _ ha))
 unfold Ck at h;split at h
 ·rename_i x p a pos;split at h
  ·rename_i hx;subst hx;split at h
   ·rename_i hg;rw[Lj] at hg;obtain⟨a',ha,rfl⟩:=aZ h
    (have e:d3 Γ (.rng (.lit (.int 0)) a')=λρ=>g9 (NW (.sh,.int 0)) (ak Γ a' ρ):=(by exact funext λ_=>rfl);rw[e];exact Ca O hg.1 hg.2 (hf _ _ ha))
   ·cases h
  ·split at h
   ·rename_i hx;subst hx;split at h
    ·rename_i hg;simp only[Lj] at hg;obtain⟨a',ha,rfl⟩:=aZ h
     (have e:d3 Γ (.enm a')=λρ=>pK (ak Γ a' ρ):=(by exact funext λ_=>rfl);rw[e];exact E9 O hg.1.1 hg.1.2 hg.2 (hf _ _ ha))
    ·cases h
   ·exact one h
 ·rename_i x p a b pos;split at h
  ·rename_i hx;subst hx;split at h
   ·rename_i hg;simp only[Lj] at hg;split at h
    ·rename_i a' b' ha hb;cases h
     (have e:d3 Γ (.rng a' b')=λρ=>g9 (ak Γ a' ρ) (ak Γ b' ρ):=(by exact funext λ_=>rfl);rw[e];exact Cb O hg.1.1 hg.1.2 hg.2 (hf _ _ ha) (hf _ _ hb))
    ·cases h
   ·cases h
  ·split at h
   ·rename_i hx;subst hx;split at h
    ·rename_i hg;simp only[Lj] at hg;split at h
     ·rename_i a' b' ha hb;cases h
      (have e:d3 Γ (.zp a' b')=λρ=>nW (ak Γ a' ρ) (ak Γ b' ρ):=(by exact funext λ_=>rfl);rw[e];exact Fe O hg.1.1.1 hg.1.1.2 hg.1.2 hg.2 (hf _ _ ha) (hf _ _ hb))
     ·cases h
    ·cases h
   ·exact one h
 ·exact one h
theorem vL{k:Nat}(h:vE v=NW ie):SndE X (ak Γ ie) (.Constant v k pos):=by
 cases v with
 |int i=>cases h;rw[j7];exact EM _ _ _
 |bool i=>cases h;rw[j7];exact Ij _ _ _
 |none=>cases h;rw[j7];exact EN _ _
 |str i=>cases h;rw[j7];exact EO _ _ _
 |_=>cases h
theorem rf{f:N0->Option IE}(h:pP f a ops bs=NW ie):(∃op b a' b',ops=[op]/\bs=[b]/\Oj op b=NZ/\f a=NW a'/\f b=NW b'/\ie=.cmp op a' b')\/(∃op op' b d a' b' d',ops=[op,op']/\bs=[b,d]/\Oj op' d=NZ/\f a=NW a'/\f b=NW b'/\f d=NW d'/\ie=.chain op op' a' b' d'):=by
 cases ops with
 |nil=>cases h
 |cons op ops=>cases bs with
  |nil=>cases h
  |cons b bs=>cases ops with
   |nil=>cases bs with
    |cons _ _=>cases h
    |nil=>
     dsimp only[pP] at h;split at h
     ·cases h
     ·rename_i hm;split at h
      ·rename_i a' b' ha hb;cases h;exact .inl ⟨op,b,a',b',rfl,rfl,by simpa using hm,ha,hb,rfl⟩
      ·cases h
   |cons op' ops=>cases ops with
    |cons _ _=>cases h
    |nil=>cases bs with
     |nil=>cases h
     |cons d bs=>cases bs with
      |cons _ _=>cases h
      |nil=>
       dsimp only[pP] at h;split at h
       ·cases h
       ·rename_i hm;split at h
        ·rename_i a' b' d' ha hb hd;cases h;exact .inr ⟨op,op',b,d,a',b',d',rfl,rfl,by simpa using hm,ha,hb,hd,rfl⟩
        ·cases h
theorem vM{f:N0->Option IE}(hf:∀e ie,f e=NW ie->SndE X (ak Γ ie) e){o:Option N0}{io:IO}(h:yH f o=NW io):sZ X (dZ Γ io) o:=by
 cases o with
 |none=>
  cases h;have e:dZ Γ .non=λ_=>NW NX:=by funext ρ;rw[dZ]
  rw[e];exact BO
 |some e=>
  obtain⟨a,ha,rfl⟩:=aZ h;have e:dZ Γ (.som a)=λρ=>ym (ak Γ a ρ):=by funext ρ;rw[dZ]
  rw[e];exact BQ (hf _ _ ha)
theorem rh{f:N0->Option IE}(hf:∀e ie,f e=NW ie->SndT X (bp Γ ie) e){o:List N0}{io:IO}(h:pO f o=NW io):n4 X (eC Γ io) o:=by
 unfold pO at h;split at h
 ·cases h;have e:eC Γ .non=λ_=>NW NY:=by funext ρ;rw[eC]
  rw[e];exact Fl
 ·obtain⟨a,ha,rfl⟩:=aZ h;have e:eC Γ (.som a)=bp Γ a:=by funext ρ;rw[eC]
  rw[e];exact Fo (hf _ _ ha)
 ·cases h
theorem vN{f:N0->Option IE}(hE:∀e ie,f e=NW ie->SndE X (ak Γ ie) e){ks:List (Option N0)}{vs:List N0}{pos:Pos}{ie:IE}(h:yJ f ks vs=NW ie):SndE X (ak Γ ie) (.Dict ks vs pos):=by
 cases ks with
 |nil=>cases h
 |cons k ks=>cases ks with
  |cons k2 ks2=>
   obtain⟨p,hp,rfl⟩:=aZ h;exact k8 λ_=>rfl
  |nil=>cases vs with
   |nil=>cases h
   |cons v vs=>cases vs with
    |cons _ _=>cases h
    |nil=>cases k with
     |none=>cases h
     |some k=>cases k with
      |Constant z j p=>
       dsimp only[yJ] at h
       cases hz:vE z with
       |none=>rw[hz] at h;cases h
       |some z'=>
        rw[hz] at h
        cases z' with
        |lit d=>
         obtain⟨a',ha,rfl⟩:=aZ h;have hk:=vL (X:=X) (k:=j) (pos:=p) Γ hz;rw[j7] at hk;exact k8 λ_=>rfl
        |_=>cases h
      |_=>cases h
theorem Co(O:aC X (cv fns Γ fm) c){f:N0->Option IE}(hE:∀e ie,f e=NW ie->SndE X (ak Γ ie) e){a b:N0}{pos:Pos}{ie:IE}(h:Cl f a b=NW ie):SndE X (ak Γ ie) (.Subscript a b pos):=by
 unfold Cl at h;split at h
 ·rename_i lo hi st p
  cases st with
  |none=>
   dsimp only at h;split at h
   ·rename_i a' lo' hi' ha hlo hhi;cases h
    (rw[show ak Γ (.sl a' lo' hi')=λρ=>DN (ak Γ a' ρ) (dZ Γ lo' ρ) (dZ Γ hi' ρ) from funext λ_=>rfl];exact Io (hE _ _ ha) (vM Γ hE hlo) (vM Γ hE hhi))
   ·cases h
  |some st=>cases hi with
   |some _=>cases h
   |none=>
    dsimp only at h;split at h
    ·cases lo with
     |some _=>cases h
     |none=>
      dsimp only at h;split at h
      ·rename_i a' b' ha hb;cases h
       (rw[show ak Γ (.rev a' b')=λρ=>pG (ak Γ a' ρ) (ak Γ b' ρ) from funext λ_=>rfl];exact E2 (hE _ _ ha) (hE _ _ hb))
      ·cases h
    ·split at h
     ·rename_i a' lo' b' ha hlo hb;cases h
      (rw[show ak Γ (.stp a' lo' b')=λρ=>tf (ak Γ a' ρ) (dZ Γ lo' ρ) (ak Γ b' ρ) from funext λ_=>rfl];exact E1 (hE _ _ ha) (vM Γ hE hlo) (hE _ _ hb))
     ·cases h
 ·split at h
  ·rename_i hp;split at h
   ·rename_i a' b' ha hb;cases h
    (rw[show ak Γ (.ix a' b')=λρ=>qS (ak Γ a' ρ) (ak Γ b' ρ) from funext λ_=>rfl];exact Im O (hE _ _ ha) (hE _ _ hb) hp)
   ·cases h
  ·cases h
theorem yL(O:aC X (cv fns Γ fm) c){f:N0->Option IE}(hE:∀e ie,f e=NW ie->SndE X (ak Γ ie) e){a:N0}{es:List N0}{kk:Nat}{p tp pos:Pos}{ie:IE}(h:vF c f a es=NW ie):SndE X (ak Γ ie) (.Call (.Name "isinstance" p) [a,.Tuple es kk tp] [] pos):=by
 cases es with
 |nil=>cases h
 |cons e es=>cases es with
  |nil=>cases h
  |cons e2 es=>cases es with
   |cons _ _=>cases h
   |nil=>
    dsimp only[vF] at h;split at h
    ·split at h
     ·split at h
      ·rename_i hg;simp only[Lj] at hg;obtain⟨a',ha,rfl⟩:=aZ h;exact k8 λ_=>rfl
      ·cases h
     ·cases h
    ·cases h
theorem Cp(O:aC X (cv fns Γ fm) c){f:N0->Option IE}(hE:∀e ie,f e=NW ie->SndE X (ak Γ ie) e){as:List N0}{p pos:Pos}{ie:IE}(h:Cm c f as=NW ie):SndE X (ak Γ ie) (.Call (.Name "isinstance" p) as [] pos):=by
 cases as with
 |nil=>cases h
 |cons a as=>cases as with
  |nil=>cases h
  |cons t as=>cases as with
   |cons _ _=>cases h
   |nil=>
    dsimp only[Cm] at h;split at h
    ·split at h
     ·rename_i hg;simp only[Lj] at hg;obtain⟨a',ha,rfl⟩:=aZ h
      (rw[show ak Γ (.isi _ a')=λρ=>tu _ (ak Γ a' ρ) from funext λ_=>rfl];exact Fh O hg.1.1 hg.1.2 hg.2 (hE _ _ ha))
     ·cases h
    ·exact yL fns Γ O hE h
    ·cases h
theorem Cq(O:aC X (cv fns Γ fm) c){f:N0->Option IE}(hE:∀e ie,f e=NW ie->SndE X (ak Γ ie) e){g:N0}{as:List N0}{ks:List Keyword}{pos:Pos}{ie:IE}(h:vG c f g as ks=NW ie):SndE X (ak Γ ie) (.Call g as ks pos):=by
 cases g with
 |Name x p=>cases as with
  |nil=>cases h
  |cons a as=>cases as with
   |cons _ _=>cases h
   |nil=>cases ks with
    |nil=>cases h
    |cons k ks=>cases ks with
     |cons _ _=>cases h
     |nil=>
      cases k with
      |mk kn kv kp=>
       dsimp only[vG] at h;split at h
       ·rename_i hc;obtain⟨rfl,rfl,h1,h2⟩:=hc;split at h
        ·rename_i a' b' ha hb;cases h;exact k8 λ_=>rfl
        ·cases h
       ·cases h
 |_=>cases h
theorem yM(O:aC X (cv fns Γ fm) c){f:N0->Option IE}(hE:∀e ie,f e=NW ie->SndE X (ak Γ ie) e){x:Str}{as:List N0}{p pos:Pos}{ie:IE}(h:vH c f x as=NW ie):SndE X (ak Γ ie) (.Call (.Name x p) as [] pos):=by
 cases as with
 |nil=>cases h
 |cons a as=>cases as with
  |cons _ _=>cases h
  |nil=>cases a with
   |Call g bs ks p2=>cases g with
    |Name y p3=>cases bs with
     |nil=>cases h
     |cons b bs=>cases bs with
      |cons _ _=>cases h
      |nil=>cases ks with
       |cons _ _=>cases h
       |nil=>
        dsimp only[vH] at h;split at h
        ·rename_i hc;obtain⟨rfl,rfl,h1,h2,h3⟩:=hc;obtain⟨a',ha,rfl⟩:=aZ h
         (rw[show ak Γ (.lrng a')=λρ=>lE (ak Γ a' ρ) from funext λ_=>rfl];exact BV O (cA O h1) (cA O h2) h3 (hE _ _ ha))
        ·split at h
         ·rename_i hc;obtain⟨rfl,rfl,h1,h2,h3⟩:=hc;obtain⟨a',ha,rfl⟩:=aZ h;exact k8 λ_=>rfl
         ·split at h
          ·rename_i hc;obtain⟨rfl,rfl,h1,h2,h3⟩:=hc;obtain⟨a',ha,rfl⟩:=aZ h;exact k8 λ_=>rfl
          ·split at h
           ·rename_i hc;obtain⟨rfl,rfl,h1,h2,h3⟩:=hc;obtain⟨a',ha,rfl⟩:=aZ h;exact k8 λ_=>rfl
           ·cases h
    |_=>cases h
   |_=>cases h
theorem Cr(O:aC X (cv fns Γ fm) c){f:N0->Option IE}(hE:∀e ie,f e=NW ie->SndE X (ak Γ ie) e){o:N0}{m:Str}{ap:Pos}{as:List N0}{pos:Pos}{ie:IE}(h:Fp f o m ap as pos=NW ie):SndE X (ak Γ ie) (.Call (.Attribute o m ap) as [] pos):=by cases h
theorem Fu(O:aC X (cv fns Γ fm) c){f:N0->Option IE}(hE:∀e ie,f e=NW ie->SndE X (ak Γ ie) e){g:N0}{as:List N0}{ks:List Keyword}{pos:Pos}{ie:IE}(h:Ix fns c f g as ks pos=NW ie):SndE X (ak Γ ie) (.Call g as ks pos):=by
 cases ks with
 |cons _ _=>exact Cq fns Γ O hE h
 |nil=>
  dsimp only[Ix] at h;split at h
  ·rename_i x p;split at h
   ·rename_i hx;subst hx;exact Cp fns Γ O hE h
   ·cases as with
    |cons a es=>
     dsimp only at h;split at h
     ·rename_i r hr;cases h;exact yM fns Γ O hE hr
     ·exact yK fns Γ O hE h
    |nil=>
     dsimp only at h;split at h
     ·rename_i hg;split at h
      ·rename_i i hi;split at h
       ·cases h
       ·cases h;rw[show ak Γ (.fn i .nil)=λρ=>xu (Γ i) (NW []) by exact funext λ_=>rfl];have:=Fk (p:=p) (pos:=pos) O hg;rw[show(cv fns Γ fm).fn x=Γ i from by show(bt x fns.fns).bind Γ=_;rw[hi];rfl] at this;exact this
      ·cases h
     ·cases h
  ·exact Cr fns Γ O hE h
  ·cases h
theorem Fw(O:aC X (cv fns Γ fm) c){fE fT:Cz->N0->Option IE}(ihE:∀X c,aC X (cv fns Γ fm) c->∀e ie,fE c e=NW ie->SndE X (ak Γ ie) e)(ihT:∀X c,aC X (cv fns Γ fm) c->∀e ie,fT c e=NW ie->SndT X (bp Γ ie) e){elt:N0}{gs:List Comprehension}{scope:Of}{pos:Pos}{ie:IE}(h:Fs fns c fE fT elt gs scope pos=NW ie):SndE X (ak Γ ie) (.ListComp elt gs scope pos):=by
 cases gs with
 |nil=>cases h
 |cons g gs=>cases gs with
  |cons _ _=>cases h
  |nil=>
   dsimp only[Fs] at h;split at h
   ·rename_i h0;split at h
    ·rename_i hn;rw[Lj] at hn;split at h
     ·rename_i t it ts el ht hit hts hel;cases h;rw[show ak Γ (.comp _ (aO c _) t it ts el)=λρ=>lG _ (d3 Γ it ρ) (eL t (eC Γ ts) (ak Γ el) (cC ρ (aO c _))) from funext λ_=>rfl];have CO:=fG O hn.2
      cases g with
      |mk tg iter ifs as=>
       subst h0;exact Cf O hn.2 hn.1 (vK fns Γ O (ihE X c O) hit) ht (λC s H ex=>rh Γ (ihT _ _ (CO C s H ex)) hts) (λC s H ex=>ihE _ _ (CO C s H ex) _ _ hel)
     ·cases h
    ·cases h
   ·cases h
end
section
variable (fns:Nms) (Γ:Nat->Option Fn) {fm:Str->Option (Lh->Sp)}
theorem dJ:∀n:Nat,(∀X c,aC X (cv fns Γ fm) c->∀e ie,cE fns n c e=NW ie->SndE X (ak Γ ie) e)/\(∀X c,aC X (cv fns Γ fm) c->∀e ie,cT fns n c e=NW ie->SndT X (bp Γ ie) e)
 |0=>⟨λX c O e ie h=>by (cases(show(NX:Option IE)=NW ie from h)),λX c O e ie h=>by (cases(show(NX:Option IE)=NW ie from h))⟩
 |n+1=>by
  obtain⟨ihE,ihT⟩:=dJ n;refine⟨λX c O e ie h=>?_,λX c O e ie h=>?_⟩
  ·have hE:=ihE X c O;have hT:=ihT X c O
   cases e with
   |Name x p=>
    dsimp only[cE] at h;split at h
    ·rename_i hg;obtain⟨d,hd,rfl⟩:=aZ h;have e:ak Γ (.lit d)=λ_=>NW (.sh,d):=by exact funext λ_=>rfl
     rw[e];exact EQ O hg hd p
    ·split at h
     ·obtain⟨i,hi,rfl⟩:=aZ h;have e:ak Γ (.var i)=λρ=>pD i ρ[i]?:=by exact funext λ_=>rfl
      rw[e];exact Ao O hi p
     ·cases h
   |Constant v k pos=>exact vL Γ h
   |BinOp a op b pos=>
    dsimp only[cE] at h;split at h
    ·rename_i a' b' ha hb;cases h
     (rw[show ak Γ (.bin _ a' b')=λρ=>u7 _ (ak Γ a' ρ) (ak Γ b' ρ) from funext λ_=>rfl];exact ER (hE _ _ ha) (hE _ _ hb))
    ·cases h
   |Compare a ops bs pos=>
    rcases rf (show pP (cE fns n c) a ops bs=NW ie from h) with⟨op,b,a',b',rfl,rfl,hm,ha,hb,rfl⟩|⟨op,op',b,d,a',b',d',rfl,rfl,hm,ha,hb,hd,rfl⟩
    ·(rw[show ak Γ (.cmp _ a' b')=λρ=>bV (jY _ (ak Γ a' ρ) (ak Γ b' ρ)) from funext λ_=>rfl];exact ES O hm (hE _ _ ha) (hE _ _ hb))
    ·exact k8 λ_=>rfl
   |UnaryOp op a pos=>cases op with
    |USub=>
     obtain⟨a',ha,rfl⟩:=aZ (show(cE fns n c a).map .neg=NW ie from h)
     (rw[show ak Γ (.neg a')=λρ=>u8 (ak Γ a' ρ) from funext λ_=>rfl];exact EU (hE _ _ ha))
    |Not=>
     obtain⟨a',ha,rfl⟩:=aZ (show(cE fns n c a).map .not=NW ie from h);exact k8 λ_=>rfl
    |_=>cases h
   |BoolOp op es pos=>
    obtain⟨a',ha,rfl⟩:=aZ (show(dI (cE fns n c) es).map (.bool op)=NW ie from h)
    (rw[show ak Γ (.bool _ a')=j5 Γ _ a' from funext λ_=>rfl];exact q9 Γ hE _ _ ha)
   |IfExp t a b pos=>
    dsimp only[cE] at h;split at h
    ·rename_i t' a' b' ht ha hb;cases h
     (rw[show ak Γ (.ifx t' a' b')=λρ=>EW (bp Γ t' ρ) (ak Γ a' ρ) (ak Γ b' ρ) from funext λ_=>rfl];exact Ik (hT _ _ ht) (hE _ _ ha) (hE _ _ hb))
    ·cases h
   |List es p=>
    obtain⟨a',ha,rfl⟩:=aZ (show(dS (cE fns n c) es).map (.lst (fns.kL p))=NW ie from h)
    (rw[show ak Γ (.lst _ a')=λρ=>g6 _ (a7 Γ a' ρ) from funext λ_=>rfl];exact EX (fI Γ hE ha).1)
   |Tuple es k p=>
    obtain⟨a',ha,rfl⟩:=aZ (show(dS (cE fns n c) es).map (.tup (fns.kT p))=NW ie from h)
    (rw[show ak Γ (.tup _ a')=λρ=>g7 _ (a7 Γ a' ρ) from funext λ_=>rfl];exact EY (fI Γ hE ha).1)
   |Dict ks vs p=>cases ks with
    |cons k ks'=>
     dsimp only[cE] at h;split at h
     ·split at h
      ·exact vN Γ hE h
      obtain⟨k',v',a',b',e1,rfl,ha,hb,rfl⟩:=vJ h;cases e1
      (rw[show ∀m,ak Γ (.dspT m a' b')=λρ=>i8 m (ak Γ a' ρ) (ak Γ b' ρ) by intro m;exact funext λ_=>rfl];exact BW O (hE _ _ ha) (hE _ _ hb))
     ·exact vN Γ hE h
    |nil=>cases vs with
     |cons _ _=>cases h
     |nil=>
      have dn:∀t r,SndE X (ak Γ (.dnew t r)) (.Dict [] [] p):=λt r=>by
       (rw[show ak Γ (.dnew t r)=λ_=>qY t r from funext λ_=>rfl];exact Cn)
      dsimp only[cE] at h;cases h
      split<;>exact dn _ _
   |Subscript a b pos=>exact Co fns Γ O hE h
   |Attribute a f pos=>
    dsimp only[cE] at h;split at h
    ·rename_i hb;obtain⟨a',ha,rfl⟩:=aZ h;exact k8 λ_=>rfl
    ·cases h
   |Call g as ks pos=>exact Fu fns Γ O hE h
   |ListComp elt gs scope pos=>exact Fw fns Γ O ihE ihT h
   |_=>cases h
  ·have hE:=ihE X c O;have hT:=ihT X c O
   cases e with
   |Compare a ops bs pos=>
    rcases rf (show pP (cE fns n c) a ops bs=NW ie from h) with⟨op,b,a',b',rfl,rfl,hm,ha,hb,rfl⟩|⟨op,op',b,d,a',b',d',rfl,rfl,hm,ha,hb,hd,rfl⟩
    ·(rw[show bp Γ (.cmp _ a' b')=λρ=>jY _ (ak Γ a' ρ) (ak Γ b' ρ) from funext λ_=>rfl];exact ET O hm (hE _ _ ha) (hE _ _ hb))
    ·(rw[show bp Γ (.chain _ _ a' b' d')=λρ=>fj _ _ (ak Γ a' ρ) (ak Γ b' ρ) (ak Γ d' ρ) from funext λ_=>rfl];exact ye O hm (hE _ _ ha) (hE _ _ hb) (hE _ _ hd))
   |UnaryOp op a pos=>cases op with
    |Not=>
     obtain⟨a',ha,rfl⟩:=aZ (show(cT fns n c a).map .not=NW ie from h)
     (rw[show bp Γ (.not a')=λρ=>(bp Γ a' ρ).map (!·) from funext λ_=>rfl];exact EV (hT _ _ ha))
    |_=>cases h
   |BoolOp op es pos=>
    obtain⟨a',ha,rfl⟩:=aZ (show(dI (cT fns n c) es).map (.bool op)=NW ie from h)
    (rw[show bp Γ (.bool _ a')=fq Γ _ a' from funext λ_=>rfl];exact λρ b h g σ H Q se q=>λpins s I=>rc Γ hT _ _ ha ρ b h g σ H Q se q _ pins s I)
   |Name x p=>
    obtain⟨h1,h2⟩:=j8 (show ja (cE fns n c _)=NW ie from h);rw[ju h2];exact u9 (hE _ _ h1) (λ_=>rfl)
   |Call g as ks p=>
    obtain⟨h1,h2⟩:=j8 (show ja (cE fns n c _)=NW ie from h);rw[ju h2];exact u9 (hE _ _ h1) (λ_=>rfl)
   |Subscript a b p=>
    obtain⟨h1,h2⟩:=j8 (show ja (cE fns n c _)=NW ie from h);rw[ju h2];exact u9 (hE _ _ h1) (λ_=>rfl)
   |_=>cases h
end
end J
namespace J
open PySem PySem.Spec L2
structure Evo(g:Gh)(H:Hp)(g':Gh)(H':Hp)(F:Pr):Prop where
 keep:∀b o,(∀i,g b≠NW (NW i))->H b=NW o->H' b=NW o
 out:∀b,g b=NW NX↔g' b=NW NX
 new:∀b i,g' b=NW (NW i)->(∃j,g b=NW (NW j))\/H b=NX
 tmp:∀b,F b->g' b=NX/\((∃j,g b=NW (NW j))\/H b=NX)
 dom:∀b o,H b=NW o->∃o',H' b=NW o'
section
variable {K:Lh} {H H' H1 H2:Hp} {g g' g1 g2:Gh} {F F1 F2:Pr}
theorem Evo.refl(g:Gh)(H:Hp):Evo g H g H (λ_=>False):=⟨λ_ _ _ e=>e,λ_=>Iff.rfl,λb i e=>.inl ⟨i,e⟩,λ_ z=>z.elim,λ_ o e=>⟨o,e⟩⟩
theorem Evo.froz(e:Evo g H g' H' F){b:N2}{o:HO}(h:H b=NW o)(n:g b=NX):g' b=NX/\¬F b:=by
 refine⟨?_,λz=>?_⟩
 ·cases q:g' b with
  |none=>rfl
  |some x=>
   cases x with
   |none=>have:=(e.out b).mpr q;rw[n] at this;cases this
   |some i=>
    rcases e.new b i q with⟨j,q⟩|q
    ·rw[n] at q;cases q
    ·rw[h] at q;cases q
 ·rcases(e.tmp b z).2 with⟨j,q⟩|q
  ·rw[n] at q;cases q
  ·rw[h] at q;cases q
open Classical in
noncomputable def Gh.minus(g:Gh)(F:Pr):Gh:=λb=>if F b then NX else g b
theorem hV(h:F b):g.minus F b=NX:=by unfold Gh.minus;rw[if_pos h]
theorem bL(h:¬F b):g.minus F b=g b:=by unfold Gh.minus;rw[if_neg h]
theorem j9(h:g.minus F b=NW x):g b=NW x/\¬F b:=by
 unfold Gh.minus at h;split at h
 ·cases h
 ·rename_i n;exact⟨h,n⟩
theorem cj(h:¬F b):g.plus F b=g b:=by unfold Gh.plus;rw[if_neg h]
theorem Evo.trans(a:Evo g H g1 H1 F1)(b:Evo (g1.plus F1) H1 g2 H2 F2):Evo g H (g2.minus F1) H2 (λb=>F1 b\/F2 b):=by
 have of2:∀c,¬F1 c->∀j,(g1.plus F1) c=NW (NW j)->(∃k,g c=NW (NW k))\/H c=NX:=λc n j e=>by
  rw[cj n] at e;exact a.new c j e
 have h1:∀c,H1 c=NX->H c=NX:=λc q=>by
  cases e:H c with
  |none=>rfl
  |some o=>obtain⟨o',q'⟩:=a.dom c o e;rw[q] at q';cases q'
 refine⟨λc o n e=>?_,λc=>⟨λq=>?_,λq=>?_⟩,λc i q=>?_,λc z=>?_,λc o e=>?_⟩
 ·refine b.keep c o (λi q=>?_) (a.keep c o n e);have nf:=bM q;rcases a.new c i nf with⟨j,q⟩|q
  ·exact n j q
  ·rw[e] at q;cases q
 ·have nF:¬F1 c:=λz=>by
   have:=(a.tmp c z).1;rw[(a.out c).mp q] at this;cases this
  rw[bL nF];exact(b.out c).mp (by rw[cj nF];exact(a.out c).mp q)
 ·obtain⟨q1,nF⟩:=j9 q;have:=(b.out c).mpr q1;rw[cj nF] at this;exact(a.out c).mpr this
 ·obtain⟨q1,nF⟩:=j9 q;rcases b.new c i q1 with⟨j,q⟩|q
  ·exact of2 c nF j q
  ·exact .inr (h1 c q)
 ·rcases z with z|z
  ·exact⟨hV z,(a.tmp c z).2⟩
  ·obtain⟨t1,t2⟩:=b.tmp c z;by_cases zF:F1 c
   ·exact⟨hV zF,(a.tmp c zF).2⟩
   ·refine⟨by rw[bL zF];exact t1,?_⟩;rcases t2 with⟨j,q⟩|q
    ·exact of2 c zF j q
    ·exact .inr (h1 c q)
 ·obtain⟨o1,e1⟩:=a.dom c o e;exact b.dom c o1 e1
theorem VR1.evo(hb:bZ kd=NZ)(b:Evo (g1.plus F1) H1 g2 H2 F2)(h:VR1 K H1 g1 F1 kd d v F1):VR1 K H2 (g2.minus F1) (λc=>F1 c\/F2 c) kd d v F1:=by
 have k1:∀c o,(¬Sx g1 F1 c\/F1 c)->H1 c=NW o->H2 c=NW o:=λc o n e=>by
  refine b.keep c o (λi q=>?_) e;rcases n with n|n
  ·exact n (.inl (by rw[bM q];simp))
  ·rw[bf n] at q;cases q
 have k2:∀c o,H1 c=NW o->¬Sx g1 F1 c->¬Sx (g2.minus F1) (λc=>F1 c\/F2 c) c:=λc o e n z=>by
  have nF:¬F1 c:=λz=>n (.inr z)
  have gn:(g1.plus F1) c=NX:=by
   rw[cj nF]
   cases q:g1 c with
   |none=>rfl
   |some x=>exact absurd (.inl (by rw[q];simp)) n
  obtain⟨f1,f2⟩:=b.froz e gn;rcases z with z|z|z
  ·rw[bL nF] at z;exact z f1
  ·exact nF z
  ·exact f2 z
 cases kd with
 |sh=>exact⟨h.1,h.2.go λc o n e=>⟨k1 c o (.inl n) e,k2 c o e n⟩⟩
 |fr k=>exact Tr.go k1 k2 h
 |bo i k=>cases hb
theorem Cs(b:Evo (g1.plus F1) H1 g2 H2 F2)(c:N2):Sx (g2.minus F1) (λc=>F1 c\/F2 c) c↔Sx g2 F2 c:=by
 by_cases h:F1 c
 ·have:g2 c=NW NX:=(b.out c).mp (bf h);exact⟨λ_=>.inl (by rw[this];simp),λ_=>.inr (.inl h)⟩
 ·refine⟨λz=>z.elim (λz=>.inl (by rw[bL h] at z;exact z)) λz=>z.elim (λz=>absurd z h) .inr,λz=>z.elim (λz=>.inl (by rw[bL h];exact z)) λz=>.inr (.inr z)⟩
theorem hZ(b:Evo (g1.plus F1) H1 g2 H2 F2):(g2.minus F1).plus (λc=>F1 c\/F2 c)=g2.plus F2:=by
 funext c;by_cases h2:F2 c
 ·rw[bf h2,bf (.inr h2)]
 ·by_cases h:F1 c
  ·rw[bf (.inl h),cj h2];exact((b.out c).mp (bf h)).symm
  ·rw[cj h2,cj (λz=>z.elim h h2),bL h]
theorem VR1.evoR(b:Evo (g1.plus F1) H1 g2 H2 F2)(h:VR1 K H2 g2 F2 kd d v F):VR1 K H2 (g2.minus F1) (λc=>F1 c\/F2 c) kd d v F:=by
 have k2:∀c o,H2 c=NW o->¬Sx g2 F2 c->¬Sx (g2.minus F1) (λc=>F1 c\/F2 c) c:=λc o _ n z=>n ((Cs b c).mp z)
 cases kd with
 |sh=>exact⟨h.1,h.2.go λc o n e=>⟨e,k2 c o e n⟩⟩
 |fr k=>exact Tr.go (λ_ _ _ e=>e) k2 h
 |bo i k=>
  obtain⟨h1,F0,h2,h3⟩:=h;refine⟨h1,F0,λc z=>?_,Tr.go (λ_ _ _ e=>e) k2 h3⟩;rw[bL (λz1=>?_)]
  ·exact h2 c z
  ·have:=h2 c z;rw[(b.out c).mp (bf z1)] at this;cases this
theorem VRL.evoR(b:Evo (g1.plus F1) H1 g2 H2 F2):∀{kds:List KD} {vs:List V} {F:Pr},VRL K H2 g2 F2 kds vs F->VRL K H2 (g2.minus F1) (λc=>F1 c\/F2 c) kds vs F
 |[],_,_,h=>h
 |(kd,d)::r,_,_,h=>by
  obtain⟨y,ys,G1,G2,e,hF,dj,h1,h2⟩:=h;exact⟨y,ys,G1,G2,e,hF,dj,h1.evoR b,VRL.evoR b h2⟩
theorem n6(hb:bZ kd=NZ)(a:Evo g H g1 H1 F1)(r1:VR1 K H1 g1 F1 kd d v F1)(b:Evo (g1.plus F1) H1 g2 H2 F2)(se:SE K (g2.plus F2) ρ2 σ H2)(r2:VRL K H2 g2 F2 kds vs F2) :
  Evo g H (g2.minus F1) H2 (λc=>F1 c\/F2 c)/\SE K ((g2.minus F1).plus (λc=>F1 c\/F2 c)) ρ2 σ H2/\VRL K H2 (g2.minus F1) (λc=>F1 c\/F2 c) ((kd,d)::kds) (v::vs) (λc=>F1 c\/F2 c):=by
 refine⟨a.trans b,by rw[hZ b];exact se,v,vs,F1,F2,rfl,λc=>Iff.rfl,λc z1 z2=>?_,r1.evo hb b,r2.evoR b⟩;have:=(b.out c).mp (bf z1);rw[(b.tmp c z2).1] at this;cases this
end
noncomputable abbrev MR:=Option (Kd×D×Ro)
noncomputable def bF(X:Cx)(f:Ro->MR)(e:N0):Prop:=∀ρ kd d ρ',f ρ=NW (kd,d,ρ')->∀g σ H Q,SE X.K g ρ σ H->
 (∀v g' H' F,Evo g H g' H' F->SE X.K (g'.plus F) ρ' σ H'->VR1 X.K H' g' F kd d v F->Q v H')->wE X e σ H Q
noncomputable def kf(X:Cx)(f:Ro->Option (List KD×Ro))(es:List N0):Prop:=∀ρ kds ρ',f ρ=NW (kds,ρ')->∀g σ H Q,SE X.K g ρ σ H->
 (∀vs g' H' F,Evo g H g' H' F->SE X.K (g'.plus F) ρ' σ H'->VRL X.K H' g' F kds vs F->Q vs H')->wA X es σ H Q
noncomputable def fY(X:Cx)(f:Ro->Option (Bool×Ro))(e:N0):Prop:=∀ρ b ρ',f ρ=NW (b,ρ')->∀g σ H Q,SE X.K g ρ σ H->
 (∀g' H',Evo g H g' H' (λ_=>False)->SE X.K g' ρ' σ H'->Q b H')->wT X e σ H Q
section
variable {X:Cx}
theorem eD{g:Gh}{H H':Hp}{F:Pr}(s:Same H H')(hF:∀b,F b->H b=NX)(hg:∀b,F b->g b=NX):Evo g H g H' F:=
 ⟨λb o _ e=>s b o e,λ_=>Iff.rfl,λb i e=>.inl ⟨i,e⟩,λb z=>⟨hg b z,.inr (hF b z)⟩,λb o e=>⟨o,s b o e⟩⟩
theorem fJ{g:Gh}{H:Hp}(m:MuOk H (Sg g)){b:N2}(h:H b=NX):g b=NX:=by
 cases e:g b with
 |none=>rfl
 |some x=>obtain⟨o,q,_⟩:=m b (by rw[Sg,e];simp);rw[h] at q;cases q
theorem SndE.m{f:Ro->Option KD}(h:SndE X f e):bF X (λρ=>(f ρ).map λp=>(p.1,p.2,ρ)) e:=by
 intro ρ kd d ρ' hr g σ H Q se q;dsimp only at hr
 cases hf:f ρ with
 |none=>rw[hf] at hr;cases hr
 |some p=>
  rw[hf] at hr;cases hr;refine h ρ p.1 p.2 hf g σ H Q se λv H' s ⟨F,h1,h2⟩=>?_;exact q v g H' F (eD s h1 λb z=>fJ se.mu (h1 b z)) (se.plus s h1 h2.dom) h2
theorem SndT.m{f:Ro->Option Bool}(h:SndT X f e):fY X (λρ=>(f ρ).map λp=>(p,ρ)) e:=by
 intro ρ b ρ' hr g σ H Q se q;dsimp only at hr
 cases hf:f ρ with
 |none=>rw[hf] at hr;cases hr
 |some p=>
  rw[hf] at hr;cases hr;exact h ρ b hf g σ H Q se λH' s=>q g H' (eD s (λ_ z=>z.elim) λ_ z=>z.elim) (se.same s)
noncomputable def d9(kd:Kd)(d:D):Kd:=match kd with
 |.bo i k=>if jQ d=NY then .sh else .bo i k
 |k=>k
theorem VR1.im{g:Gh}(m:MuOk H (Sg (g.plus F)))(h:VR1 K H g F kd d v F):VR1 K H g F (d9 kd d) d v F:=by
 cases kd with
 |sh=>exact h
 |fr k=>exact h
 |bo i k=>
  unfold d9;dsimp only;split
  ·rename_i hi;refine⟨h.1,h.rd.im (λb z=>m b ((av b).mpr z)) hi⟩
  ·exact h
noncomputable def gw(a:MR)(r:Ro->Option (List KD×Ro)):Option (List KD×Ro):=match a with
 |some (kd,d,ρ1)=>if bZ (d9 kd d)=NY then NX else(match r ρ1 with|some (kds,ρ2)=>NW ((d9 kd d,d)::kds,ρ2)|none=>NX)
 |none=>NX
theorem yN{fa:Ro->MR}(hn:ar e=NY)(ha:bF X fa e)(hr:kf X fr es):kf X (λρ=>gw (fa ρ) fr) (e::es):=by
 intro ρ kds ρ' h g σ H Q se q;dsimp only[gw] at h;split at h
 ·rename_i kd d ρ1 e1;split at h
  ·cases h
  ·rename_i hb;split at h
   ·rename_i kds' ρ2 e2;cases h;refine jR (bd aB dE (ao hn)) (ha ρ kd d ρ1 e1 g σ H _ se λv g1 H1 F1 ev1 se1 r1=>hr ρ1 kds' ρ' e2 (g1.plus F1) σ H1 _ se1 λvs g2 H2 F2 ev2 se2 r2=>?_);obtain⟨c1,c2,c3⟩:=n6 (by simpa using hb) ev1 (r1.im se1.mu) ev2 se2 r2;exact q (v::vs) _ H2 _ c1 c2 c3
   ·cases h
 ·cases h
noncomputable def fZ(a:MR)(r:Ro->Option (List KD)):Option (List KD×Ro):=match a with
 |some (kd,d,ρ1)=>(match r ρ1 with|some kds=>NW ((kd,d)::kds,ρ1)|none=>NX)
 |none=>NX
theorem rj{g g1:Gh}(a:Evo g H g1 H1 F1)(se:SE K (g1.plus F1) ρ1 σ H1)(r1:VR1 K H1 g1 F1 kd d v F1)(s:Same H1 H2)(r2:VRs K (g1.plus F1) H1 H2 kds vs) :
  ∃F,Evo g H g1 H2 F/\SE K (g1.plus F) ρ1 σ H2/\VRL K H2 g1 F ((kd,d)::kds) (v::vs) F:=by
 obtain⟨F2,b1,b2⟩:=r2
 have hd:∀c,F2 c->g1 c=NX/\¬F1 c:=λc z=>by
  have:=fJ se.mu (b1 c z);by_cases h:F1 c
  ·rw[bf h] at this;cases this
  ·rw[cj h] at this;exact⟨this,h⟩
 have h1:∀c,H1 c=NX->H c=NX:=λc q=>by
  cases e:H c with
  |none=>rfl
  |some o=>obtain⟨o',q'⟩:=a.dom c o e;rw[q] at q';cases q'
 refine⟨λc=>F1 c\/F2 c,⟨λc o n e=>s c o (a.keep c o n e),a.out,a.new,λc z=>z.elim (a.tmp c) λz=>⟨(hd c z).1,.inr (h1 c (b1 c z))⟩,λc o e=>let ⟨o',q⟩:=a.dom c o e;⟨o',s c o' q⟩⟩,?_,v,vs,F1,F2,rfl,λc=>Iff.rfl,λc z1 z2=>(hd c z2).2 z1,?_,b2.unplus⟩
 ·rw[<- iL];exact se.plus s b1 b2.dom
 ·exact r1.go s λc o e z=>z.elim id λz=>by rw[b1 c z] at e;cases e
theorem Ct{fa:Ro->MR}(hn:ar e=NY)(ha:bF X fa e)(hr:jS X fr es):kf X (λρ=>fZ (fa ρ) fr) (e::es):=by
 intro ρ kds ρ' h g σ H Q se q;dsimp only[fZ] at h;split at h
 ·rename_i kd d ρ1 e1;split at h
  ·rename_i kds' e2;cases h;refine jR (bd aB dE (ao hn)) (ha ρ kd d ρ' e1 g σ H _ se λv g1 H1 F1 ev1 se1 r1=>hr ρ' kds' e2 (g1.plus F1) σ H1 _ se1 λvs H2 s2 r2=>?_);obtain⟨F,c1,c2,c3⟩:=rj ev1 se1 r1 s2 r2;exact q (v::vs) g1 H2 F c1 c2 c3
  ·cases h
 ·cases h
open Classical in
noncomputable def k9(H:Hp)(F:Pr):Hp:=λb=>if F b then NX else H b
theorem n8:Same (k9 H F) H:=λb o e=>by
 unfold k9 at e;split at e
 ·cases e
 ·exact e
theorem vO{g:Gh}{F:Pr}(se:SE K (g.plus F) ρ σ H)(hg:∀b,F b->g b=NX):MuOk (k9 H F) (Sg g):=λb z=>by
 have nF:¬F b:=λz2=>z (hg b z2);obtain⟨o,e,n⟩:=se.mu b ((av b).mpr (.inl z));exact⟨o,by unfold k9;rw[if_neg nF];exact e,n⟩
theorem pQ{g g1:Gh}{H H1 H2:Hp}{F F2:Pr}(a:Evo g H g1 H1 F)(se:SE K (g1.plus F) ρ1 σ H1)(s:Same H1 H2)(h1:∀b,F2 b->k9 H1 F b=NX)(dm:∀b,F2 b->∃o,H2 b=NW o/\∀xs,o≠.tup xs):Evo g H g1 H2 F2/\SE K (g1.plus F2) ρ1 σ H2:=by
 have hF:∀b,F2 b->F b\/H1 b=NX:=λb z=>by
  have:=h1 b z;unfold k9 at this;split at this
  ·rename_i q;exact .inl q
  ·exact .inr this
 have hn:∀c,H1 c=NX->H c=NX:=λc q=>by
  cases e:H c with
  |none=>rfl
  |some o=>obtain⟨o',q'⟩:=a.dom c o e;rw[q] at q';cases q'
 have hg2:∀b,F2 b->g1 b=NX:=λb z=>by
  rcases hF b z with q|q
  ·exact(a.tmp b q).1
  ·have:=fJ se.mu q;by_cases h:F b
   ·rw[bf h] at this;cases this
   ·rw[cj h] at this;exact this
 refine⟨⟨λc o n e=>s c o (a.keep c o n e),a.out,a.new,λc z=>⟨hg2 c z,(hF c z).elim (λq=>(a.tmp c q).2) λq=>.inr (hn c q)⟩,λc o e=>let ⟨o',q⟩:=a.dom c o e;⟨o',s c o' q⟩⟩,?_⟩;refine⟨λi sl e=>?_,λb z=>?_,se.len⟩
 ·obtain⟨v,F0,e1,e2,e3⟩:=se.slot i sl e;refine⟨v,F0,e1,λb z=>?_,e3.go (λb o _ e=>s b o e) λb o e n z=>?_⟩
  ·have:=bM (e2 b z);exact cu this λz2=>by rw[hg2 b z2] at this;cases this
  ·rcases(av b).mp z with z|z
   ·exact n ((av b).mpr (.inl z))
   ·rcases hF b z with q|q
    ·exact n ((av b).mpr (.inr q))
    ·rw[q] at e;cases e
 ·rcases(av b).mp z with z|z
  ·obtain⟨o,e,n⟩:=se.mu b ((av b).mpr (.inl z));exact⟨o,s b o e,n⟩
  ·exact dm b z
theorem VRL.off(h:VRL K H g F kds vs F):VRs K g (k9 H F) H kds vs:=⟨F,λb z=>by unfold k9;rw[if_pos z],h⟩
theorem StrictOk.m{f:List KD->Option KD}{fa:Ro->Option (List KD×Ro)}(h:StrictOk X f es node)(ha:kf X fa es):bF X (λρ=>(fa ρ).bind λp=>(f p.1).map λq=>(q.1,q.2,p.2)) node:=by
 intro ρ kd d ρ' hd g σ H Q se q;dsimp only at hd
 cases e:fa ρ with
 |none=>rw[e] at hd;cases hd
 |some p=>
  obtain⟨kds,ρ1⟩:=p;rw[e] at hd;dsimp only[L1] at hd
  cases e2:f kds with
  |none=>rw[e2] at hd;cases hd
  |some r=>
   rw[e2] at hd;cases hd;refine h kds r.1 r.2 e2 σ H Q (ha ρ kds _ e g σ H _ se λvs g1 H1 F ev se1 r1=>⟨g1,k9 H1 F,vO se1 λb z=>(ev.tmp b z).1,n8,r1.off,λv H2 s2 r2=>?_⟩);obtain⟨F2,b1,b2⟩:=r2;obtain⟨c1,c2⟩:=pQ ev se1 s2 b1 b2.dom;exact q v g1 H2 F2 c1 c2 b2
end
end J
namespace J
open PySem PySem.Spec L2
noncomputable abbrev jv:=Ow×D
noncomputable abbrev Fm:=List jv->Option (Kd×D×List (Option jv))
noncomputable def DP(p:jv):Option Sl:=NW ⟨NZ,p.1,p.2⟩
noncomputable def DQ(p:Option jv):Option Sl:=p.map λp=>⟨NZ,p.1,p.2⟩
noncomputable def As(K:Lh)(φ:Fm):Sp:=λvs H Q _=>∃ks g kd d outs,SE K g (ks.map DP) (vs.map NW) H/\φ ks=NW (kd,d,outs)/\
 ∀v g' H' F,Evo g H g' H' F->SE K (g'.plus F) (outs.map DQ) (vs.map NW) H'->VR1 K H' g' F kd d v F->Q v H'
set_option genInjectivity true in
inductive RA where
 |ref (i:Nat)|val (kd:Kd) (d:D)
noncomputable def VRA(K:Lh)(H:Hp)(g:Gh)(Ft:Pr)(σ:L2.St):List RA->List V->Pr->Prop
 |[],vs,F=>vs=[]/\∀b,¬F b
 |.ref i::r,vs,F=>∃y ys,vs=y::ys/\σ[i]?=NW (NW y)/\VRA K H g Ft σ r ys F
 |.val kd d::r,vs,F=>∃y ys F1 F2,vs=y::ys/\(∀b,F b↔F1 b\/F2 b)/\(∀b,F1 b->¬F2 b)/\VR1 K H g Ft kd d y F1/\VRA K H g Ft σ r ys F2
noncomputable def jb(X:Cx)(f:Ro->Option (List RA×Ro))(es:List N0):Prop:=∀ρ ras ρ',f ρ=NW (ras,ρ')->∀g σ H Q,SE X.K g ρ σ H->
 (∀vs g' H' F,Evo g H g' H' F->SE X.K (g'.plus F) ρ' σ H'->VRA X.K H' g' F σ ras vs F->Q vs H')->wA X es σ H Q
section
variable {K:Lh} {H H1 H2:Hp} {g g1 g2:Gh} {F1 F2:Pr} {σ:L2.St}
theorem VRA.evoR(b:Evo (g1.plus F1) H1 g2 H2 F2):∀{ras:List RA} {vs:List V} {F:Pr},VRA K H2 g2 F2 σ ras vs F->VRA K H2 (g2.minus F1) (λc=>F1 c\/F2 c) σ ras vs F
 |[],_,_,h=>h
 |.ref i::r,_,_,h=>by
  obtain⟨y,ys,e,e2,h2⟩:=h;exact⟨y,ys,e,e2,VRA.evoR b h2⟩
 |.val kd d::r,_,_,h=>by
  obtain⟨y,ys,G1,G2,e,hF,dj,h1,h2⟩:=h;exact⟨y,ys,G1,G2,e,hF,dj,h1.evoR b,VRA.evoR b h2⟩
theorem bq{g:Gh}{F:Pr}(h:∀b,¬F b):g.plus F=g:=by
 funext b;exact cj (h b)
end
section
variable {X:Cx}
theorem Fx:jb X (λρ=>NW ([],ρ)) []:=by
 intro ρ ras ρ' h g σ H Q se q;cases h;refine jR cq (q [] g H (λ_=>False) (.refl g H) ?_ ⟨rfl,λ_ z=>z⟩);rw[bq λ_ z=>z];exact se
noncomputable def rk(i:Nat)(o:Option (Option Sl))(r:Option (List RA×Ro)):Option (List RA×Ro):=match o,r with
 |some (NW _),NW (ras,ρ')=>NW (.ref i::ras,ρ')
 |_,_=>NX
theorem Fz(O:aC X Γ c){x:Str}{i:Nat}{p:Pos}{es:List N0}{fr:Ro->Option (List RA×Ro)}(hc:cX c x=NW i)(hr:jb X fr es):jb X (λρ=>rk i ρ[i]? (fr ρ)) (.Name x p::es):=by
 intro ρ ras ρ' h g σ H Q se q;dsimp only[rk] at h;split at h
 ·rename_i sl ras' ρ2 e1 e2;cases h;have hv:SndE X (λρ=>pD i ρ[i]?) (.Name x p):=Ao O hc p;obtain⟨v0,ev0,_⟩:=se.get e1
  -- the name gives that very value
  refine jR (bd aB dE (ao rfl)) ?_;unfold cX at hc;split at hc
  ·rename_i j hj;split at hc
   ·rename_i hv;cases hc;simp only[Lj,mJ,Nb] at hv;refine aE (o3 (i:=i) (by rw[O.N];exact aY hj) (by rw[O.sc];exact mI hv.1) hv.2.1 hv.2.2) ⟨v0,ev0,?_⟩;exact hr ρ ras' ρ' e2 g σ H _ se λvs g' H' F ev se' r=>q (v0::vs) g' H' F ev se' ⟨v0,vs,rfl,ev0,r⟩
   ·cases hc
  ·cases hc
 ·cases h
noncomputable def rm(a:MR)(r:Ro->Option (List RA×Ro)):Option (List RA×Ro):=match a with
 |some (kd,d,ρ1)=>if bZ (d9 kd d)=NY then NX else(match r ρ1 with|some (ras,ρ2)=>NW (.val (d9 kd d) d::ras,ρ2)|none=>NX)
 |none=>NX
theorem FA{fa:Ro->MR}(hn:ar e=NY)(ha:bF X fa e)(hr:jb X fr es):jb X (λρ=>rm (fa ρ) fr) (e::es):=by
 intro ρ ras ρ' h g σ H Q se q;dsimp only[rm] at h;split at h
 ·rename_i kd d ρ1 e1;split at h
  ·cases h
  ·rename_i hb;split at h
   ·rename_i ras' ρ2 e2;cases h;refine jR (bd aB dE (ao hn)) (ha ρ kd d ρ1 e1 g σ H _ se λv g1 H1 F1 ev1 se1 r1=>hr ρ1 ras' ρ' e2 (g1.plus F1) σ H1 _ se1 λvs g2 H2 F2 ev2 se2 r2=>?_);refine q (v::vs) _ H2 _ (ev1.trans ev2) (by rw[hZ ev2];exact se2) ⟨v,vs,F1,F2,rfl,λc=>Iff.rfl,λc z1 z2=>?_,(r1.im se1.mu).evo (by simpa using hb) ev2,r2.evoR ev2⟩;have:=(ev2.out c).mp (bf z1);rw[(ev2.tmp c z2).1] at this;cases this
   ·cases h
 ·cases h
end
noncomputable def cK:List RA->List Nat
 |[]=>[]
 |.ref i::r=>i::cK r
 |.val _ _::r=>cK r
noncomputable def eM(ρ:Ro):List RA->Option (List jv)
 |[]=>NW []
 |.ref i::r=>match ρ[i]?,eM ρ r with
  |some (NW ⟨NZ,k,d⟩),NW ks=>NW ((k,d)::ks)
  |_,_=>NX
 |.val kd d::r=>if bZ kd=NY then NX else(eM ρ r).map ((.fz,d)::·)
noncomputable def dL:List RA->Ro->Ro->Ro
 |.ref i::r,o::os,ρ=>dL r os (ρ.set i o)
 |.val _ _::r,_::os,ρ=>dL r os ρ
 |_,_,ρ=>ρ
noncomputable def mQ(ras:List RA)(i:Nat):Option Nat:=ras.findIdx? λa=>match a with|.ref j=>j==i|_=>NZ
noncomputable def Cu(φ:Option Fm)(a:Option (List RA×Ro)):MR:=match φ,a with
 |some φ,NW (ras,ρ)=>if(cK ras).Nodup then(match eM ρ ras with
  |some ks=>(match φ ks with
   |some (kd,d,outs)=>if bZ kd=NY\/outs.length≠ras.length then NX else NW (kd,d,dL ras (outs.map DQ) ρ)
   |none=>NX)
  |none=>NX) else NX
 |_,_=>NX
section
theorem gx{ρ:Ro}:∀{ras:List RA} {ks:List jv},eM ρ ras=NW ks->ks.length=ras.length/\∀(j:Nat) a,ras[j]?=NW a->∃k d,ks[j]?=NW (k,d)/\(match a with|.ref i=>ρ[i]?=NW (NW ⟨NZ,k,d⟩)|.val kd d'=>k=.fz/\d=d'/\bZ kd=NZ)
 |[],ks,h=>by cases h;exact⟨rfl,λj a e=>by simp at e⟩
 |.ref i::r,ks,h=>by
  unfold eM at h;split at h
  ·rename_i k d ks' e1 e2;cases h;obtain⟨l,g⟩:=gx e2;refine⟨by simp[l],λj a e=>?_⟩
   cases j with
   |zero=>simp at e;subst e;exact⟨k,d,rfl,e1⟩
   |succ j=>simpa using g j a (by simpa using e)
  ·cases h
 |.val kd d::r,ks,h=>by
  unfold eM at h;split at h
  ·cases h
  ·rename_i hb;obtain⟨ks',e,rfl⟩:=aZ h;obtain⟨l,g⟩:=gx e;refine⟨by simp[l],λj a e=>?_⟩
   cases j with
   |zero=>simp at e;subst e;exact⟨.fz,d,rfl,rfl,rfl,by simpa using hb⟩
   |succ j=>simpa using g j a (by simpa using e)
theorem ig:∀{ras:List RA} {i j:Nat},mQ ras i=NW j->ras[j]?=NW (.ref i)
 |[],i,j,h=>by simp[mQ] at h
 |a::r,i,j,h=>by
  unfold mQ at h;rw[L0] at h
  cases a with
  |ref k=>
   by_cases e:k=i
   ·subst e;simp at h;subst h;rfl
   ·have e':(k==i)=NZ:=by simpa using e
    simp only[e'] at h;obtain⟨j',h',rfl⟩:=aZ (by simpa using h);simpa using ig (ras:=r) (by unfold mQ;exact h')
  |val kd d=>
   simp only at h;obtain⟨j',h',rfl⟩:=aZ (by simpa using h);simpa using ig (ras:=r) (by unfold mQ;exact h')
theorem fu:∀{ras:List RA} {j i:Nat},ras[j]?=NW (.ref i)->i∈cK ras
 |[],_,_,h=>by simp at h
 |a::r,0,i,h=>by simp at h;subst h;exact LC
 |.ref k::r,j+1,i,h=>Lu _ (fu (by simpa using h))
 |.val kd d::r,j+1,i,h=>fu (ras:=r) (by simpa using h)
theorem pR:∀{ras:List RA} {j i:Nat},(cK ras).Nodup->ras[j]?=NW (.ref i)->mQ ras i=NW j
 |[],_,_,_,h=>by simp at h
 |.ref k::r,0,i,_,h=>by simp at h;subst h;simp[mQ,L0]
 |.val kd d::r,0,i,_,h=>by simp at h
 |.ref k::r,j+1,i,hn,h=>by
  have hm:=fu (ras:=r) (j:=j) (i:=i) (by simpa using h);have hn':k∉cK r/\(cK r).Nodup:=LV.mp hn
  have e:(k==i)=NZ:=by
   simp only[beq_eq_false_iff_ne,ne_eq];intro z;subst z;exact hn'.1 hm
  have ih:=pR hn'.2 (by simpa using h:r[j]?=NW (.ref i));unfold mQ at ih⊢;rw[L0];simp only[e,ih];rfl
 |.val kd d::r,j+1,i,hn,h=>by
  have ih:=pR (ras:=r) hn (by simpa using h:r[j]?=NW (.ref i));unfold mQ at ih⊢;rw[L0];simp only[ih];rfl
theorem iO:∀{ras:List RA} {outs:Ro} {ρ:Ro},(dL ras outs ρ).length=ρ.length
 |[],_,_=>rfl
 |.ref i::r,[],_=>rfl
 |.val _ _::r,[],_=>rfl
 |.ref i::r,o::os,ρ=>by simp only[dL];rw[iO];simp
 |.val _ _::r,o::os,ρ=>by simp only[dL];exact iO
theorem iP:∀{ras:List RA} {outs:Ro} {ρ:Ro},(cK ras).Nodup->outs.length=ras.length->∀(i:Nat) sl,(dL ras outs ρ)[i]?=NW (NW sl)->(i∉cK ras/\ρ[i]?=NW (NW sl))\/∃(j:Nat),ras[j]?=NW (RA.ref i)/\outs[j]?=NW (NW sl)
 |[],outs,ρ,_,_,i,sl,h=>by cases outs<;>exact .inl ⟨by simp[cK],h⟩
 |.ref k::r,[],ρ,_,hl,i,sl,h=>by simp at hl
 |.val kd d::r,[],ρ,_,hl,i,sl,h=>by simp at hl
 |.val kd d::r,o::os,ρ,hn,hl,i,sl,h=>by
  simp only[dL] at h;rcases iP (ras:=r) hn (by simpa using hl) i sl h with⟨q1,q2⟩|⟨j,q1,q2⟩
  ·exact .inl ⟨q1,q2⟩
  ·exact .inr ⟨j+1,by simpa using q1,by simpa using q2⟩
 |.ref k::r,o::os,ρ,hn,hl,i,sl,h=>by
  simp only[dL] at h;have hn':k∉cK r/\(cK r).Nodup:=LV.mp hn;rcases iP (ras:=r) hn'.2 (by simpa using hl) i sl h with⟨q1,q2⟩|⟨j,q1,q2⟩
  ·by_cases e:i=k
   ·subst e
    have hlt:i<ρ.length:=by
     have:=(Lk.mp q2).1;simpa using this
    rw[Ly hlt] at q2;exact .inr ⟨0,rfl,q2⟩
   ·rw[Lx (Ne.symm e)] at q2;exact .inl ⟨by simp only[cK,Lq,not_or];exact⟨e,q1⟩,q2⟩
  ·exact .inr ⟨j+1,by simpa using q1,by simpa using q2⟩
end
end J
namespace J
open PySem PySem.Spec L2
section
variable {K:Lh} {H H1 H2:Hp} {g g1:Gh} {F:Pr} {σ:L2.St} {ρ:Ro}
theorem VRA.get:∀{ras:List RA} {vs:List V} {F:Pr},VRA K H g Ft σ ras vs F->vs.length=ras.length/\∀(j:Nat) a,ras[j]?=NW a->∃y,vs[j]?=NW y/\(match a with|.ref i=>σ[i]?=NW (NW y)|.val kd d=>∃Fj:Pr,(∀b,Fj b->F b)/\VR1 K H g Ft kd d y Fj)
 |[],vs,F,h=>by obtain⟨rfl,_⟩:=h;exact⟨rfl,λj a e=>by simp at e⟩
 |.ref i::r,vs,F,h=>by
  obtain⟨y,ys,rfl,e,h2⟩:=h;obtain⟨l,q⟩:=VRA.get h2;refine⟨by simp[l],λj a ea=>?_⟩
  cases j with
  |zero=>simp at ea;subst ea;exact⟨y,rfl,e⟩
  |succ j=>simpa using q j a (by simpa using ea)
 |.val kd d::r,vs,F,h=>by
  obtain⟨y,ys,F1,F2,rfl,hF,dj,h1,h2⟩:=h;obtain⟨l,q⟩:=VRA.get h2;refine⟨by simp[l],λj a ea=>?_⟩
  cases j with
  |zero=>simp at ea;subst ea;exact⟨y,rfl,F1,λb z=>(hF b).mpr (.inl z),h1⟩
  |succ j=>
   obtain⟨y',e1,e2⟩:=q j a (by simpa using ea);refine⟨y',by simpa using e1,?_⟩
   cases a with
   |ref i=>exact e2
   |val kd d=>obtain⟨Fj,f1,f2⟩:=e2;exact⟨Fj,λb z=>(hF b).mpr (.inr (f1 b z)),f2⟩
theorem FB{ks:List jv}{vs:List V}(hn:(cK ras).Nodup)(hh:eM ρ ras=NW ks)(hg:∀b,F b->g1 b=NX)(se:SE K (g1.plus F) ρ σ H1)(r:VRA K H1 g1 F σ ras vs F):SE K (g1.re (mQ ras)) (ks.map DP) (vs.map NW) H1:=by
 obtain⟨lk,gk⟩:=gx hh;obtain⟨lv,gv⟩:=r.get;have gS:∀b,Sg (g1.re (mQ ras)) b->Sg (g1.plus F) b:=λb z=>(av b).mpr (.inl ((k7 b).mp z));refine⟨λj sl e=>?_,λb z=>se.mu b (gS b z),by simp[lk,lv]⟩;rw[Ll] at e
 cases ek:ks[j]? with
 |none=>rw[ek] at e;cases e
 |some p=>
  rw[ek] at e;cases e;have hj:j<ras.length:=by rw[<- lk];exact(Lk.mp ek).1
  have ea:ras[j]?=NW ras[j]:=Lm hj;obtain⟨k,d,ek',m⟩:=gk j _ ea;rw[ek] at ek';cases ek';obtain⟨y,ey,m2⟩:=gv j _ ea;generalize ras[j]=a at ea m m2
  cases a with
  |ref i=>
   have m:ρ[i]?=NW (NW ⟨NZ,k,d⟩):=m;have m2:σ[i]?=NW (NW y):=m2;obtain⟨v,Fi,e1,e2,e3⟩:=se.slot i _ m;rw[m2] at e1;cases e1;refine⟨y,Fi,by simp[ey],λb z=>?_,e3.go (λ_ _ _ e=>e) λb o _ n z=>n (gS b z)⟩;unfold Gh.re;rw[bM (e2 b z)];show NW (mQ ras i)=_;rw[pR hn ea]
  |val kd' d'=>
   obtain⟨rfl,rfl,hb⟩:k=.fz/\d=d'/\bZ kd'=NZ:=m;obtain⟨Fj,f1,f2⟩:=m2;refine⟨y,λ_=>False,by simp[ey],λb z=>z.elim,.fz ?_⟩;have hS:∀b,Sg (g1.re (mQ ras)) b->g1 b≠NX:=λb z=>(k7 b).mp z
   cases kd' with
   |sh=>exact f2.2.weak λb z=>.inl (hS b z)
   |fr c=>exact Tr.rp (λb z=>⟨.inl (hS b z),λz2=>hS b z (hg b (f1 b z2))⟩) f2
   |bo i c=>cases hb
noncomputable def dM(g1 gc:Gh)(ras:List RA):Gh:=λb=>match gc b with
 |some (NW j)=>(match ras[j]? with|some (.ref i)=>NW (NW i)|_=>NX)
 |some NX=>g1 b
 |none=>NX
theorem yO{gc:Gh}{ras:List RA}{j i:Nat}(h:gc b=NW (NW j))(e:ras[j]?=NW (.ref i)):dM g1 gc ras b=NW (NW i):=by
 unfold dM;rw[h];dsimp only;rw[e]
theorem n9{gc:Gh}(h:gc b=NW NX):dM g1 gc ras b=g1 b:=by unfold dM;rw[h]
theorem mR{gc:Gh}(h:gc b=NX):dM g1 gc ras b=NX:=by unfold dM;rw[h]
theorem kg{gc:Gh}{ras:List RA}(h:dM g1 gc ras b=NW x):(∃j i,gc b=NW (NW j)/\ras[j]?=NW (.ref i)/\x=NW i)\/(gc b=NW NX/\g1 b=NW x):=by
 unfold dM at h;split at h
 ·rename_i j e;split at h
  ·rename_i i e2;cases h;exact .inl ⟨j,i,e,e2,rfl⟩
  ·cases h
 ·rename_i e;exact .inr ⟨e,h⟩
 ·cases h
theorem rn{m:Nat->Option Nat}{j:Nat}(h:g.re m b=NW (NW j)):∃i,g b=NW (NW i)/\m i=NW j:=by
 unfold Gh.re at h
 cases q:g b with
 |none=>simp[q] at h
 |some x=>
  cases x with
  |none=>simp[q] at h
  |some i=>simp[q] at h;exact⟨i,rfl,h⟩
theorem FC(h:g b=NX):g.re m b=NX:=by unfold Gh.re;rw[h]
theorem Iz(h:g b=NW NX):g.re m b=NW NX:=by unfold Gh.re;rw[h]
theorem IA{m:Nat->Option Nat}{i:Nat}(h:g b=NW (NW i)):g.re m b=NW (m i):=by unfold Gh.re;rw[h]
theorem lH{ras:List RA}{gc:Gh}{ρc:Ro}{σc:L2.St}(hn:(cK ras).Nodup)(hol:ρc.length=ras.length)(hbo:bZ kd=NZ)(a:Evo g H g1 H1 F)(se:SE K (g1.plus F) ρ σ H1)(hσ:∀(j i:Nat) sl w,ras[j]?=NW (.ref i)->ρc[j]?=NW (NW sl)->σc[j]?=NW (NW w)->σ[i]?=NW (NW w))(ev:Evo (g1.re (mQ ras)) H1 gc H2 Fr)(sec:SE K (gc.plus Fr) ρc σc H2)(rv:VR1 K H2 gc Fr kd d v Fr) :
  Evo g H (dM g1 gc ras) H2 Fr/\SE K ((dM g1 gc ras).plus Fr) (dL ras ρc ρ) σ H2/\VR1 K H2 (dM g1 gc ras) Fr kd d v Fr:=by
 have hn0:∀c,H1 c=NX->H c=NX:=λc q=>by
  cases e:H c with
  |none=>rfl
  |some o=>obtain⟨o',q'⟩:=a.dom c o e;rw[q] at q';cases q'
 -- frozen ones stay so
 have froz:∀b o,H1 b=NW o->g1 b=NX->dM g1 gc ras b=NX/\¬Fr b:=λb o e n=>by
  obtain⟨f1,f2⟩:=ev.froz e (FC n);exact⟨mR f1,f2⟩
 have slotF:∀b i,g1 b=NW (NW i)->(∃j,g b=NW (NW j))\/H b=NX:=λb i e=>a.new b i e
 have fromS:∀b j,gc b=NW (NW j)->(∃k,g b=NW (NW k))\/H b=NX:=λb j e=>by
  rcases ev.new b j e with⟨k,q⟩|q
  ·obtain⟨i,q1,_⟩:=rn q;exact slotF b i q1
  ·exact .inr (hn0 b q)
 have evo:Evo g H (dM g1 gc ras) H2 Fr:=by
  refine⟨λb o n e=>?_,λb=>⟨λe=>?_,λe=>?_⟩,λb i e=>?_,λb z=>?_,λb o e=>?_⟩
  ·refine ev.keep b o (λj q=>?_) (a.keep b o n e);obtain⟨i,q1,_⟩:=rn q;rcases a.new b i q1 with⟨k,q2⟩|q2
   ·exact n k q2
   ·rw[e] at q2;cases q2
  ·have e1:=(a.out b).mp e;have e2:=(ev.out b).mp (Iz e1);rw[n9 e2];exact e1
  ·rcases kg e with⟨j,i,_,_,z⟩|⟨_,e1⟩
   ·cases z
   ·exact(a.out b).mpr e1
  ·rcases kg e with⟨j,i',e1,_,_⟩|⟨_,e1⟩
   ·exact fromS b j e1
   ·exact slotF b i e1
  ·obtain⟨t1,t2⟩:=ev.tmp b z;refine⟨mR t1,?_⟩;rcases t2 with⟨j,q⟩|q
   ·obtain⟨i,q1,_⟩:=rn q;exact slotF b i q1
   ·exact .inr (hn0 b q)
  ·obtain⟨o1,e1⟩:=a.dom b o e;exact ev.dom b o1 e1
 have gcS:∀b,Sg (dM g1 gc ras) b->Sg gc b:=λb z z2=>z (mR z2);refine⟨evo,⟨λi sl e=>?_,λb z=>?_,by rw[iO];exact se.len⟩,?_⟩
 ·rcases iP hn hol i sl e with⟨ni,e1⟩|⟨j,ej,eo⟩
  ·-- a slot that was not eM in
   obtain⟨w,Fi,e2,e3,e4⟩:=se.slot i sl e1
   have lab:∀b,Fi b->g1 b=NW (NW i)/\gc b=NW NX:=λb z=>by
    have q1:=bM (e3 b z);refine⟨q1,(ev.out b).mp ?_⟩;rw[IA q1]
    cases q2:mQ ras i with
    |none=>rfl
    |some j=>exact absurd (fu (ig q2)) ni
   refine⟨w,Fi,e2,λb z=>?_,e4.go (λb o hb e=>ev.keep b o (λj q=>?_) e) λb o e n z=>?_⟩
   ·obtain⟨l1,l2⟩:=lab b z;refine cu (by rw[n9 l2];exact l1) λz2=>?_;rw[(ev.tmp b z2).1] at l2;cases l2
   ·obtain⟨k,q1,q2⟩:=rn q;rcases hb with hb|hb
    ·exact hb ((av b).mpr (.inl (by rw[Sg,q1];simp)))
    ·rw[(lab b hb).1] at q1;cases q1;exact absurd (fu (ig q2)) ni
   ·have nF:g1 b=NX:=by
     cases q1:g1 b with
     |none=>rfl
     |some x=>exact absurd ((av b).mpr (.inl (by rw[Sg,q1];simp))) n
    obtain⟨f1,f2⟩:=froz b o e nF;rcases(av b).mp z with z|z
    ·exact z f1
    ·exact f2 z
  ·-- one that was
   obtain⟨w,Fj,e2,e3,e4⟩:=sec.slot j sl eo;refine⟨w,Fj,hσ j i sl w ej eo e2,λb z=>?_,e4.go (λ_ _ _ e=>e) λb o e n z=>?_⟩
   ·have q1:=bM (e3 b z);refine cu (yO q1 ej) λz2=>?_;rw[(ev.tmp b z2).1] at q1;cases q1
   ·rcases(av b).mp z with z|z
    ·exact n ((av b).mpr (.inl (gcS b z)))
    ·exact n ((av b).mpr (.inr z))
 ·rcases(av b).mp z with z|z
  ·exact sec.mu b ((av b).mpr (.inl (gcS b z)))
  ·exact sec.mu b ((av b).mpr (.inr z))
 ·have k2:∀b o,H2 b=NW o->¬Sx gc Fr b->¬Sx (dM g1 gc ras) Fr b:=λb o _ n z=>n (z.imp (gcS b) id)
  cases kd with
  |sh=>exact⟨rv.1,rv.2.go λb o n e=>⟨e,k2 b o e n⟩⟩
  |fr k=>exact Tr.go (λ_ _ _ e=>e) k2 rv
  |bo i k=>cases hbo
theorem yP{Q:VK}(h:Cu (NW φ) (NW (ras,ρ))=NW (kd,d,ρ2))(a:Evo g H g1 H1 F)(se:SE K (g1.plus F) ρ σ H1)(r:VRA K H1 g1 F σ ras vs F)(q:∀v g' H' F',Evo g H g' H' F'->SE K (g'.plus F') ρ2 σ H'->VR1 K H' g' F' kd d v F'->Q v H'):As K φ vs H1 Q E:=by
 unfold Cu at h;dsimp only at h;split at h
 ·rename_i hn;split at h
  ·rename_i ks hh;split at h
   ·rename_i kd' d' outs hφ;split at h
    ·cases h
    ·rename_i hc;cases h
     have hbo:bZ kd=NZ:=by
      cases e:bZ kd with
      |false=>rfl
      |true=>exact absurd (.inl e) hc
     have hol:outs.length=ras.length:=Classical.byContradiction λz=>hc (.inr z);refine⟨ks,g1.re (mQ ras),kd,d,outs,FB hn hh (λb z=>(a.tmp b z).1) se r,hφ,λv gc H2 Fr ev sec rv=>?_⟩;obtain⟨_,gv⟩:=r.get
     obtain⟨c1,c2,c3⟩:=lH hn (by rw[Li];exact hol) hbo a se (λj i sl w ej _ ew=>by
      obtain⟨y,ey,m⟩:=gv j _ ej;have m:σ[i]?=NW (NW y):=m;rw[Ll,ey] at ew;cases ew;exact m) ev sec rv
     exact q v _ H2 Fr c1 c2 c3
   ·cases h
  ·cases h
 ·cases h
end
end J
namespace J
open PySem PySem.Spec L2
noncomputable def clr(ps:List (Nat×D))(ρ:Ro):Ro:=ps.foldl (λρ p=>ρ.set p.1 NX) ρ
noncomputable def vP(cap:List (Option Nat))(ps:List (Nat×D)):Bool:=ps.all λp=>match cap[p.1]? with|some NX=>NY|_=>NZ
noncomputable def fv(cap:List (Option Nat))(tg:IT)(ft:Ro->Option (Bool×Ro))(fe:Ro->MR)(d:D)(ρ0:Ro):Option (Option KD×Ro):=match nY tg d with
 |some ps=>if dG ps ρ0=NY/\vP cap ps=NY then(match ft (setAll ps ρ0) with
  |some (NY,ρt)=>(match fe ρt with|some (kd,d,ρ1)=>NW (NW (d9 kd d,d),clr ps ρ1)|none=>NX)
  |some (NZ,ρt)=>NW (NX,clr ps ρt)
  |none=>NX) else NX
 |none=>NX
noncomputable def aK(r:Ow)(f:D->Ro->Option (Option KD×Ro)):List D->Ro->Option (List D×Ro)
 |[],ρ=>NW ([],ρ)
 |d::ds,ρ=>match f d ρ with
  |some (NW kd,ρ1)=>if cy r kd=NY then(match aK r f ds ρ1 with|some (ys,ρ2)=>NW (kd.2::ys,ρ2)|none=>NX) else NX
  |some (NX,ρ1)=>aK r f ds ρ1
  |none=>NX
theorem gy:∀{a b:List D} {ρ ρ':Ro} {ys:List D},aK r f (a++b) ρ=NW (ys,ρ')->∃x ρ1 y,aK r f a ρ=NW (x,ρ1)/\aK r f b ρ1=NW (y,ρ')/\ys=x++y
 |[],b,ρ,ρ',ys,h=>⟨[],ρ,ys,rfl,h,rfl⟩
 |d::a,b,ρ,ρ',ys,h=>by
  rw[Ms] at h;unfold aK at h;split at h
  ·rename_i kd ρ1 e1;split at h
   ·rename_i hf;split at h
    ·rename_i zs ρ2 e2;cases h;obtain⟨x,ρ3,y,h1,h2,rfl⟩:=gy e2;exact⟨kd.2::x,ρ3,y,by simp[aK,e1,h1,hf],h2,rfl⟩
    ·cases h
   ·cases h
  ·rename_i ρ1 e1;obtain⟨x,ρ3,y,h1,h2,rfl⟩:=gy h;exact⟨x,ρ3,y,by simp[aK,e1,h1],h2,rfl⟩
  ·cases h
theorem c4:∀{a:List D} {d:D} {x y:List D} {ρ ρ1 ρ2:Ro},aK r f a ρ=NW (x,ρ1)->aK r f [d] ρ1=NW (y,ρ2)->aK r f (a++[d]) ρ=NW (x++y,ρ2)
 |[],d,x,y,ρ,ρ1,ρ2,h,h1=>by cases h;exact h1
 |e::a,d,x,y,ρ,ρ1,ρ2,h,h1=>by
  unfold aK at h;rw[Ms];unfold aK;split at h
  ·rename_i kd ρ3 e1;split at h
   ·rename_i hf;split at h
    ·rename_i zs ρ4 e2;cases h;rw[c4 e2 h1];simp[hf]
    ·cases h
   ·cases h
  ·rename_i ρ3 e1;exact c4 h h1
  ·cases h
theorem oe{f:D->Ro->Option (Option KD×Ro)}{ds ys:List D}(h:aK r f ds ρ=NW (ys,ρ')){i:Nat}{d:D}(e:ds[i]?=NW d){x:List D}{ρi:Ro}(hx:aK r f (ds.take i) ρ=NW (x,ρi)) :
  (∃ρ1,f d ρi=NW (NX,ρ1)/\aK r f (ds.take (i+1)) ρ=NW (x,ρ1))\/∃kd ρ1,f d ρi=NW (NW kd,ρ1)/\cy r kd=NY/\aK r f (ds.take (i+1)) ρ=NW (x++[kd.2],ρ1):=by
 have hs:ds=ds.take i++(d::ds.drop (i+1)):=by
  obtain⟨hl,rfl⟩:=Lk.mp e;rw[<- MC hl,Nw]
 have ht:ds.take (i+1)=ds.take i++[d]:=by rw[L9,e];rfl
 rw[hs] at h;obtain⟨x',ρ1,y,h1,h2,_⟩:=gy h;rw[hx] at h1;cases h1;unfold aK at h2;rw[ht];split at h2
 ·rename_i kd ρ2 e1;split at h2
  ·rename_i hf;exact .inr ⟨kd,ρ2,e1,hf,c4 hx (by simp[aK,e1,hf])⟩
  ·cases h2
 ·rename_i ρ2 e1;exact .inl ⟨ρ2,e1,by simpa using c4 hx (y:=[]) (by simp[aK,e1])⟩
 ·cases h2
theorem gz:∀{ds ys:List D} {ρ ρ':Ro},aK r f ds ρ=NW (ys,ρ')->ys.length<=ds.length
 |[],ys,ρ,ρ',h=>by cases h;exact Lo _
 |d::ds,ys,ρ,ρ',h=>by
  unfold aK at h;split at h
  ·rename_i kd ρ1 e1;split at h
   ·split at h
    ·rename_i zs ρ2 e2;cases h;have:=gz e2;simp;lia
    ·cases h
   ·cases h
  ·rename_i ρ1 e1;have:=gz h;simp;lia
  ·cases h
noncomputable abbrev IR:=Option (List Nat×List D×Ro)
noncomputable def jc(X:Cx)(f:Ro->IR)(tg iter:N0):Prop:=∀ρ bs ds ρ1,f ρ=NW (bs,ds,ρ1)->∀g σ H R,SE X.K g ρ σ H->
 (∀J s g1 H1,Evo g H g1 H1 (λ_=>False)->SE X.K g1 ρ1 σ H1->iI X.K J s ds->s.P X.K g1 H1->s.from g1 H1 bs->R J H1)->wI X tg iter σ H R
noncomputable def Cv(a:Option (List Nat×List D))(ρ:Ro):IR:=match a with|some (bs,ds)=>NW (bs,ds,ρ)|none=>NX
theorem SndI.m{f:Ro->Option (List Nat×List D)}(h:SndI X f tg iter):jc X (λρ=>Cv (f ρ) ρ) tg iter:=by
 intro ρ bs ds ρ1 hf g σ H R se q;dsimp only[Cv] at hf;split at hf
 ·rename_i bs' ds' e;cases hf;refine h ρ bs ds e g σ H R se λJ s H1 s1 jt sp sf=>q J s g H1 (eD s1 (λ_ z=>z.elim) λ_ z=>z.elim) (se.same s1) jt sp sf.from_H
 ·cases hf
noncomputable def ii(cap:List (Option Nat)):List RA:=cap.map λo=>match o with|some i=>.ref i|none=>.val .sh .non
noncomputable def gA(r:Ow)(it:IR)(f:D->Ro->Option (Option KD×Ro))(cap:List (Option Nat)):MR:=match it with
 |some (bs,ds,ρ)=>if bs=[]/\ds.length<=100000 then(match aK r f ds (cC ρ cap) with|some (ys,ρc)=>if ρc.length=cap.length then NW (.fr (.own [] r),.lst ys,dL (ii cap) ρc ρ) else NX|none=>NX) else NX
 |none=>NX
theorem iQ:∀cap:List (Option Nat),cK (ii cap)=cap.filterMap id
 |[]=>rfl
 |none::r=>by
  have:=iQ r;simp only[ii,LJ,cK] at this⊢;simpa using this
 |some i::r=>by
  have:=iQ r;simp only[ii,LJ,cK] at this⊢;simpa using this
theorem yQ(cap:List (Option Nat))(i:Nat):mQ (ii cap) i=j3 cap i:=by
 unfold mQ j3 ii;rw[Mv];congr 1;funext o
 cases o with
 |none=>rfl
 |some k=>simp[Function.comp]
theorem SE.clr{H:Hp}:∀{ps:List (Nat×D)} {ρ:Ro} {σ:L2.St},SE K g ρ σ H->SE K g (clr ps ρ) σ H
 |[],ρ,σ,h=>h
 |p::ps,ρ,σ,h=>by
  show SE K g (J.clr ps (ρ.set p.1 NX)) σ H;refine SE.clr ⟨λi sl e=>?_,h.mu,by simp[h.len]⟩;by_cases hi:i=p.1
  ·subst hi
   have hlt:p.1<ρ.length:=by
    have:=(Lk.mp e).1;simpa using this
   rw[Ly hlt] at e;cases e
  ·rw[Lx (Ne.symm hi)] at e;exact h.slot i sl e
theorem jw:∀{ps:List (Nat×D)} {vs:List (Nat×V)} {σ:L2.St} {j:Nat},RpP K H S ps vs->(∀p∈ps,p.1≠j)->(iK vs σ)[j]?=σ[j]?
 |[],vs,σ,j,h,_=>by rw[(show vs=[] from h)];rfl
 |(i,d)::ps,vs,σ,j,h,hn=>by
  obtain⟨v,ws,rfl,_,h2⟩:=h;show(iK ws (σ.set i (NW v)))[j]?=_;rw[jw h2 λp hp=>hn p (Lu _ hp),Lx (hn (i,d) LC)]
section
variable {X:Cx} {Γ:fV} {c:Cz}
theorem Evo.drop{F F2:Pr}(a:Evo g H g' H' F)(h:∀b,F2 b->F b):Evo g H g' H' F2:=⟨a.keep,a.out,a.new,λb z=>a.tmp b (h b z),a.dom⟩
theorem SE.drop{g:Gh}{F F2:Pr}(se:SE K (g.plus F) ρ σ H)(h:∀b,F2 b->F b)(hg:∀b,F b->g b=NX):SE K (g.plus F2) ρ σ H:=by
 have sub:∀b,Sg (g.plus F2) b->Sg (g.plus F) b:=λb z=>(av b).mpr (((av b).mp z).imp id (h b));refine⟨λi sl e=>?_,λb z=>se.mu b (sub b z),se.len⟩;obtain⟨v,F0,e1,e2,e3⟩:=se.slot i sl e;refine⟨v,F0,e1,λb z=>?_,e3.go (λ_ _ _ e=>e) λb o _ n z=>n (sub b z)⟩;have q:=bM (e2 b z);exact cu q λz2=>by rw[hg b (h b z2)] at q;cases q
theorem Evo.upd{H H':Hp}(a:Evo g H g' H' F)(hp:H p=NX):Evo g H g' (upd H' p o) F:=by
 refine⟨λb o' n e=>?_,a.out,a.new,a.tmp,λb o' e=>?_⟩
 ·rw[al (λz=>by rw[z,hp] at e;cases e)];exact a.keep b o' n e
 ·obtain⟨o1,e1⟩:=a.dom b o' e;exact⟨o1,by rw[al (λz=>by rw[z,hp] at e;cases e)];exact e1⟩
theorem kh(a:Evo g H g1 H1 (λ_=>False))(b:Evo g1 H1 g2 H2 F2):Evo g H g2 H2 F2:=by
 have t:=a.trans (F1:=λ_=>False) (g2:=g2) (H2:=H2) (F2:=F2) (by rw[bq λ_ z=>z];exact b);have e1:g2.minus (λ_=>False)=g2:=by funext c;exact bL λz=>z
 rw[e1] at t;exact t.drop λc z=>.inr z
noncomputable def ki(X:Cx)(f:Ro->Option (Bool×Ro))(ifs:List N0):Prop:=∀ρ b ρ',f ρ=NW (b,ρ')->∀g σ H Q,SE X.K g ρ σ H->(∀g' H',Evo g H g' H' (λ_=>False)->SE X.K g' ρ' σ H'->Q b H')->DO X ifs σ H Q
theorem Cw:ki X (λρ=>NW (NY,ρ)) []:=λρ b ρ' h g σ H Q se q=>by cases h;exact mP qN (q g H (.refl g H) se)
theorem Cy{e:N0}(h:fY X f e):ki X f [e]:=λρ b ρ' hb g σ H Q se q=>mP (qO gX) (h ρ b ρ' hb g σ H Q se q)
theorem rq{K:Lh}{g' gi gt:Gh}{H1 H2 H3:Hp}{D:N2}{Fi:Pr}{us:List V}{yi:List J.D}{r:Ow}(ev2:Evo g' H1 gi H2 (λb=>b=D\/Fi b))(nFD:¬Fi D)(gD:H2 D=NW (.lst us))(tr:TrL K H2 (Sx gi λb=>b=D\/Fi b) yi [] r us Fi)(evt:Evo (gi.plus λb=>b=D\/Fi b) H2 gt H3 (λ_=>False)) :
  ∃gi',Evo g' H1 gi' H3 (λb=>b=D\/Fi b)/\(gi'.plus λb=>b=D\/Fi b)=gt/\H3 D=NW (.lst us)/\TrL K H3 (Sx gi' λb=>b=D\/Fi b) yi [] r us Fi:=by
 have gDo:(gi.plus λb=>b=D\/Fi b) D=NW NX:=bf (.inl rfl);have tot:=(ev2.trans evt).drop (F2:=λb=>b=D\/Fi b) λb z=>.inl z;refine⟨gt.minus (λb=>b=D\/Fi b),tot,?_,evt.keep D _ (λi q1=>by rw[gDo] at q1;cases q1) gD,?_⟩
 ·have e:=hZ evt;rw[bq λ_ z=>z] at e;have e2:(λc=>(c=D\/Fi c)\/False)=λb=>b=D\/Fi b:=by funext b;simp
  rw[e2] at e;exact e
 ·refine tr.go (λb o hb e=>?_) λb o e n z=>?_
  ·refine evt.keep b o (λi q1=>?_) e;rcases hb with hb|hb
   ·exact hb (.inl (by rw[bM q1];simp))
   ·rw[bf (.inr hb)] at q1;cases q1
  ·have nb:¬(b=D\/Fi b):=λz=>n (.inr z)
   have gn:(gi.plus λb=>b=D\/Fi b) b=NX:=by
    rw[cj nb]
    cases q1:gi b with
    |none=>rfl
    |some x=>exact absurd (.inl (by rw[q1];simp)) n
   obtain⟨f1,f2⟩:=evt.froz e gn;rcases z with z|z
   ·rw[bL nb] at z;exact z f1
   ·exact nb z
theorem rs(O:aC X Γ c){r:Ow}{fi:Ro->IR}{ft:Ro->Option (Bool×Ro)}{fe:Ro->MR}{elt tg iter:N0}{ifs:List N0}{scope:Of}{t:IT}{n:Nat}(hck:bO c scope=NY)(hi:jc X fi tg iter)
  (htg:oX ⟨gq scope c.sc,aA scope,gZ scope⟩ n tg=NW t)
  (hft:∀C s H ex,ki (aX X (aA scope) scope C s H ex) ft ifs) (hfe:∀C s H ex,bF (aX X (aA scope) scope C s H ex) fe elt)
  {ρ:Ro} {kd:Kd} {d:D} {ρ':Ro} (h:gA r (fi ρ) (fv (aO c scope) t ft fe) (aO c scope)=NW (kd,d,ρ')) {g:Gh} {σ:L2.St} {H:Hp} {Q:VK} (se:SE X.K g ρ σ H) (q:∀v g' H' F,Evo g H g' H' F->SE X.K (g'.plus F) ρ' σ H'->VR1 X.K H' g' F kd d v F->Q v H') :
  iE (wI X tg iter) (λv σ H Q=>∀C s H0 ex,wG (aX X (aA scope) scope C s H0 ex) tg v σ H Q) (λσ H Q=>∀C s H0 ex,DO (aX X (aA scope) scope C s H0 ex) ifs σ H Q) (λσ H Q=>∀C s H0 ex,wE (aX X (aA scope) scope C s H0 ex) elt σ H Q) (aO c scope) σ H Q:=by
 have hcap:lF (aO c scope)=NY:=by
  simp only[bO,Lj] at hck;exact hck.1.2
 unfold gA at h;split at h
 ·rename_i bs ds ρ0 hit;split at h
  ·rename_i hlen;obtain⟨rfl,hlen⟩:=hlen;split at h
   ·rename_i ys ρe hm;split at h
    ·rename_i hel;cases h;have CO:=fG O hck;refine hi ρ [] ds ρ0 hit g σ H _ se λjj src g1 H1 ev1 se0 jt sp sf D hD=>?_;replace q:∀v g' H' F,Evo g1 H1 g' H' F->SE X.K (g'.plus F) (dL (ii (aO c scope)) ρe ρ0) σ H'->VR1 X.K H' g' F (.fr (.own [] r)) (.lst ys) v F->Q v H':=λv g' H' F e s r=>q v g' H' F (kh ev1 e) s r;clear se ev1;generalize g1=g at *;generalize ρ0=ρ at *;have se1:SE X.K (g.re (j3 (aO c scope))) (cC ρ (aO c scope)) (dQ σ (aO c scope)) H1:=se0.cap hcap;generalize hg':g.re (j3 (aO c scope))=g' at se1;have gS:∀b,Sg g' b↔Sg g b:=λb=>by rw[<- hg'];exact k7 b
     generalize hρ:cC ρ (aO c scope)=ρc at se1 hm
     refine⟨λi m σ' H'=>m=ds.length-i/\i<=ds.length/\∃(gi:Gh) (Fi:Pr) (us:List V) (yi:List J.D) (ρi:Ro),aK r (fv (aO c scope) t ft fe) (ds.take i) ρc=NW (yi,ρi)/\Evo g' H1 gi H' (λb=>b=D\/Fi b)/\¬Fi D/\SE X.K (gi.plus λb=>b=D\/Fi b) ρi σ' H'/\
       (∀(j i:Nat),(aO c scope)[j]?=NW (NW i)->σ'[j]?=(dQ σ (aO c scope))[j]?)/\H' D=NW (.lst us)/\TrL X.K H' (Sx gi λb=>b=D\/Fi b) yi [] r us Fi,
      ⟨ds.length,by simp,LF _,g',λ_=>False,[],[],ρc,by simp[aK],?_,λz=>z,?_,λj i _=>rfl,aG,by unfold TrL;exact⟨rfl,λ_ z=>z⟩⟩,?_⟩
     ·have gD:g' D=NX:=fJ se1.mu hD;refine⟨λb o n e=>aq hD b o e,λ_=>Iff.rfl,λb i e=>.inl ⟨i,e⟩,λb z=>?_,λb o e=>⟨o,aq hD b o e⟩⟩;rcases z with z|z
      ·subst z;exact⟨gD,.inr hD⟩
      ·exact z.elim
     ·exact se1.plus (aq hD) (λb z=>z.elim (λz=>z▸hD) λz=>z.elim) λb z=>z.elim (λz=>⟨.lst [],z▸aG,λxs h=>by cases h⟩) λz=>z.elim
     rintro i m σ' H' ⟨rfl,hi',gi,Fi,us,yi,ρi,hyi,evi,nFD,se',hσ',gD,tr⟩
     have hFg:∀b,(b=D\/Fi b)->gi b=NX:=λb z=>(evi.tmp b z).1
     have sp':src.P X.K (gi.plus λb=>b=D\/Fi b) H':=by
      have fz:∀b o,H1 b=NW o->¬Sg g b->H' b=NW o/\¬Sg (gi.plus λb=>b=D\/Fi b) b:=λb o e n=>by
       have n':g' b=NX:=by
        cases q1:g' b with
        |none=>rfl
        |some x=>exact absurd ((gS b).mp (by rw[Sg,q1];simp)) n
       obtain⟨f1,f2⟩:=evi.froz e n';refine⟨evi.keep b o (λi q1=>by rw[n'] at q1;cases q1) e,λz=>?_⟩;rcases(av b).mp z with z|z
       ·exact z f1
       ·exact f2 z
      refine Src.mono (g:=g) (H:=H1) (λb o e n=>(fz b o e n).2) (λb o hb e=>?_) (λa e=>sf.from_t e) sp;rcases hb with hb|hb
      ·exact(fz b o e hb).1
      ·rcases sf.from_l hb with sf|⟨i,hm',_⟩
       ·exact(fz b o e (by rw[Sg,sf];simp)).1
       ·cases hm'
     obtain⟨j1,j2⟩:=jt i _ H' sp' se'.mu;by_cases hlt:i<ds.length
     ·have hd:ds[i]?=NW ds[i]:=Lm hlt;obtain⟨go,yl⟩:=j2 _ hd;refine .inr ⟨go,λx H2 hy C s0 H0 ex=>?_⟩;obtain⟨s2,rx⟩:=yl x H2 hy;have st:=oe hm hd hyi
      have stuck:∃o,fv (aO c scope) t ft fe ds[i] ρi=NW o:=by
       rcases st with⟨ρ1,e,_⟩|⟨kd,ρ1,e,_⟩
       ·exact⟨_,e⟩
       ·exact⟨_,e⟩
      obtain⟨o0,ho0⟩:=stuck;have he:=ho0;unfold fv at he;split at he
      ·rename_i ps hps;split at he
       ·rename_i hno;obtain⟨hno,hnc⟩:=hno
        have hcj:∀(j i:Nat),(aO c scope)[j]?=NW (NW i)->∀p∈ps,p.1≠j:=λj i e p hp z=>by
         have:=LI.mp hnc p hp;rw[z,e] at this;cases this
        refine uY (qW (CO C s0 H0 ex) n htg) (js hps rx λvs hvs C1 s01 H01 ex1=>?_);have t1:=SE.setAll hvs (se'.same s2);have ev2:Evo g' H1 gi H2 (λb=>b=D\/Fi b):=⟨λb o n e=>s2 _ _ (evi.keep b o n e),evi.out,evi.new,evi.tmp,λb o e=>let ⟨o',q1⟩:=evi.dom b o e;⟨o',s2 _ _ q1⟩⟩;have tr2:TrL X.K H2 (Sx gi λb=>b=D\/Fi b) yi [] r us Fi:=tr.go (λb o _ e=>s2 _ _ e) λ_ _ _ n=>n;split at he
        ·rename_i ρt hT;refine hft C1 s01 H01 ex1 _ NY ρt hT _ _ _ _ t1 λgt H3 evt set=>uL λC2 s02 H02 ex2=>?_;obtain⟨gi2,ev3,hgp,gD3,tr3⟩:=rq ev2 nFD (s2 _ _ gD) tr2 evt;rw[<- hgp] at set
         have hul0:us.length<=i:=by
          rw[tr.len];exact LM (gz hyi) (by rw[LU];lia)
         split at he
         ·rename_i ky y ρ1 hke;cases he
          have st2:cy r (d9 ky y,y)=NY/\aK r (fv (aO c scope) t ft fe) (ds.take (i+1)) ρc=NW (yi++[y],clr ps ρ1):=by
           rcases st with⟨ρ2,e,_⟩|⟨kd,ρ2,e,e2,e3⟩
           ·rw[ho0] at e;cases e
           ·rw[ho0] at e;cases e;exact⟨e2,e3⟩
          refine hfe C2 s02 H02 ex2 _ ky y ρ1 hke _ _ H3 _ set λvy g2 H4 Fy ev4 se4 r4=>?_;have r4':=VR1.im (kd:=ky) se4.mu r4;have gDo:(gi2.plus λb=>b=D\/Fi b) D=NW NX:=bf (.inl rfl);have gD4:H4 D=NW (.lst us):=ev4.keep D _ (λi q1=>by rw[gDo] at q1;cases q1) gD3
          have nFyD:∀b,(b=D\/Fi b)->¬Fy b:=λb z z2=>by
           have:=(ev4.out b).mp (bf z);rw[(ev4.tmp b z2).1] at this;cases this
          have tot:=ev3.trans ev4;have mm:MuOk H4 (Sx g2 Fy):=λb z=>se4.mu b ((av b).mpr z);obtain⟨F2,a1,a2⟩:=VR1.fit (p:=(d9 ky y,y)) st2.1 mm (λb z=>(ev4.tmp b z).1) (λb z=>z) r4';have hul:=hul0;have kD:∀b o,b≠D->H4 b=NW o->upd H4 D (.lst (us++[vy])) b=NW o:=λb o n e=>by rw[al n];exact e
          have mD:∀b,(b=D\/Fi b)->(g2.minus λb=>b=D\/Fi b) b=NX:=λb z=>hV z;have hgn:∀b,((b=D\/Fi b)\/Fy b)->(g2.minus λb=>b=D\/Fi b) b=NX:=λb z=>(tot.tmp b z).1;have sub:∀b,(b=D\/(Fi b\/F2 b))->((b=D\/Fi b)\/Fy b):=λb z=>z.elim (λz=>.inl (.inl z)) λz=>z.elim (λz=>.inl (.inr z)) λz=>.inr (a1 b z);refine⟨us,gD4,Mc hul (Lr hlt (bj hlen)),ds.length-(i+1),by lia,rfl,hlt,g2.minus (λb=>b=D\/Fi b),λb=>Fi b\/F2 b,us++[vy],yi++[y],clr ps ρ1,st2.2,(tot.drop sub).upd hD,λz=>z.elim nFD λz=>nFyD D (.inl rfl) (a1 D z),?_,λj i e=>(jw hvs (hcj j i e)).trans (hσ' j i e),aG,?_⟩
          ·refine SE.upd (SE.clr (SE.drop (by rw[hZ ev4];exact se4) sub hgn)) (bf (.inl rfl)) (λxs h=>by cases h)
          ·refine TrL.snoc (tr3.go (λb o hb e=>?_) λb o e n z=>?_) ((a2 (Sx (g2.minus λb=>b=D\/Fi b) λb=>b=D\/(Fi b\/F2 b)) λb z=>?_).go (λb o hb e=>kD b o (λz=>?_) e) λb o e n z=>n z) λb z1 z2=>nFyD b (.inr z1) (a1 b z2)
           ·have nb:b≠D:=λz=>by
             subst z;exact hb.elim (λz=>z (.inr (.inl rfl))) nFD
            refine kD b o nb (ev4.keep b o (λi q1=>?_) e);rcases hb with hb|hb
            ·exact hb (.inl (by rw[bM q1];simp))
            ·rw[bf (.inr hb)] at q1;cases q1
           ·have nb:¬(b=D\/Fi b):=λz=>n (.inr z)
            have gn:(gi2.plus λb=>b=D\/Fi b) b=NX:=by
             rw[cj nb]
             cases q1:gi2 b with
             |none=>rfl
             |some x=>exact absurd (.inl (by rw[q1];simp)) n
            obtain⟨f1,f2⟩:=ev4.froz e gn;rcases z with z|z
            ·rw[bL nb] at z;exact z f1
            ·rcases sub b z with z|z
             ·exact nb z
             ·exact f2 z
           ·rcases z with z|z
            ·by_cases hb:b=D\/Fi b
             ·rw[hV hb] at z;exact absurd rfl z
             ·rw[bL hb] at z;exact .inr (.inl z)
            ·rcases z with z|z|z
             ·right;left;rw[(ev4.out b).mp (bf (.inl z))];simp
             ·right;left;rw[(ev4.out b).mp (bf (.inr z))];simp
             ·exact .inr (.inr (.inl z))
           ·subst z;exact hb.elim (λz=>z (.inr (.inl rfl))) λz=>nFyD b (.inl rfl) (a1 b z)
         ·cases he
        ·rename_i ρt hT;cases he
         have st2:aK r (fv (aO c scope) t ft fe) (ds.take (i+1)) ρc=NW (yi,clr ps ρt):=by
          rcases st with⟨ρ1,e,e2⟩|⟨kd,ρ1,e,_⟩
          ·rw[ho0] at e;cases e;exact e2
          ·rw[ho0] at e;cases e
         refine hft C1 s01 H01 ex1 _ NZ ρt hT _ _ _ _ t1 λgt H3 evt set=>uK ?_;obtain⟨gi2,ev3,hgp,gD3,tr3⟩:=rq ev2 nFD (s2 _ _ gD) tr2 evt;rw[<- hgp] at set;exact⟨ds.length-(i+1),by lia,rfl,hlt,gi2,Fi,us,yi,clr ps ρt,st2,ev3,nFD,SE.clr set,λj i e=>(jw hvs (hcj j i e)).trans (hσ' j i e),gD3,tr3⟩
        ·cases he
       ·cases he
      ·cases he
     ·have e:i=ds.length:=by lia
      subst e;rw[Ma,hm] at hyi;cases hyi;refine .inl ⟨j1 (Lo _),?_⟩;have hrn:(cK (ii (aO c scope))).Nodup:=by rw[iQ];simpa[lF] using hcap
      have hre:g.re (mQ (ii (aO c scope)))=g':=by
       rw[<- hg'];congr 1;funext i;exact yQ _ _
      have rv:VR1 X.K H' gi (λb=>b=D\/Fi b) (.fr (.own [] r)) (.lst ys) (.ref D) (λb=>b=D\/Fi b):=by
       show Tr _ _ _ _ _ _ _;unfold Tr
       exact⟨D,_,us,Fi,rfl,gD,rfl,λ_=>nFD,(λh=>nomatch h),λb=>⟨λz=>z.imp (λz=>⟨rfl,z⟩) id,λz=>z.imp (λz=>z.2) id⟩,tr⟩
      obtain⟨c1,c2,c3⟩:=lH (K:=X.K) (g:=g) (H:=H1) (g1:=g) (H1:=H1) (F:=λ_=>False) (ρ:=ρ) (σ:=σ) (ras:=ii (aO c scope)) (ρc:=ρe) (σc:=σ') hrn (by rw[hel];simp[ii]) rfl (.refl g H1) (by rw[bq λ_ z=>z];exact se0)
       (λj i sl w ej eo ew=>by
        unfold ii at ej;rw[Ll] at ej
        cases q1:(aO c scope)[j]? with
        |none=>rw[q1] at ej;cases ej
        |some o=>
         rw[q1] at ej
         cases o with
         |none=>cases ej
         |some i'=>
          cases ej;rw[hσ' j i q1] at ew;unfold dQ at ew;rw[Ll,q1] at ew;have ew':(σ[i]?).join=NW w:=by simpa using ew
          cases q2:σ[i]? with
          |none=>rw[q2] at ew';cases ew'
          |some w'=>rw[q2] at ew';have:w'=NW w:=ew';rw[this]) (by rw[hre];exact evi) se' rv
      exact q _ _ H' _ c1 c2 c3
    ·cases h
   ·cases h
  ·cases h
 ·cases h
theorem yR(O:aC X Γ c){r:Ow}{fi:Ro->IR}{ft:Ro->Option (Bool×Ro)}{fe:Ro->MR}{elt tg iter:N0}{ifs:List N0}{scope:Of}{pos:Pos}{t:IT}{n:Nat}(hck:bO c scope=NY)(hns:dH iter=NY)(hi:jc X fi tg iter)
  (htg:oX ⟨gq scope c.sc,aA scope,gZ scope⟩ n tg=NW t)
  (hft:∀C s H ex,ki (aX X (aA scope) scope C s H ex) ft ifs) (hfe:∀C s H ex,bF (aX X (aA scope) scope C s H ex) fe elt) :
  bF X (λρ=>gA r (fi ρ) (fv (aO c scope) t ft fe) (aO c scope)) (.ListComp elt [⟨tg,iter,ifs,0⟩] scope pos):=by
 intro ρ kd d ρ' h g σ H Q se q
 exact aE (nM (N':=aA scope) (cap:=aO c scope) O.calm (gr O hck) xW
  (λC s H0 ex pins s' σ' H' v u Q' I r hh=>xX pins s' σ' H' v u Q' I r (hh C s H0 ex)) (λC s H0 ex pins s' σ' H' Q' I hh=>hh C s H0 ex pins s' I) (λC s H0 ex pins s' σ' H' Q' I hh=>hh C s H0 ex pins s' I) (eB hns)) (rs O hck hi htg hft hfe h se q)
end
end J
namespace J
open PySem PySem.Spec L2
noncomputable def w2(X:Cx)(a b:N0)(σ:L2.St)(H:Hp)(R:List V->Hp->Prop):Prop:=wE X a σ H λx H1=>wE X b σ H1 λy H2=>R [x,y] H2
noncomputable def kj(X:Cx)(f:Ro->Option (List KD×Ro))(a b:N0):Prop:=∀ρ kds ρ',f ρ=NW (kds,ρ')->∀g σ H Q,SE X.K g ρ σ H->
 (∀vs g' H' F,Evo g H g' H' F->SE X.K (g'.plus F) ρ' σ H'->VRL X.K H' g' F kds vs F->Q vs H')->w2 X a b σ H Q
noncomputable def Strict2(X:Cx)(f:List KD->Option KD)(a b node:N0):Prop:=∀kds kd d,f kds=NW (kd,d)->∀σ H Q,w2 X a b σ H (Kn X kds kd d Q)->wE X node σ H Q
section
variable {X:Cx} {Γ:fV} {c:Cz}
theorem Strict2.m{f:List KD->Option KD}{fa:Ro->Option (List KD×Ro)}(h:Strict2 X f a b node)(ha:kj X fa a b):bF X (λρ=>(fa ρ).bind λp=>(f p.1).map λq=>(q.1,q.2,p.2)) node:=by
 intro ρ kd d ρ' hd g σ H Q se q;dsimp only at hd
 cases e:fa ρ with
 |none=>rw[e] at hd;cases hd
 |some p=>
  obtain⟨kds,ρ1⟩:=p;rw[e] at hd;dsimp only[L1] at hd
  cases e2:f kds with
  |none=>rw[e2] at hd;cases hd
  |some r=>
   rw[e2] at hd;cases hd;refine h kds r.1 r.2 e2 σ H Q (ha ρ kds _ e g σ H _ se λvs g1 H1 F ev se1 r1=>⟨g1,k9 H1 F,vO se1 λb z=>(ev.tmp b z).1,n8,r1.off,λv H2 s2 r2=>?_⟩);obtain⟨F2,b1,b2⟩:=r2;obtain⟨c1,c2⟩:=pQ ev se1 s2 b1 b2.dom;exact q v g1 H2 F2 c1 c2 b2
theorem VR.one{v:V}(h:VR K g H0 H kd d v):VRs K g H0 H [(kd,d)] [v]:=by
 obtain⟨F,h1,h2⟩:=h;exact⟨F,h1,v,[],F,λ_=>False,rfl,λb=>⟨.inl,λz=>z.elim id λz=>z.elim⟩,λ_ _ z=>z,h2,rfl,λ_ z=>z⟩
theorem CA{fa:Ro->MR}{fb:Ro->Option KD}(ha:bF X fa a)(hb:SndE X fb b):kj X (λρ=>fZ (fa ρ) λρ=>fW (fb ρ) (NW [])) a b:=by
 intro ρ kds ρ' h g σ H Q se q;dsimp only[fZ] at h;split at h
 ·rename_i kd d ρ1 e1;split at h
  ·rename_i kds' e2;cases h;unfold fW at e2;split at e2
   ·rename_i x xs ex exs;cases e2;cases exs;obtain⟨kb,db⟩:=x;refine ha ρ kd d ρ' e1 g σ H _ se λv g1 H1 F1 ev1 se1 r1=>hb ρ' kb db ex (g1.plus F1) σ H1 _ se1 λw H2 s2 r2=>?_;obtain⟨F',c1,c2,c3⟩:=rj (kds:=[(kb,db)]) (vs:=[w]) ev1 se1 r1 s2 r2.one;exact q [v,w] g1 H2 F' c1 c2 c3
   ·cases e2
  ·cases h
 ·cases h
theorem yS{fa fb:Ro->MR}(ha:bF X fa a)(hb:bF X fb b):kj X (λρ=>gw (fa ρ) λρ=>fZ (fb ρ) λ_=>NW []) a b:=by
 intro ρ kds ρ' h g σ H Q se q;dsimp only[gw] at h;split at h
 ·rename_i kd d ρ1 e1;split at h
  ·cases h
  ·rename_i hbo;split at h
   ·rename_i kds' ρ2 e2;cases h;unfold fZ at e2;split at e2
    ·rename_i kb db ρ3 e3;cases e2;refine ha ρ kd d ρ1 e1 g σ H _ se λv g1 H1 F1 ev1 se1 r1=>hb ρ1 kb db ρ' e3 (g1.plus F1) σ H1 _ se1 λw g2 H2 F2 ev2 se2 r2=>?_;have r2':VRL X.K H2 g2 F2 [(kb,db)] [w] F2:=⟨w,[],F2,λ_=>False,rfl,λb=>⟨.inl,λz=>z.elim id λz=>z.elim⟩,λ_ _ z=>z,r2,rfl,λ_ z=>z⟩;obtain⟨c1,c2,c3⟩:=n6 (by simpa using hbo) ev1 (r1.im se1.mu) ev2 se2 r2';exact q [v,w] _ H2 _ c1 c2 c3
    ·cases e2
   ·cases h
 ·cases h
noncomputable def f2(f:KD->KD->Option KD):List KD->Option KD
 |[x,y]=>f x y
 |_=>NX
theorem n_bin:Strict2 X (f2 (ef op)) a b (.BinOp a op b pos):=by
 intro kds kd d h σ H Q hA
 match kds,h with
 |[x,y],h=>
  refine aE (Ae (u3 op) aB aB) (cU hA λvx H1 h1=>cU h1 λvy H2 ⟨g,H0,m,s,r,q⟩=>?_);obtain⟨v,v',e,r1,r2⟩:=r.two;cases e;exact⟨g,H0,x,y,kd,d,m,s,r1,r2,h,λv H' s' r'=>q v H' s' (r'.older s)⟩
theorem CB(O:aC X Γ c){op:Om}{a b:N0}{pos:Pos}{fa:Ro->Option (List KD×Ro)}(hm:Oj op b=NZ)(ha:kj X fa a b):fY X (λρ=>(fa ρ).bind λp=>(match p.1 with|[x,y]=>(bR op x.2 y.2).map λb=>(b,p.2)|_=>NX)) (.Compare a [op] [b] pos):=by
 intro ρ bb ρ' h g σ H Q se q;dsimp only at h
 cases e:fa ρ with
 |none=>rw[e] at h;cases h
 |some p=>
  obtain⟨kds,ρ1⟩:=p;rw[e] at h;dsimp only[L1] at h;split at h
  ·rename_i x y;obtain⟨r0,hc,e2⟩:=aZ h;cases e2;have hh:w2 X a b σ H (λvs H2=>∀v w,vs=[v,w]->u4 X.K op v w H2 λz H3=>∃k,z=.bl k/\Q k H3):=ha ρ _ _ e g σ H _ se (λvs g1 H1 F ev se1 r=>?_)
   ·refine nN (qD (jX O.tab.units op) aB aB hm) ?_;show wE X a σ H λvx H1=>wE X b σ H1 λvy H2=>u4 X.K op vx vy H2 λz H3=>∃k,z=.bl k/\Q k H3;exact cU hh λvx H1 h1=>cU h1 λvy H2 h2=>h2 vx vy rfl
   intro v w evs;subst evs;obtain⟨v',w',e3,r1,r2⟩:=r.off.two;cases e3;have cl:=pQ (F2:=λ_=>False) ev se1 (Same.refl H1) (λb z=>z.elim) (λb z=>z.elim);exact⟨x.2,y.2,bb,r1.rd,r2.rd,hc,bb,rfl,q g1 H1 cl.1 (by have:=cl.2;rw[bq λ_ z=>z] at this;exact this)⟩
  ·cases h
noncomputable def pS(x y:KD):Option KD:=match x.2 with
 |.nd hd xs=>(match hd with
  |.lst=>(match y.2 with|.int j=>if gm x.1 xs=NY then NW (.fr bv,.lst (k6 xs NX (NW j))) else NX|_=>NX)
  |_=>NX)
 |_=>NX
theorem n_slh{a b:N0}{p2 pos:Pos}:Strict2 X (f2 pS) a b (.Subscript a (.Slice NX (NW b) NX p2) pos):=by
 intro kds kd d h σ H Q hA
 match kds,h with
 |[x,y],h0=>
  have h:pS x y=NW (kd,d):=h0;clear h0;obtain⟨kx,dx⟩:=x;obtain⟨ky,dy⟩:=y
  cases dx with
  |nd hd xs=>cases hd with
   |lst=>cases dy with
    |int j=>
     obtain⟨hk,e⟩:=uZ (show(if gm kx xs=NY then NW (Kd.fr bv,D.lst (k6 xs NX (NW j))) else NX)=NW (kd,d) from h)
     cases e;refine aE (jJ mt aB qF (qG aB)) (cU hA λvx H1 h1=>cU h1 λvy H2 ⟨g,H0,m,s,r,q⟩=>?_);obtain⟨v,v',e,r1,r2⟩:=r.two;cases e;obtain rfl:=r2.rd.int;obtain⟨p,o,us,rfl,g1,q1,rr⟩:=r1.items hk m s;cases(show o=_ from q1);exact⟨j,rfl,p,us,rfl,.of g1,λp' hp'=>q _ _ (aq hp') ((k5 hp' (rr.cut NX (NW j))).older s)⟩
    |_=>cases h
   |_=>cases h
  |_=>cases h
noncomputable def G8:KD->KD->Option KD:=λx y=>qS (NW x) (NW y)
theorem IB(O:aC X Γ c){a b:N0}{pos:Pos}(hp:cR b=NY):Strict2 X (f2 G8) a b (.Subscript a b pos):=by
 intro kds kd d h σ H Q hA
 match kds,h with
 |[x,y],h0=>
  have h:qS (NW x) (NW y)=NW (kd,d):=h0;clear h0;obtain⟨kx,dx⟩:=x;obtain⟨ky,dy⟩:=y
  have mono:∀{R:V->V->Hp->Prop},(∀vx vy H2 g H0,MuOk H0 (Sg g)->Same H0 H2->VR X.K g H0 H2 kx dx vx->VR X.K g H0 H2 ky dy vy->(∀v H',Same H2 H'->VR X.K g H0 H' kd d v->Q v H')->R vx vy H2)->wE X a σ H λvx H1=>wE X b σ H1 λvy H2=>R vx vy H2:=λk=>
   cU hA λvx H1 h1=>cU h1 λvy H2 ⟨g,H0,m,s,r,q⟩=>by
    obtain⟨v,v',e,r1,r2⟩:=r.two;cases e;exact k vx vy H2 g H0 m s r1 r2 q
  rcases qT h with⟨i,e,hh⟩|⟨p,e,hh⟩
  ·cases(show dy=_ from e);refine aE (qI mq aB aB (ck hp)) (mono λvx vy H2 g H0 m s rx ry q=>?_);obtain rfl:=ry.rd.int;exact qU hh rx λv r=>q v H2 (Same.refl H2) r
  ·cases(show dx=_ from e);exact aE (my (by have:=O.tab.units;lia) aB aB (ck hp)) (mono λvx vy H2 g H0 m s rx ry q=>nT hh rx ry λv r=>q v H2 (Same.refl H2) r)
theorem n_lst:StrictOk X (λkds=>g6 k (NW kds)) es (.List es pos):=by
 intro kds kd d h σ H Q hA;dsimp only[g6] at h;split at h
 ·split at h
  ·rename_i hz;cases h;refine aE (uC dE) (bN hA λvs H1 ⟨g,H0,m,s1,r1,q⟩=>⟨by rw[r1.len];exact bj hz.2,λp hp=>?_⟩);exact q _ _ (aq hp) (r1.node hz.1 m s1 hp rfl rfl)
  ·cases h
 ·cases h
theorem n_tup{n:Nat}:StrictOk X (λkds=>g7 k (NW kds)) es (.Tuple es n pos):=by
 intro kds kd d h σ H Q hA;dsimp only[g7] at h;split at h
 ·split at h
  ·rename_i hz;cases h;refine aE (mf dE) (bN hA λvs H1 ⟨g,H0,m,s1,r1,q⟩=>⟨by rw[r1.len];exact bj hz.2,λp hp=>?_⟩);exact q _ _ (aq hp) (r1.tupO hz.1 m s1 hp)
  ·cases h
 ·split at h
  ·rename_i hz;cases h;refine aE (mf dE) (bN hA λvs H1 ⟨g,H0,m,s1,r1,q⟩=>⟨by rw[r1.len];exact bj hz.2,λp hp=>?_⟩);exact q _ _ (aq hp) ((BH (m.same s1) hp (r1.sh hz.1 m s1)).older s1)
  ·cases h
theorem IC(O:aC X Γ c){x:Str}{φ:Fn}{e:N0}{es:List N0}{p pos:Pos}(hφ:Γ.fn x=NW φ)(hg:eh c.sc x=NY)(n1:ar e=NY)(n2:es.all ar=NY):StrictOk X (tw φ) (e::es) (.Call (.Name x p) (e::es) [] pos):=by
 intro kds kd d h σ H Q hA;refine aE (u6 (t:=wA X (e::es)) (λ_ _ _ _=>bN) (O.tab.fn x φ hφ) (cA O hg) dE (ao n1) (bJ n2)) (bN hA λvs H1 ⟨g,H0,m,s1,r1,q⟩=>?_);exact mO X.K h m s1 r1 q
theorem ID(O:aC X Γ c){x:Str}{φ:Fm}{e:N0}{es:List N0}{p pos:Pos}{fa:Ro->Option (List RA×Ro)}(hφ:Γ.fm x=NW λK=>As K φ)(hg:eh c.sc x=NY)(n1:ar e=NY)(n2:es.all ar=NY)(ha:jb X fa (e::es)) :
  bF X (λρ=>Cu (NW φ) (fa ρ)) (.Call (.Name x p) (e::es) [] pos):=by
 intro ρ kd d ρ' h g σ H Q se q;obtain⟨n,fa',fd,ps,F,hr,hm,hk,hb,hdb⟩:=O.tab.fm x _ hφ;dsimp only at h
 cases hf:fa ρ with
 |none=>rw[hf] at h;cases h
 |some pr=>
  obtain⟨ras,ρ1⟩:=pr;rw[hf] at h;refine aE (qE (E:=E0) F hr (cA O hg) hm hk hb .nil uJ dE hdb (ao n1) (bJ n2)) (ha ρ ras ρ1 hf g σ H _ se λvs g1 H1 Fv ev se1 r1=>?_);rw[MM];exact yP h ev se1 r1 q
noncomputable def tB(i:Nat)(ρ:Ro):MR:=match ρ[i]? with
 |some (NW ⟨NZ,k,d⟩)=>if k4 k=NY then NW (.sh,d,ρ) else NW (.fr k,d,ρ.set i NX)
 |_=>NX
noncomputable def tD(i:Nat)(ρ:Ro):MR:=match ρ[i]? with
 |some (NW ⟨NZ,k,d⟩)=>NW (.sh,d,ρ.set i (NW ⟨NZ,.fz,d⟩))
 |_=>NX
open Classical in
noncomputable def Gh.off(g:Gh)(i:Nat):Gh:=λb=>if g b=NW (NW i) then NX else g b
theorem lI{g:Gh}{i:Nat}(h:Sg (g.off i) b):Sg g b/\g b≠NW (NW i):=by
 by_cases n:g b=NW (NW i)
 ·exact absurd (by unfold Gh.off;rw[if_pos n]) h
 ·refine⟨λz=>h ?_,n⟩;unfold Gh.off;rw[if_neg n];exact z
theorem vQ{g:Gh}{i:Nat}(h:g b≠NW (NW i)):g.off i b=g b:=by unfold Gh.off;rw[if_neg h]
theorem CC{g:Gh}{i:Nat}(h:g b=NW (NW i)):g.off i b=NX:=by unfold Gh.off;rw[if_pos h]
theorem og{g:Gh}{i:Nat}(h:g.off i b=NW x):g b=NW x/\x≠NW i:=by
 unfold Gh.off at h;split at h
 ·cases h
 ·rename_i n;exact⟨h,λz=>n (by rw[h,z])⟩
theorem mS{g:Gh}{i:Nat}{F:Pr}(hF:∀b,F b->g b=NW (NW i)):Evo g H (g.off i) H F:=by
 refine⟨λ_ _ _ e=>e,λb=>⟨λe=>?_,λe=>(og e).1⟩,λb j e=>.inl ⟨j,(og e).1⟩,λb z=>⟨CC (hF b z),.inl ⟨i,hF b z⟩⟩,λ_ o e=>⟨o,e⟩⟩;rw[vQ (by rw[e];simp)];exact e
theorem pT{g:Gh}{i:Nat}{F:Pr}{ρ ρ':Ro}{σ:L2.St}(se:SE K g ρ σ H)(hF:∀b,F b->g b=NW (NW i))(hl:ρ'.length=ρ.length)(hs:∀(j:Nat) sl,ρ'[j]?=NW (NW sl)->(j≠i/\ρ[j]?=NW (NW sl))\/(∃v,σ[j]?=NW (NW v)/\sl.k=.fz/\Rp K H (Sg ((g.off i).plus F)) sl.d v)):SE K ((g.off i).plus F) ρ' σ H:=by
 have sub:∀b,Sg ((g.off i).plus F) b->Sg g b:=λb z=>((av b).mp z).elim (λz=>(lI z).1) λz=>by rw[Sg,hF b z];simp
 refine⟨λj sl e=>?_,λb z=>se.mu b (sub b z),by rw[hl];exact se.len⟩;rcases hs j sl e with⟨hj,e1⟩|⟨v,e1,e2,e3⟩
 ·obtain⟨v,F0,q1,q2,q3⟩:=se.slot j sl e1;refine⟨v,F0,q1,λb z=>?_,q3.go (λ_ _ _ e=>e) λb o _ n z=>n (sub b z)⟩;have q4:=q2 b z;refine cu ?_ λz2=>by rw[hF b z2] at q4;cases q4;exact hj rfl
  rw[vQ (by rw[q4];intro z;cases z;exact hj rfl)];exact q4
 ·obtain⟨lk,k,d⟩:=sl;have e2:k=.fz:=e2;subst e2;exact⟨v,λ_=>False,e1,λb z=>z.elim,.fz e3⟩
theorem dq(O:aC X Γ c){x:Str}{i:Nat}(hc:cX c x=NW i)(pos:Pos){σ:L2.St}{H:Hp}{v:V}{Q:VK}(e:σ[i]?=NW (NW v))(q:Q v H):wE X (.Name x pos) σ H Q:=by
 unfold cX at hc;split at hc
 ·rename_i j hj;split at hc
  ·rename_i hv;cases hc;simp only[Lj,mJ,Nb] at hv;exact aE (o3 (i:=i) (by rw[O.N];exact aY hj) (by rw[O.sc];exact mI hv.1) hv.2.1 hv.2.2) ⟨v,e,q⟩
  ·cases hc
 ·cases hc
theorem FD(O:aC X Γ c){x:Str}{i:Nat}(hc:cX c x=NW i)(pos:Pos):bF X (tB i) (.Name x pos):=by
 intro ρ kd d ρ' h g σ H Q se q;unfold tB at h;split at h
 ·rename_i k d' e;obtain⟨v,F0,e1,e2,e3⟩:=se.slot i _ e;split at h
  ·rename_i hk;cases h;have hk':=gW hk;subst hk';refine dq O hc pos e1 (q v g H (λ_=>False) (.refl g H) (by rw[bq λ_ z=>z];exact se) ⟨λ_ z=>z,?_⟩);exact e3.fz_inv.2.weak λb z=>z.elim id λz=>z.elim
  ·cases h;refine dq O hc pos e1 (q v (g.off i) H F0 (mS e2) (pT se e2 (by simp) λj sl e4=>?_) ?_)
   ·by_cases hj:j=i
    ·subst hj
     have hlt:j<ρ.length:=by
      have:=(Lk.mp e4).1;simpa using this
     rw[Ly hlt] at e4;cases e4
    ·rw[Lx (Ne.symm hj)] at e4;exact .inl ⟨hj,e4⟩
   ·show Tr _ _ _ _ _ _ _;exact e3.go (λ_ _ _ e=>e) λb o _ n z=>n (z.elim (λz=>(lI z).1) λz=>by rw[Sg,e2 b z];simp)
 ·cases h
theorem FE(O:aC X Γ c){x:Str}{i:Nat}(hc:cX c x=NW i)(pos:Pos):bF X (tD i) (.Name x pos):=by
 intro ρ kd d ρ' h g σ H Q se q;unfold tD at h;split at h
 ·rename_i k d' e;cases h;obtain⟨v,F0,e1,e2,e3⟩:=se.slot i _ e;have r:Rp X.K H (Sg ((g.off i).plus λ_=>False)) d v:=e3.rp λb z=>((av b).mp z).elim (λz=>⟨(lI z).1,λz2=>(lI z).2 (e2 b z2)⟩) λz=>z.elim;refine dq O hc pos e1 (q v (g.off i) H (λ_=>False) (mS λ_ z=>z.elim) (pT se (λ_ z=>z.elim) (by simp) λj sl e4=>?_) ⟨λ_ z=>z,?_⟩)
  ·by_cases hj:j=i
   ·subst hj
    have hlt:j<ρ.length:=by
     have:=(Lk.mp e4).1;simpa using this
    rw[Ly hlt] at e4;cases e4;exact .inr ⟨v,e1,rfl,r⟩
   ·rw[Lx (Ne.symm hj)] at e4;exact .inl ⟨hj,e4⟩
  ·exact r.weak λb z=>(av b).mpr z
 ·cases h
theorem lJ{g g1:Gh}(ev:Evo g H g1 H1 F)(se:SE K (g1.plus F) ρ1 σ H1):Evo g H g1 H1 (λ_=>False)/\SE K g1 ρ1 σ H1:=by
 refine⟨ev.drop λ_ z=>z.elim,?_⟩;have:=se.drop (F2:=λ_=>False) (λ_ z=>z.elim) λb z=>(ev.tmp b z).1;rw[bq λ_ z=>z] at this;exact this
noncomputable def DR(g:Option KD->Option (List Nat×List D))(a:MR):IR:=match a with
 |some (kd,d,ρ1)=>Cv (g (NW (d9 kd d,d))) ρ1
 |none=>NX
theorem CD{g:Option KD->Option (List Nat×List D)}(h:DR g a=NW (bs,ds,ρ1)):∃kd d,a=NW (kd,d,ρ1)/\g (NW (d9 kd d,d))=NW (bs,ds):=by
 unfold DR at h;split at h
 ·rename_i kd d ρ2;unfold Cv at h;split at h
  ·rename_i e;cases h;exact⟨kd,d,rfl,e⟩
  ·cases h
 ·cases h
theorem FF(O:aC X Γ c){fa:Ro->MR}{tg e:N0}{p pos:Pos}(hg:eh c.sc "range" = NY)(hn:ar e=NY)(ha:bF X fa e):jc X (λρ=>DR (g9 (NW (.sh,.int 0))) (fa ρ)) tg (.Call (.Name "range" p) [e] [] pos):=by
 intro ρ bs ds ρ1 h g σ H R se q;obtain⟨kd,d,ea,h⟩:=CD h;unfold g9 at h;split at h
 ·rename_i k1 i k2 j e1 e2;cases e1;cases e2;split at h
  ·rename_i hr;simp only[eK,Lj,decide_eq_true_eq] at hr;cases h;refine i6 (lg (cA O hg) (O.tab.bl _ (by simp[aS])) (bd aB cq (ao hn)) (ao hn)) (ha ρ _ _ _ ea g σ H _ se λv g1 H1 F ev se1 vr=>?_);obtain rfl:=vr.rd.int;obtain⟨ev2,se2⟩:=lJ ev se1;refine⟨j,rfl,hr.1.1.2,hr.1.2,q _ .non g1 H1 ev2 se2 ?_ trivial trivial⟩;unfold cY;rw[NB];exact BZ 0 _
  ·cases h
 ·cases h
end
end J
namespace J
open PySem PySem.Spec L2
section
variable {K:Lh} {H:Hp} {S:Pr}
theorem TrL.focus:∀{ds:List D} {es:List Ow} {r:Ow} {xs:List V} {F:Pr} {j:Nat} {d:D},TrL K H S ds es r xs F->ds[j]?=NW d->∃(x:V) (Fj Fr:Pr),xs[j]?=NW x/\(∀b,F b↔Fj b\/Fr b)/\(∀b,Fj b->¬Fr b)/\Tr K H S d (es.getD j r) x Fj/\
  ∀(H':Hp) (S':Pr) (d':D) (Fj':Pr),(∀b o,(¬S b\/Fr b)->H b=NW o->H' b=NW o)->(∀b o,H b=NW o->¬S b->¬S' b)->Tr K H' S' d' (es.getD j r) x Fj'->(∀b,Fj' b->¬Fr b)->TrL K H' S' (ds.set j d') es r xs (λb=>Fj' b\/Fr b)
 |[],_,_,_,_,_,_,h,e=>by simp at e
 |d0::ds,es,r,xs,F,0,d,h,e=>by
  unfold TrL at h;obtain⟨y,ys,F1,F2,rfl,hF,dj,h1,h2⟩:=h;simp at e;subst e
  refine⟨y,F1,F2,rfl,hF,dj,by cases es<;>simpa using h1,λH' S' d' Fj' k1 k2 t dj'=>?_⟩
  show TrL K H' S' (d'::ds) es r (y::ys) _;unfold TrL
  exact⟨y,ys,Fj',F2,rfl,λb=>Iff.rfl,dj',by cases es<;>simpa using t,h2.go k1 k2⟩
 |d0::ds,es,r,xs,F,j+1,d,h,e=>by
  unfold TrL at h;obtain⟨y,ys,F1,F2,rfl,hF,dj,h1,h2⟩:=h
  obtain⟨x,Fj,Fr,e1,e2,e3,e4,e5⟩:=TrL.focus h2 (by simpa using e)
  have eg:es.tail.getD j r=es.getD (j+1) r:=by cases es<;>simp
  rw[eg] at e4;refine⟨x,Fj,λb=>F1 b\/Fr b,by simpa using e1,λb=>?_,λb z1 z2=>?_,e4,λH' S' d' Fj' k1 k2 t dj'=>?_⟩
  ·rw[hF b,e2 b];exact⟨λz=>z.elim (λz=>.inr (.inl z)) λz=>z.imp id .inr,λz=>z.elim (λz=>.inr (.inl z)) λz=>z.imp id .inr⟩
  ·rcases z2 with z2|z2
   ·exact dj b z2 ((e2 b).mpr (.inl z1))
   ·exact e3 b z1 z2
  ·show TrL K H' S' (d0::ds.set j d') es r (y::ys) _;unfold TrL;refine⟨y,ys,F1,λb=>Fj' b\/Fr b,rfl,λb=>⟨λz=>z.elim (λz=>.inr (.inl z)) λz=>z.imp id .inr,λz=>z.elim (λz=>.inr (.inl z)) λz=>z.imp id .inr⟩,λb z1 z2=>?_,h1.go (λb o hb e=>k1 b o (hb.imp id .inl) e) k2,e5 H' S' d' Fj' (λb o hb e=>k1 b o (hb.imp id .inr) e) k2 (by rw[eg];exact t) λb z1 z2=>dj' b z1 (.inr z2)⟩;rcases z2 with z2|z2
   ·exact dj' b z2 (.inl z1)
   ·exact dj b z1 ((e2 b).mpr (.inr z2))
noncomputable def FP(K:Lh)(H:Hp)(S:Pr)(k:Ow)(v:V)(F:Pr)(k1:Ow)(d1:D)(v1:V)(up:D->D):Prop:=∃(F1 Fr:Pr),(∀b,F b↔F1 b\/Fr b)/\(∀b,F1 b->¬Fr b)/\Tr K H S d1 k1 v1 F1/\
  ∀(H':Hp) (S':Pr) (d1':D) (F1':Pr),(∀b o,(¬S b\/Fr b)->H b=NW o->H' b=NW o)->(∀b o,H b=NW o->¬S b->¬S' b)->Tr K H' S' d1' k1 v1 F1'->(∀b,F1' b->¬Fr b)->Tr K H' S' (up d1') k v (λb=>F1' b\/Fr b)
theorem FP.root(h:Tr K H S d k v F):FP K H S k v F k d v id:=by
 refine⟨F,λ_=>False,λb=>⟨.inl,λz=>z.elim id λz=>z.elim⟩,λ_ _ z=>z,h,λH' S' d1' F1' k1 k2 t dj=>?_⟩;have eF:(λb=>F1' b\/False)=F1':=by funext b;exact propext ⟨λz=>z.elim id λz=>z.elim,.inl⟩
 rw[eF];exact t
theorem FP.same(h:FP K H S k v F k1 d1 v1 up)(s:Same H H2):FP K H2 S k v F k1 d1 v1 up:=by
 obtain⟨F1,Fr,h1,h2,h3,h4⟩:=h;exact⟨F1,Fr,h1,h2,h3.go (λb o _ e=>s b o e) λ_ _ _ n=>n,λH' S' d1' F1' k1 k2 t dj=>h4 H' S' d1' F1' (λb o hb e=>k1 b o hb (s b o e)) (λb o e n=>k2 b o (s b o e) n) t dj⟩
theorem FP.step{es:List Ow}{ds:List D}{up:D->D}{j:Nat}(h:FP K H S k v F (.own es r) (.nd hd ds) v1 up)(hj:ds[j]?=NW d):∃a o xs x,v1=.ref a/\H a=NW o/\eV K o hd xs/\xs.length=ds.length/\xs[j]?=NW x/\FP K H S k v F (es.getD j r) d x (λz=>up (.nd hd (ds.set j z))):=by
 obtain⟨F1,Fr,h1,h2,h3,h4⟩:=h;unfold Tr at h3;obtain⟨a,o,xs,F',rfl,q1,q2,n1,n2,hF,t⟩:=h3
 obtain⟨x,Fj,Fq,e1,e2,e3,e4,e5⟩:=t.focus hj
 refine⟨a,o,xs,x,rfl,q1,q2,t.len,e1,Fj,λb=>(hd.mu=NY/\b=a)\/Fq b\/Fr b,λb=>?_,λb z1 z2=>?_,e4,λH' S' d1' F1' k1 k2 t1 dj'=>?_⟩
 ·rw[h1 b,hF b,e2 b];exact⟨λz=>z.elim (λz=>z.elim (λz=>.inr (.inl z)) λz=>z.imp id λz=>.inr (.inl z)) λz=>.inr (.inr (.inr z)),λz=>z.elim (λz=>.inl (.inr (.inl z))) λz=>z.elim (λz=>.inl (.inl z)) λz=>z.elim (λz=>.inl (.inr (.inr z))) .inr⟩
 ·rcases z2 with⟨hm,rfl⟩|z2|z2
  ·exact n1 hm ((e2 b).mpr (.inl z1))
  ·exact e3 b z1 z2
  ·exact h2 b ((hF b).mpr (.inr ((e2 b).mpr (.inl z1)))) z2
 ·have t3:=e5 H' S' d1' F1' (λb o hb e=>k1 b o (hb.imp id λz=>.inr (.inl z)) e) k2 t1 λb z1 z2=>dj' b z1 (.inr (.inl z2))
  have ha:H' a=NW o:=by
   cases hm:hd.mu with
   |true=>exact k1 a o (.inr (.inl ⟨hm,rfl⟩)) q1
   |false=>exact k1 a o (.inl (n2 hm)) q1
  have tn:Tr K H' S' (.nd hd (ds.set j d1')) (.own es r) (.ref a) (λb=>(hd.mu=NY/\b=a)\/(F1' b\/Fq b)):=by
   unfold Tr;exact⟨a,o,xs,λb=>F1' b\/Fq b,rfl,ha,q2,λhm z=>z.elim (λz=>dj' a z (.inl ⟨hm,rfl⟩)) λz=>n1 hm ((e2 a).mpr (.inr z)),λhm=>k2 a o q1 (n2 hm),λb=>Iff.rfl,t3⟩
  have t4:=h4 H' S' _ _ (λb o hb e=>k1 b o (hb.imp id λz=>.inr (.inr z)) e) k2 tn λb z1 z2=>by
   rcases z1 with⟨hm,rfl⟩|z1|z1
   ·exact h2 b ((hF b).mpr (.inl ⟨hm,rfl⟩)) z2
   ·exact dj' b z1 (.inr (.inr z2))
   ·exact h2 b ((hF b).mpr (.inr ((e2 b).mpr (.inr z1)))) z2
  have eF:(λb=>((hd.mu=NY/\b=a)\/(F1' b\/Fq b))\/Fr b)=λb=>F1' b\/((hd.mu=NY/\b=a)\/Fq b\/Fr b):=by
   funext b;exact propext ⟨λz=>z.elim (λz=>z.elim (λz=>.inr (.inl z)) λz=>z.imp id λz=>.inr (.inl z)) λz=>.inr (.inr (.inr z)),λz=>z.elim (λz=>.inl (.inr (.inl z))) λz=>z.elim (λz=>.inl (.inl z)) λz=>z.elim (λz=>.inl (.inr (.inr z))) .inr⟩
  rw[eF] at t4;exact t4
end
noncomputable def At(hd:Hd)(n:Nat)(x:D):Option Nat:=match hd with
 |.lst=>(match x with|.int z=>i4 n z|_=>NX)
 |.tup=>(match x with|.int z=>i4 n z|_=>NX)
 |.dic t ks=>(match gp x with|some k=>if jW t k=NY then a9 ks k else NX|none=>NX)
 |.obj _ _=>NX
noncomputable def kl(p:Option (Ow×D×(D->D)))(x:Option KD):Option (Ow×D×(D->D)):=match p,x with
 |some (.own es r,.nd hd ds,up),NW (_,dx)=>(match At hd ds.length dx with
  |some j=>(match ds[j]? with|some d=>NW (es.getD j r,d,λz=>up (.nd hd (ds.set j z)))|none=>NX)
  |none=>NX)
 |_,_=>NX
noncomputable def jd(o:Option (Option Sl)):Option (Ow×D×(D->D)):=match o with
 |some (NW ⟨NZ,k,d⟩)=>NW (k,d,id)
 |_=>NX
noncomputable def tE(X:Cx)(i:Nat)(f:Ro->Option (Ow×D×(D->D)))(e:N0):Prop:=∀ρ k1 d1 up,f ρ=NW (k1,d1,up)->∀g σ H Q,SE X.K g ρ σ H->
 (∀v1 H' v F k d,Same H H'->ρ[i]?=NW (NW ⟨NZ,k,d⟩)->σ[i]?=NW (NW v)->(∀b,F b->g b=NW (NW i))->FP X.K H' (Sg g) k v F k1 d1 v1 up->Q v1 H')->wE X e σ H Q
section
variable {X:Cx} {Γ:fV} {c:Cz}
theorem CF(O:aC X Γ c){x:Str}{i:Nat}(hc:cX c x=NW i)(pos:Pos):tE X i (λρ=>jd ρ[i]?) (.Name x pos):=by
 intro ρ k1 d1 up h g σ H Q se q;dsimp only[jd] at h;split at h
 ·rename_i k d e;cases h;obtain⟨v,F,e1,e2,e3⟩:=se.slot i _ e;exact dq O hc pos e1 (q v H v F k1 d1 (Same.refl H) e e1 e2 (.root e3))
 ·cases h
theorem CG(O:aC X Γ c){i:Nat}{fp:Ro->Option (Ow×D×(D->D))}{fb:Ro->Option KD}{a b:N0}{pos:Pos}(ha:tE X i fp a)(hb:SndE X fb b)(hp:cR b=NY):tE X i (λρ=>kl (fp ρ) (fb ρ)) (.Subscript a b pos):=by
 intro ρ k1 d1 up h g σ H Q se q;dsimp only[kl] at h;split at h
 ·rename_i es r hd ds up0 kx dx ep ex;split at h
  ·rename_i j hj;split at h
   ·rename_i dj ej;cases h
    cases hd with
    |lst=>
     refine aE (qI mq aB aB (ck hp)) (ha ρ _ _ _ ep g σ H _ se λv1 H1 v F k d s1 e1 e2 e3 fp1=>hb ρ _ _ ex g σ H1 _ (se.same s1) λy H2 s2 r2=>?_)
     cases dx with
     |int z=>
      obtain rfl:=r2.rd.int;obtain⟨a',o,xs,x,rfl,q1,q2,l,ex',fp2⟩:=(fp1.same s2).step ej;cases(show o=_ from q2);exact .inl ⟨a',xs,z,x,rfl,rfl,.of q1,by unfold L2.oV;rw[l,(show i4 ds.length z=NW j from hj)];exact ex',q x H2 v F k d (s1.trans s2) e1 e2 e3 fp2⟩
     |_=>cases hj
    |tup=>
     refine aE (qI mq aB aB (ck hp)) (ha ρ _ _ _ ep g σ H _ se λv1 H1 v F k d s1 e1 e2 e3 fp1=>hb ρ _ _ ex g σ H1 _ (se.same s1) λy H2 s2 r2=>?_)
     cases dx with
     |int z=>
      obtain rfl:=r2.rd.int;obtain⟨a',o,xs,x,rfl,q1,q2,l,ex',fp2⟩:=(fp1.same s2).step ej;cases(show o=_ from q2);exact .inr (.inl ⟨a',xs,z,x,rfl,rfl,.of q1,by unfold L2.oV;rw[l,(show i4 ds.length z=NW j from hj)];exact ex',q x H2 v F k d (s1.trans s2) e1 e2 e3 fp2⟩)
     |_=>cases hj
    |dic t ks=>
     simp only[At] at hj;split at hj
     ·rename_i kk hk;split at hj
      ·rename_i hf;refine aE (my (by have:=O.tab.units;lia) aB aB (ck hp)) (ha ρ _ _ _ ep g σ H _ se λv1 H1 v F k d s1 e1 e2 e3 fp1=>hb ρ _ _ ex g σ H1 _ (se.same s1) λy H2 s2 r2=>?_);obtain⟨a',o,xs,x,rfl,q1,q2,l,ex',fp2⟩:=(fp1.same s2).step ej;have dg:=mH q1 q2 hk r2.rd hf;rw[hj,L1,ex'] at dg;exact⟨a',x,rfl,dg,q x H2 v F k d (s1.trans s2) e1 e2 e3 fp2⟩
      ·cases hj
     ·cases hj
    |obj c ns=>cases hj
   ·cases h
  ·cases h
 ·cases h
end
section
variable {X:Cx}
end
open Classical in
noncomputable def Gh.give(g:Gh)(F:Pr)(i:Nat):Gh:=λb=>if F b then NW (NW i) else g b
section
variable {K:Lh} {H:Hp} {g:Gh} {F:Pr} {ρ:Ro} {σ:L2.St}
theorem ij{F2:Pr}{i:Nat}(h:F2 b):g.give F2 i b=NW (NW i):=by unfold Gh.give;rw[if_pos h]
theorem bG{F2:Pr}{i:Nat}(h:¬F2 b):g.give F2 i b=g b:=by unfold Gh.give;rw[if_neg h]
theorem give_S{F2:Pr}{i:Nat}:Sg (g.give F2 i) b↔Sg g b\/F2 b:=by
 by_cases h:F2 b
 ·exact⟨λ_=>.inr h,λ_=>by rw[Sg,ij h];simp⟩
 ·exact⟨λz=>.inl (by rw[Sg,bG h] at z;exact z),λz=>z.elim (λz=>by rw[Sg,bG h];exact z) λz=>absurd z h⟩
structure mT(K:Lh)(H:Hp)(g:Gh)(F:Pr)(ρ:Ro)(σ:L2.St)(i:Nat)(k:Ow)(es:List Ow)(r:Ow)(hd:Hd)(ds:List D)(up:D->D)(a:Addr)(o:HO)(xs:List V)(F':Pr):Prop where
 at_:H a=NW o
 ok:eV K o hd xs
 kids:TrL K H (Sg (g.plus F)) ds es r xs F'
 lab:∀b,F' b->g b=NW (NW i)
 nin:¬F' a
 own:g a=NW (NW i)
 put:∀(o':HO) (hd':Hd) (ds':List D) (xs':List V) (F2 F3:Pr),hd'.mu=NY->eV K o' hd' xs'->(∀xs,o'≠.tup xs)->(∀b,F2 b->F b)->(∀b,F3 b->F' b\/F2 b)->TrL K H (Sg (g.give F2 i)) ds' es r xs' F3->
  SE K (g.give F2 i) (ρ.set i (NW ⟨NZ,k,up (.nd hd' ds')⟩)) σ (upd H a o')
theorem FP.node{i:Nat}{Fi:Pr}{hd:Hd}(se:SE K (g.plus F) ρ σ H)(hg:∀b,F b->g b=NX)(e:ρ[i]?=NW (NW ⟨NZ,k,d⟩))(hv:σ[i]?=NW (NW v))(lb:∀b,Fi b->(g.plus F) b=NW (NW i))(fp:FP K H (Sg (g.plus F)) k v Fi (.own es r) (.nd hd ds) v1 up)(hm:hd.mu=NY):∃a o xs F',v1=.ref a/\mT K H g F ρ σ i k es r hd ds up a o xs F':=by
 obtain⟨F1,Fr,h1,h2,h3,h4⟩:=fp;unfold Tr at h3;obtain⟨a,o,xs,F',rfl,q1,q2,n1,n2,hF,t⟩:=h3;have gl:∀b,Fi b->g b=NW (NW i):=λb z=>bM (lb b z);have ga:g a=NW (NW i):=gl a ((h1 a).mpr (.inl ((hF a).mpr (.inl ⟨hm,rfl⟩))));have gF:∀b,F' b->g b=NW (NW i):=λb z=>gl b ((h1 b).mpr (.inl ((hF b).mpr (.inr z))));refine⟨a,o,xs,F',rfl,q1,q2,t,gF,n1 hm,ga,λo' hd' ds' xs' F2 F3 hm' ok' nt s2 s3 t'=>?_⟩;have sub:∀b,Sg (g.give F2 i) b->Sg (g.plus F) b:=λb z=>(av b).mpr ((give_S.mp z).imp id (s2 b));have kb:∀b o2,b≠a->H b=NW o2->upd H a o' b=NW o2:=λb o2 n e=>by rw[al n];exact e
 have nF2:∀b,F2 b->g b=NX:=λb z=>hg b (s2 b z);have nF3a:¬F3 a:=λz=>(s3 a z).elim (n1 hm) λz=>by rw[nF2 a z] at ga;cases ga
 refine⟨λj sl ej=>?_,λb z=>?_,by simp[se.len]⟩
 ·by_cases hj:j=i
  ·subst hj
   have hlt:j<ρ.length:=by
    have:=(Lk.mp ej).1;simpa using this
   rw[Ly hlt] at ej;cases ej
   have tn:Tr K (upd H a o') (Sg (g.give F2 j)) (.nd hd' ds') (.own es r) (.ref a) (λb=>b=a\/F3 b):=by
    unfold Tr;refine⟨a,o',xs',F3,rfl,aG,ok',λ_=>nF3a,λh=>by (rw[hm'] at h;cases h),λb=>⟨λz=>z.imp (λz=>⟨hm',z⟩) id,λz=>z.imp (λz=>z.2) id⟩,t'.go (λb o2 hb e=>kb b o2 (λz=>?_) e) λ_ _ _ n=>n⟩;subst z;rcases hb with hb|hb
    ·exact hb (give_S.mpr (.inl (by rw[Sg,ga];simp)))
    ·exact nF3a hb
   refine⟨v,_,hv,λb z=>?_,h4 (upd H a o') (Sg (g.give F2 j)) _ _ (λb o2 hb e=>kb b o2 (λz=>?_) e) (λb o2 _ n z=>n (sub b z)) tn λb z1 z2=>?_⟩
   ·rcases z with(rfl|z)|z
    ·rw[bG (λz=>by rw[nF2 b z] at ga;cases ga)];exact ga
    ·by_cases z2:F2 b
     ·exact ij z2
     ·rw[bG z2];exact(s3 b z).elim (gF b) λz=>absurd z z2
    ·have:=gl b ((h1 b).mpr (.inr z));rw[bG (λz=>by rw[nF2 b z] at this;cases this)];exact this
   ·subst z;rcases hb with hb|hb
    ·exact hb ((av b).mpr (.inl (by rw[Sg,ga];simp)))
    ·exact h2 b ((hF b).mpr (.inl ⟨hm,rfl⟩)) hb
   ·rcases z1 with rfl|z1
    ·exact h2 b ((hF b).mpr (.inl ⟨hm,rfl⟩)) z2
    ·rcases s3 b z1 with z|z
     ·exact h2 b ((hF b).mpr (.inr z)) z2
     ·have:=gl b ((h1 b).mpr (.inr z2));rw[nF2 b z] at this;cases this
  ·rw[Lx (Ne.symm hj)] at ej;obtain⟨w,Fj,e1,e2,e3⟩:=se.slot j sl ej;have gj:∀b,Fj b->g b=NW (NW j):=λb z=>bM (e2 b z);refine⟨w,Fj,e1,λb z=>?_,e3.go (λb o2 hb e=>kb b o2 (λz=>?_) e) λb o2 _ n z=>n (sub b z)⟩
   ·have:=gj b z;rw[bG (λz=>by rw[nF2 b z] at this;cases this)];exact this
   ·subst z;rcases hb with hb|hb
    ·exact hb ((av b).mpr (.inl (by rw[Sg,ga];simp)))
    ·rw[gj b hb] at ga;cases ga;exact hj rfl
 ·by_cases hb:b=a
  ·exact⟨o',by rw[hb];exact aG,nt⟩
  ·obtain⟨o2,e2,n⟩:=se.mu b (sub b z);exact⟨o2,kb b o2 hb e2,n⟩
theorem Evo.give{i:Nat}{F2:Pr}(ev:Evo g0 H0 g H F)(s2:∀b,F2 b->F b)(ga:g a=NW (NW i)):Evo g0 H0 (g.give F2 i) (L2.upd H a o') (λ_=>False):=by
 have nF2:∀b,F2 b->g b=NX:=λb z=>(ev.tmp b (s2 b z)).1;refine⟨λb o n e=>?_,λb=>⟨λe=>?_,λe=>?_⟩,λb j e=>?_,λ_ z=>z.elim,λb o e=>?_⟩
 ·rw[al (λz=>?_)]
  ·exact ev.keep b o n e
  ·subst z;rcases ev.new b i ga with⟨j,q⟩|q
   ·exact n j q
   ·rw[e] at q;cases q
 ·have:=(ev.out b).mp e;rw[bG (λz=>by rw[nF2 b z] at this;cases this)];exact this
 ·by_cases z:F2 b
  ·rw[ij z] at e;cases e
  ·rw[bG z] at e;exact(ev.out b).mpr e
 ·by_cases z:F2 b
  ·exact(ev.tmp b (s2 b z)).2
  ·rw[bG z] at e;exact ev.new b j e
 ·by_cases hb:b=a
  ·exact⟨o',by rw[hb];exact aG⟩
  ·obtain⟨o2,q⟩:=ev.dom b o e;exact⟨o2,by rw[al hb];exact q⟩
end
end J
namespace L2
open PySem PySem.Spec PyProof.Rows
section
variable {X:Cx}
end
end L2
namespace J
open PySem PySem.Spec L2
noncomputable def jl(m:Str)(es:List Ow)(r:Ow)(ds:List D)(as:List KD):Option (D×List D):=
 if m="append" then(match as with|[x]=>if es.length<=ds.length/\cy r x=NY/\ds.length<100000 then NW (.non,ds++[x.2]) else NX|_=>NX)
 else if m="pop" then(match as with
  |[(_,.int z)]=>if lC (.own es r)=NY/\-(2^63)<=z/\z<2^63 then(match seqIndex? z ds.length with|some j=>(ds[j]?).map λd=>(d,ds.eraseIdx j)|none=>NX) else NX
  |_=>NX)
 else NX
noncomputable def CH(m:Str):V->List V->Hp->VK->Prop:=
 if m="append" then qK else if m="pop" then uG else λ_ _ _ _=>False
section
variable {K:Lh} {H:Hp} {g g0:Gh} {H0:Hp} {F F':Pr} {ρ:Ro} {σ:L2.St} {i:Nat} {k:Ow} {es:List Ow} {r:Ow} {ds:List D} {up:D->D} {a:N2} {o:HO} {xs:List V}
theorem rz:g.give (λ_=>False) i=g:=by funext b;exact bG λz=>z
theorem TrL.snoc2:∀{ds:List D} {es:List Ow} {r:Ow} {us:List V} {F F2:Pr} {d:D} {v:V},es.length<=ds.length->TrL K H S ds es r us F->Tr K H S d r v F2->(∀b,F b->¬F2 b)->TrL K H S (ds++[d]) es r (us++[v]) (λb=>F b\/F2 b)
 |[],es,r,us,F,F2,d,v,hl,h,t,dj=>by
  have:es=[]:=Nh.mp (Nat.le_zero.mp hl);subst this;exact TrL.snoc h t dj
 |e::ds,es,r,us,F,F2,d,v,hl,h,t,dj=>by
  unfold TrL at h;obtain⟨y,ys,F1,F3,rfl,hF,dj1,h1,h2⟩:=h;show TrL K H S (e::(ds++[d])) es r (y::(ys++[v])) _;unfold TrL
  refine⟨y,ys++[v],F1,λb=>F3 b\/F2 b,rfl,λb=>?_,λb z1 z2=>?_,h1,TrL.snoc2 (by cases es<;>simp at hl⊢;lia) h2 t λb z=>dj b ((hF b).mpr (.inr z))⟩
  ·show F b\/F2 b↔F1 b\/F3 b\/F2 b;rw[hF b,or_assoc]
  ·rcases z2 with z2|z2
   ·exact dj1 b z1 z2
   ·exact dj b ((hF b).mpr (.inl z1)) z2
theorem TrL.ofFlat:∀{ds:List D} {es:List Ow} {xs:List V},(∀e∈es,e=.fz)->RpL K H S ds xs->TrL K H S ds es .fz xs λ_=>False
 |[],_,_,_,h=>by unfold TrL;exact⟨h.nil_inv,λ_ z=>z⟩
 |d::ds,es,_,he,h=>by
  obtain⟨y,ys,rfl,r,t⟩:=h.cons_inv;unfold TrL
  refine⟨y,ys,_,_,rfl,λb=>⟨.inl,λz=>z.elim id id⟩,λ_ z=>z.elim,?_,TrL.ofFlat (λe q=>he e (by cases es with|nil=>cases q|cons a r=>exact .tail _ q)) t⟩
  have e:es.headD .fz=.fz:=by
   cases es with
   |nil=>rfl
   |cons a r=>exact he a (.head _)
  rw[e];exact Tr.fz r
theorem oh{m:Str}{Q:VK}(h:jl m es r ds as=NW (d',ds'))(nd:mT K H g F ρ σ i k es r .lst ds up a o xs F')(ev:Evo g0 H0 g H F)(se:SE K (g.plus F) ρ σ H)(ra:VRL K H g F as vs F)(q:∀v g' H' Fv,Evo g0 H0 g' H' Fv->SE K (g'.plus Fv) (ρ.set i (NW ⟨NZ,k,up (.lst ds')⟩)) σ H'->VR1 K H' g' Fv .sh d' v Fv->Q v H'):CH m (.ref a) vs H Q:=by
 have ho:o=.lst xs:=nd.ok;subst ho;have hF:∀b,F b->g b=NX:=λb z=>(ev.tmp b z).1;have mm:MuOk H (Sx g F):=λb z=>se.mu b ((av b).mpr z);have sx:∀b,Sg (g.plus F) b↔Sx g F b:=λb=>av b
 -- behind the change
 have fin:∀{xs':List V} {F2 F3:Pr} {v:V},(∀b,F2 b->F b)->(∀b,F3 b->F' b\/F2 b)->TrL K H (Sg (g.give F2 i)) ds' es r xs' F3->Rp K (upd H a (.lst xs')) (Sg (g.give F2 i)) d' v->Q v (upd H a (.lst xs')):=λ{xs' F2 F3 v} s2 s3 t rv=>by
  refine q v (g.give F2 i) _ (λ_=>False) (ev.give s2 nd.own) ?_ ⟨λ_ z=>z,rv.weak λb z=>z.elim id λz=>z.elim⟩;rw[bq λ_ z=>z];exact nd.put (.lst xs') .lst ds' xs' F2 F3 rfl rfl (λ_ h=>by cases h) s2 s3 t
 have old:∀{F2:Pr},(∀b,F2 b->F b)->∀b o,H b=NW o->¬Sg (g.plus F) b->¬Sg (g.give F2 i) b:=λs2 b o _ n z=>n ((av b).mpr ((give_S.mp z).imp id (s2 b)))
 have flat:lC (.own es r)=NY->(∀e∈es,e=.fz)/\r=.fz/\RpL K H (Sg g) ds xs:=λhf=>by
  obtain⟨he,hr⟩:=qQ hf;refine⟨he,hr,?_⟩;have:=nd.kids;rw[hr] at this;exact(this.flat he).2.weak λb z=>(av b).mpr (.inl z)
 have rpU:∀{d:D} {v:V} {xs':List V},Rp K H (Sg g) d v->Rp K (upd H a (.lst xs')) (Sg g) d v:=λr=>r.go λb o n e=>⟨by rw[al (λz=>n (by rw[z,Sg,nd.own];simp))];exact e,n⟩;unfold jl at h;unfold CH;split at h
 ·rename_i hm;rw[if_pos hm];split at h
  ·rename_i x;split at h
   ·rename_i hc;cases h;obtain⟨y,ys,F1,F2',rfl,hF1,dj,r1,rfl,hn⟩:=ra;have e1:∀b,F b↔F1 b:=λb=>⟨λz=>((hF1 b).mp z).elim id λz=>absurd z (hn b),λz=>(hF1 b).mpr (.inl z)⟩;obtain⟨F2,a1,a2⟩:=VR1.fit hc.2.1 mm (λb z=>hF b ((e1 b).mpr z)) (λb z=>(e1 b).mpr z) r1;refine⟨a,xs,y,rfl,rfl,nd.at_,by rw[nd.kids.len];exact Lr hc.2.2 (bj (Lo _)),?_⟩;refine fin (F2:=F2) (F3:=λb=>F' b\/F2 b) (λb z=>(e1 b).mpr (a1 b z)) (λb z=>z) (TrL.snoc2 hc.1 (nd.kids.go (λ_ _ _ e=>e) (old λb z=>(e1 b).mpr (a1 b z))) (a2 _ λb z=>?_) λb z1 z2=>?_) (by unfold Rp;rfl)
    ·rcases give_S.mp z with z|z
     ·exact .inr (.inl z)
     ·exact .inr (.inr (.inl z))
    ·have:=nd.lab b z1;rw[hF b ((e1 b).mpr (a1 b z2))] at this;cases this
   ·cases h
  ·cases h
 ·rename_i hm;rw[if_neg hm];split at h
  ·rename_i hm4;rw[if_pos hm4];split at h
   ·rename_i kz z;split at h
    ·rename_i hc;obtain⟨he,hr,rl⟩:=flat hc.1;subst hr;obtain⟨v,rfl,rv⟩:=ra.off.one;obtain rfl:=rv.rd.int;split at h
     ·rename_i j hj;obtain⟨dd,hd',e⟩:=aZ h;cases e;obtain⟨y,ey,ry⟩:=rl.getD hd';refine⟨a,xs,z,j,y,rfl,rfl,nd.at_,hc.2.1,hc.2.2,by rw[rl.len];exact hj,ey,?_⟩;exact fin (F2:=λ_=>False) (F3:=λ_=>False) (λ_ z=>z.elim) (λ_ z=>z.elim) (by rw[rz];exact .ofFlat he (rl.erase _)) (by rw[rz];exact rpU ry)
     ·cases h
    ·cases h
   ·cases h
  ·cases h
end
noncomputable def mNames:List Str:=["append","pop"]
noncomputable def jm(m:Str)(i:Nat)(p:Option (Ow×D×(D->D)))(as:Option (List KD))(ρ:Ro):MR:=match p,as with
 |some (.own es r,.nd .lst ds,up),NW as=>(match jl m es r ds as,ρ[i]? with
  |some (d',ds'),NW (NW ⟨NZ,k,_⟩)=>NW (.sh,d',ρ.set i (NW ⟨NZ,k,up (.lst ds')⟩))
  |_,_=>NX)
 |_,_=>NX
section
variable {X:Cx} {Γ:fV} {c:Cz}
theorem vR{m:Str}(hm:m∈mNames):∃id,Slot "list" m id/\typeOf (.builtin id)=pure (.type "method_descriptor")/\HX X id (CH m):=by
 simp only[mNames,Lq,L7,or_false] at hm;rcases hm with rfl|rfl
 ·exact⟨_,PySem.F.slot_list_append,PySem.F.type_list_append,fD⟩
 ·exact⟨_,PySem.F.slot_list_pop,PySem.F.type_list_pop,uH⟩
theorem CI{i:Nat}{m:Str}{b e:N0}{ap cp:Pos}{fp:Ro->Option (Ow×D×(D->D))}{fa:Ro->Option KD}(hm:m∈mNames)(hp:tE X i fp b)(ha:SndE X fa e)(hb:dR b=NY)(hn:ar e=NY)(hl:(ap.endLine==cp.line)=NY):bF X (λρ=>jm m i (fp ρ) (fW (fa ρ) (NW [])) ρ) (.Call (.Attribute b m ap) [e] [] cp):=by
 intro ρ kd d ρ' h g σ H Q se q;dsimp only[jm] at h;split at h
 ·rename_i es r ds up as ep ea;split at h
  ·rename_i d' ds' k dd em ei;cases h;obtain⟨mid,s1,s2,s3⟩:=vR (X:=X) hm;refine aE (qJ PySem.F.plainAttrs_list s1 s2 s3 aB (bd aB cq (ao hn)) (jr hb) (mN hn) hl (ao hn) rfl) (hp ρ _ _ _ ep g σ H _ se λv1 H1 v F k0 d0 sm e1 e2 e3 f1=>?_);rw[ei] at e1;cases e1;unfold fW at ea;split at ea
   ·rename_i x xs' ex exs;cases exs;cases ea;obtain⟨kx,dx⟩:=x;have eg:g.plus (λ_=>False)=g:=bq λ_ z=>z
    have sq:∃xs,SqL X.K H1 (match v1 with|.ref a=>a|_=>0) xs/\∃a,v1=.ref a:=by
     obtain⟨a,o,xs,F',rfl,nd⟩:=FP.node (F:=λ_=>False) (by rw[eg];exact se.same sm) (λ_ z=>z.elim) ei e2 (by rw[eg];exact e3) (by rw[eg];exact f1) rfl;have ho:o=.lst xs:=nd.ok;subst ho;exact⟨xs,.of nd.at_,a,rfl⟩
    obtain⟨xs0,sq1,a0,rfl⟩:=sq;refine⟨.inl ⟨rfl,xs0,sq1⟩,ha ρ kx dx ex g σ H1 _ (se.same sm) λy H2 s2' r2=>?_⟩;obtain⟨Fy,y1,y2⟩:=r2;have sy:=(se.same sm).plus s2' y1 y2.dom;have hgy:∀b,Fy b->g b=NX:=λb z=>fJ (se.same sm).mu (y1 b z);have f2':=f1.same s2'
    have f3:FP X.K H2 (Sg (g.plus Fy)) k v F (.own es r) (.lst ds) (.ref a0) up:=by
     obtain⟨F1,Fr,q1,q2,q3,q4⟩:=f1;have k2:∀b o,H1 b=NW o->¬Sg g b->¬Sg (g.plus Fy) b:=λb o e n z=>((av b).mp z).elim n λz=>by rw[y1 b z] at e;cases e
     refine⟨F1,Fr,q1,q2,q3.go (λb o _ e=>s2' b o e) k2,λH' S' d1' F1' t1 t2 t3 t4=>q4 H' S' d1' F1' (λb o hb e=>t1 b o (hb.imp (λn=>k2 b o e n) id) (s2' b o e)) (λb o e n=>t2 b o (s2' b o e) (k2 b o e n)) t3 t4⟩
    obtain⟨a,o,xs,F',e4,nd⟩:=FP.node (F:=Fy) sy hgy ei e2 (λb z=>cu (e3 b z) λz2=>by have:=e3 b z;rw[hgy b z2] at this;cases this) f3 rfl;cases e4;exact oh em nd (eD (sm.trans s2') (λb z=>sm.free (y1 b z)) hgy) sy ⟨y,[],Fy,λ_=>False,rfl,λb=>⟨.inl,λz=>z.elim id λz=>z.elim⟩,λ_ _ z=>z,y2,rfl,λ_ z=>z⟩ q
   ·cases ea
  ·cases h
 ·cases h
noncomputable def oi(m:Str)(i:Nat)(o:Option (Option Sl))(a:MR):MR:=match o,a with
 |some (NW ⟨NZ,.own _ _,.nd .lst _⟩),NW (kd,d,ρ1)=>jm m i (jd ρ1[i]?) (NW [(d9 kd d,d)]) ρ1
 |_,_=>NX
theorem CJ(O:aC X Γ c){i:Nat}{m x:Str}{p:Pos}{e:N0}{ap cp:Pos}{fa:Ro->MR}(hm:m∈mNames)(hc:cX c x=NW i)(ha:bF X fa e)(hb:dR (.Name x p)=NY)(hn:ar e=NY)(hl:(ap.endLine==cp.line)=NY):bF X (λρ=>oi m i ρ[i]? (fa ρ)) (.Call (.Attribute (.Name x p) m ap) [e] [] cp):=by
 intro ρ kd d ρ' h g σ H Q se q;dsimp only[oi] at h;split at h
 ·rename_i es0 r0 ds0 kx dx ρ1 ei ex;obtain⟨mid,s1,s2,s3⟩:=vR (X:=X) hm;obtain⟨v,F,e1,e2,e3⟩:=se.slot i _ ei;have e3':=e3;unfold Tr at e3';obtain⟨a0,o0,xs0,F0',rfl,g1,q1,_⟩:=e3';have q1:o0=.lst xs0:=q1;subst q1;refine aE (qJ PySem.F.plainAttrs_list s1 s2 s3 aB (bd aB cq (ao hn)) (jr hb) (mN hn) hl (ao hn) rfl) (dq O hc p e1 ⟨.inl ⟨rfl,xs0,.of g1⟩,ha ρ kx dx ρ1 ex g σ H _ se λy g1 H1 F1 ev se1 r1=>?_⟩);unfold jm at h;split at h
  ·rename_i es r ds up as ep ea;cases ea;split at h
   ·rename_i d' ds' k dd em ei1;cases h;have:jd ρ1[i]?=NW (k,dd,id):=by rw[ei1];rfl
    rw[this] at ep;cases ep;obtain⟨w,Fi,w1,w2,w3⟩:=se1.slot i _ ei1;rw[e1] at w1;cases w1;obtain⟨a,o,xs,F',e4,nd⟩:=FP.node (F:=F1) se1 (λb z=>(ev.tmp b z).1) ei1 e1 w2 (.root w3) rfl;cases e4;exact oh em nd ev se1 ⟨y,[],F1,λ_=>False,rfl,λb=>⟨.inl,λz=>z.elim id λz=>z.elim⟩,λ_ _ z=>z,r1.im se1.mu,rfl,λ_ z=>z⟩ q
   ·cases h
  ·cases h
 ·cases h
end
end J
namespace J
open PySem PySem.Spec L2
section
variable {X:Cx} {Γ:fV} {c:Cz}
end
end J
namespace J
open PySem PySem.Spec L2
noncomputable abbrev f6:Pr:=λ_=>False
noncomputable def frzI(i:Nat)(ρ:Ro):Ro:=match ρ[i]? with
 |some (NW ⟨NZ,.own _ _,.nd hd ds⟩)=>if hd.mu=NY then ρ.set i (NW ⟨NZ,.own [] .fz,.nd hd ds⟩) else ρ
 |_=>ρ
noncomputable def frzN:List Nat->Ro->Ro
 |[],ρ=>ρ
 |i::is,ρ=>frzN is (if 1000<=i then frzI (i-1000) ρ else match ρ[i]? with|some (NW ⟨NZ,k,d⟩)=>ρ.set i (NW ⟨NZ,.fz,d⟩)|_=>ρ)
open Classical in
theorem SE.frzI(i:Nat)(se:SE K g ρ σ H):∃g',SE K g' (frzI i ρ) σ H/\Evo g H g' H f6:=by
 unfold J.frzI;split
 ·rename_i es r hd ds e;split
  ·rename_i hm;obtain⟨v,F0,e1,e2,e3⟩:=se.slot i _ e;have e3:Tr K H (Sg g) (.nd hd ds) (.own es r) v F0:=e3;unfold Tr at e3;obtain⟨a,o,xs,F',rfl,q1,q2,n1,n2,hF,t⟩:=e3;have lab:∀b,F' b->g b=NW (NW i):=λb z=>e2 b ((hF b).mpr (.inr z));have la:g a=NW (NW i):=e2 a ((hF a).mpr (.inl ⟨hm,rfl⟩))
   let g':Gh:=λb=>if F' b then NX else g b
   have g1:∀b,¬F' b->g' b=g b:=λb h=>if_neg h;have g2:∀b,F' b->g' b=NX:=λb h=>if_pos h
   have sub:∀b,Sg g' b->Sg g b/\¬F' b:=λb z=>by
    by_cases h:F' b
    ·exact absurd (g2 b h) z
    ·exact⟨by rw[Sg,<- g1 b h];exact z,h⟩
   refine⟨g',⟨λj sl ej=>?_,λb z=>se.mu b (sub b z).1,by rw[MA];exact se.len⟩,⟨λ_ _ _ e=>e,λb=>⟨λz=>?_,λz=>?_⟩,λb j z=>.inl ⟨j,?_⟩,λ_ z=>z.elim,λ_ o e=>⟨o,e⟩⟩⟩
   ·by_cases hj:j=i
    ·subst hj;have hlt:j<ρ.length:=by have:=(Lk.mp ej).1;simpa using this
     rw[Ly hlt] at ej;cases ej;refine⟨.ref a,λb=>b=a,e1,λb z=>by rw[z,g1 a (n1 hm)];exact la,?_⟩;show Tr K H (Sg g') (.nd hd ds) (.own [] .fz) (.ref a) _;unfold Tr;exact⟨a,o,xs,λ_=>False,rfl,q1,q2,λ_ z=>z,(λh=>by rw[hm] at h;cases h),λb=>⟨λz=>.inl ⟨hm,z⟩,λz=>z.elim (λz=>z.2) λz=>z.elim⟩,.ofFz (t.rp sub)⟩
    ·rw[Lx (Ne.symm hj)] at ej;obtain⟨v,Fj,k1,k2,k3⟩:=se.slot j sl ej;refine⟨v,Fj,k1,λb z=>?_,k3.go (λ_ _ _ e=>e) λb o _ n z=>n (sub b z).1⟩;have:=k2 b z;rw[g1 b λh=>by rw[lab b h] at this;cases this;exact hj rfl];exact this
   ·rw[g1 b λh=>by rw[lab b h] at z;cases z];exact z
   ·by_cases h:F' b
    ·rw[g2 b h] at z;cases z
    ·rw[g1 b h] at z;exact z
   ·by_cases h:F' b
    ·rw[g2 b h] at z;cases z
    ·rw[g1 b h] at z;exact z
  ·exact⟨g,se,.refl g H⟩
 ·exact⟨g,se,.refl g H⟩
theorem SE.frz1{g:Gh}{ρ:Ro}{i:Nat}(se:SE K g ρ σ H)(e:ρ[i]?=NW (NW ⟨NZ,k,d⟩)):SE K (g.off i) (ρ.set i (NW ⟨NZ,.fz,d⟩)) σ H/\Evo g H (g.off i) H f6:=by
 obtain⟨v,F0,e1,e2,e3⟩:=se.slot i _ e;have r:Rp K H (Sg ((g.off i).plus f6)) d v:=e3.rp λb z=>((av b).mp z).elim (λz=>⟨(lI z).1,λz2=>(lI z).2 (e2 b z2)⟩) λz=>z.elim
 have:=pT (ρ':=ρ.set i (NW ⟨NZ,.fz,d⟩)) (F:=f6) se (λ_ z=>z.elim) (by simp) λj sl e4=>(by
  by_cases hj:j=i
  ·subst hj
   have hlt:j<ρ.length:=by
    have:=(Lk.mp e4).1;simpa using this
   rw[Ly hlt] at e4;cases e4;exact .inr ⟨v,e1,rfl,r⟩
  ·rw[Lx (Ne.symm hj)] at e4;exact .inl ⟨hj,e4⟩)
 rw[bq λ_ z=>z] at this;exact⟨this,mS λ_ z=>z.elim⟩
theorem SE.frzN{H:Hp}:∀(is:List Nat) {g:Gh} {ρ:Ro},SE K g ρ σ H->∃g',SE K g' (frzN is ρ) σ H/\Evo g H g' H f6
 |[],g,ρ,se=>⟨g,se,.refl g H⟩
 |i::is,g,ρ,se=>by
  unfold J.frzN;by_cases hi:1000<=i
  ·rw[if_pos hi];obtain⟨g1,s1,e1⟩:=se.frzI (i-1000);obtain⟨g2,s2,e2⟩:=SE.frzN is s1;exact⟨g2,s2,kh e1 e2⟩
  rw[if_neg hi];split
  ·rename_i k d e;obtain⟨s1,e1⟩:=se.frz1 e;obtain⟨g2,s2,e2⟩:=SE.frzN is s1;exact⟨g2,s2,kh e1 e2⟩
  ·exact SE.frzN is se
inductive BP where
 |nm (i:Nat)
 |ix (b:BP) (e:IE)
 |fld (b:BP) (f:Str)
noncomputable def BP.slot:BP->Nat
 |.nm i=>i
 |.ix b _=>b.slot
 |.fld b _=>b.slot
noncomputable def mU(Γ:Nat->Option Fn):BP->Ro->Option (Ow×D×(D->D))
 |.nm i,ρ=>jd ρ[i]?
 |.ix b e,ρ=>kl (mU Γ b ρ) (ak Γ e ρ)
 |.fld b f,ρ=>NX
mutual
inductive ME where
 |p (e:IE)
 |mv (i:Nat)
 |fz (i:Nat)
 |io (f:Nat) (as:MAs)
 |fn (f:Nat) (as:gJ)
 |blt (x:Str) (as:gJ)
 |tup (k:Ow) (as:gJ)
 |lst (k:Ow) (as:gJ)
 |bin (op:Oe) (as:gJ)
 |cmp (op:Om) (as:gJ)
 |ix (as:gJ)
 |slh (as:gJ)
 |ifx (t:MT) (a b:ME)
 |comp (r:Ow) (cap:List (Option Nat)) (tg:IT) (it:MI) (ts:MO) (elt:ME)
 |mut (m:Str) (b:BP) (as:gu)
 |mutM (m:Str) (i:Nat) (a:ME)
 |mutMs (m:Str) (i:Nat) (as:gJ)
 |sdf (i:Nat) (k b:IE)
inductive MI where
 |p (it:II)
 |e (a:ME)
 |enm (a:ME)
 |rng (a:ME)
inductive MAs where
 |nil
 |ref (i:Nat) (r:MAs)
 |val (a:ME) (r:MAs)
inductive gJ where
 |fin (a:ME) (r:gu)
 |cons (a:ME) (r:gJ)
inductive MT where
 |p (e:IE)
 |cmp (op:Om) (as:gJ)
 |not (t:MT)
 |bool (op:BoolOp) (ts:G9)
 |tru (a:ME)
 |vw (is:List Nat) (e:IE)
inductive G9 where
 |one (t:MT)
 |cons (t:MT) (r:G9)
inductive MO where
 |non
 |som (t:MT)
end
noncomputable def oS(f:List KD->Option KD)(a:Option (List KD×Ro)):MR:=match a with
 |some (kds,ρ)=>(match f kds with|some (kd,d)=>NW (kd,d,ρ)|none=>NX)
 |none=>NX
noncomputable def Au(op:Om)(a:Option (List KD×Ro)):Option (Bool×Ro):=match a with
 |some ([x,y],ρ)=>(match bR op x.2 y.2 with|some b=>NW (b,ρ)|none=>NX)
 |_=>NX
noncomputable def Ha(a:Option KD)(ρ:Ro):MR:=match a with|some (kd,d)=>NW (kd,d,ρ)|none=>NX
noncomputable def Kp(a:Option Bool)(ρ:Ro):Option (Bool×Ro):=match a with|some b=>NW (b,ρ)|none=>NX
noncomputable def CK(op:BoolOp)(a:Option (Bool×Ro))(r:Ro->Option (Bool×Ro)):Option (Bool×Ro):=match a with
 |some (x,ρ)=>if(op==.And)=x then r ρ else NW (x,ρ)
 |none=>NX
structure GG where
 fn:Nat->Option Fn
 fm:Nat->Option Fm
mutual
noncomputable def a5(Γ:GG):ME->Ro->MR
 |.p e,ρ=>Ha (ak Γ.fn e ρ) ρ
 |.mv i,ρ=>tB i ρ
 |.fz i,ρ=>tD i ρ
 |.io f as,ρ=>Cu (Γ.fm f) (dr Γ as ρ)
 |.fn f as,ρ=>(match Γ.fn f with|some φ=>oS (tw φ) (aU Γ as ρ)|none=>NX)
 |.blt x as,ρ=>oS (eW x) (aU Γ as ρ)
 |.tup k as,ρ=>oS (λkds=>g7 k (NW kds)) (aU Γ as ρ)
 |.lst k as,ρ=>oS (λkds=>g6 k (NW kds)) (aU Γ as ρ)
 |.bin op as,ρ=>oS (f2 (ef op)) (aU Γ as ρ)
 |.cmp op as,ρ=>NX
 |.ix as,ρ=>oS (f2 G8) (aU Γ as ρ)
 |.slh as,ρ=>oS (f2 pS) (aU Γ as ρ)
 |.ifx t a b,ρ=>NX
 |.comp r cap tg it ts elt,ρ=>gA r (d4 Γ it ρ) (fv cap tg (km Γ ts) (a5 Γ elt)) cap
 |.mut m b as,ρ=>jm m b.slot (mU Γ.fn b ρ) (a7 Γ.fn as ρ) ρ
 |.mutM m i a,ρ=>oi m i ρ[i]? (a5 Γ a ρ)
 |.mutMs m i as,ρ=>NX
 |.sdf i k b,ρ=>NX
noncomputable def d4(Γ:GG):MI->Ro->IR
 |.p it,ρ=>Cv (d3 Γ.fn it ρ) ρ
 |.e a,ρ=>NX
 |.enm a,ρ=>NX
 |.rng a,ρ=>DR (g9 (NW (.sh,.int 0))) (a5 Γ a ρ)
noncomputable def dr(Γ:GG):MAs->Ro->Option (List RA×Ro)
 |.nil,ρ=>NW ([],ρ)
 |.ref i r,ρ=>rk i ρ[i]? (dr Γ r ρ)
 |.val a r,ρ=>rm (a5 Γ a ρ) (dr Γ r)
noncomputable def aU(Γ:GG):gJ->Ro->Option (List KD×Ro)
 |.fin a r,ρ=>fZ (a5 Γ a ρ) (a7 Γ.fn r)
 |.cons a r,ρ=>gw (a5 Γ a ρ) (aU Γ r)
noncomputable def ce(Γ:GG):MT->Ro->Option (Bool×Ro)
 |.p e,ρ=>Kp (bp Γ.fn e ρ) ρ
 |.vw is e,ρ=>NX
 |.cmp op as,ρ=>Au op (aU Γ as ρ)
 |.not t,ρ=>NX
 |.bool op ts,ρ=>NX
 |.tru a,ρ=>NX
noncomputable def FG(Γ:GG)(op:BoolOp):G9->Ro->Option (Bool×Ro)
 |.one t,ρ=>ce Γ t ρ
 |.cons t r,ρ=>CK op (ce Γ t ρ) (FG Γ op r)
noncomputable def km(Γ:GG):MO->Ro->Option (Bool×Ro)
 |.non,ρ=>NW (NY,ρ)
 |.som t,ρ=>ce Γ t ρ
end
section
theorem vS{Γ:GG}:a5 Γ (.p e) ρ=Ha (ak Γ.fn e ρ) ρ:=rfl
theorem CL:a5 Γ (.mv i) ρ=tB i ρ:=rfl
theorem CM:a5 Γ (.fz i) ρ=tD i ρ:=rfl
theorem pU{Γ:GG}:a5 Γ (.io f as) ρ=Cu (Γ.fm f) (dr Γ as ρ):=rfl
theorem pV{Γ:GG}:a5 Γ (.fn f as) ρ=(match Γ.fn f with|some φ=>oS (tw φ) (aU Γ as ρ)|none=>NX):=rfl
theorem yT:a5 Γ (.blt x as) ρ=oS (eW x) (aU Γ as ρ):=rfl
theorem yU:a5 Γ (.tup k as) ρ=oS (λkds=>g7 k (NW kds)) (aU Γ as ρ):=rfl
theorem yV:a5 Γ (.lst k as) ρ=oS (λkds=>g6 k (NW kds)) (aU Γ as ρ):=rfl
theorem yW:a5 Γ (.bin op as) ρ=oS (f2 (ef op)) (aU Γ as ρ):=rfl
theorem CN:a5 Γ (.ix as) ρ=oS (f2 G8) (aU Γ as ρ):=rfl
theorem yX:a5 Γ (.slh as) ρ=oS (f2 pS) (aU Γ as ρ):=rfl
theorem oj:a5 Γ (.comp r cap tg it ts elt) ρ=gA r (d4 Γ it ρ) (fv cap tg (km Γ ts) (a5 Γ elt)) cap:=rfl
theorem ik{Γ:GG}:a5 Γ (.mut m b as) ρ=jm m b.slot (mU Γ.fn b ρ) (a7 Γ.fn as ρ) ρ:=rfl
theorem vT:a5 Γ (.mutM m i a) ρ=oi m i ρ[i]? (a5 Γ a ρ):=rfl
end
theorem yY{f:Ro->MR}(h:∀ρ,f ρ=NX):bF X f e:=λρ kd d ρ' hh=>by rw[h] at hh;cases hh
theorem ol{f:Ro->Option (Bool×Ro)}(h:∀ρ,f ρ=NX):fY X f e:=λρ kd d hh=>by rw[h] at hh;cases hh
theorem Av{f:Ro->IR}(h:∀ρ,f ρ=NX):jc X f tg e:=λρ bs ds ρ' hh=>by rw[h] at hh;cases hh
noncomputable def lK(f:N0->Option ME)(g:N0->Option IE):List N0->Option gJ
 |[]=>NX
 |e::es=>if ar e then(match dS g es with
  |some r=>(f e).map λa=>.fin a r
  |none=>(match f e,lK f g es with|some a,NW r=>NW (.cons a r)|_,_=>NX)) else NX
noncomputable def Aw(c:Cz)(f:N0->Option ME):List Bool->List N0->Option MAs
 |_,[]=>NW .nil
 |true::fl,.Name x _::es=>(match cX c x,Aw c f fl es with|some i,NW r=>NW (.ref i r)|_,_=>NX)
 |fl,e::es=>if ar e then(match f e,Aw c f fl.tail es with|some a,NW r=>NW (.val a r)|_,_=>NX) else NX
noncomputable def vU(c:Cz)(f:N0->Option ME)(it:Option II)(tg iter:N0):Option MI:=match it with
 |some it=>NW (.p it)
 |none=>match iter with
  |.Call (.Name x _) [a] [] _=>
   if x="range" then(if eh c.sc "range" && ar a then(f a).map .rng else NX)
   else if x="enumerate" then(if eh c.sc "enumerate" && ar a&&i9 tg then(f a).map .enm else NX)
   else(f iter).map .e
  |_=>(f iter).map .e
noncomputable def IF(f:N0->Option MT):List N0->Option G9
 |[]=>NX
 |[e]=>(f e).map .one
 |e::es=>match f e,IF f es with|some a,NW r=>NW (.cons a r)|_,_=>NX
noncomputable def DS(c:Cz)(f:N0->Option IE):Nat->N0->Option BP
 |0,_=>NX
 |n+1,e=>match e with
  |.Name x _=>(cX c x).map .nm
  |.Subscript a b _=>if cR b then(match DS c f n a,f b with|some p,NW e=>NW (.ix p e)|_,_=>NX) else NX
  |_=>NX
noncomputable def IG(m:Str)(b:N0)(ap cp:Pos):Bool:=mNames.contains m&&dR b&&(ap.endLine==cp.line)
noncomputable def IH(fns:Nms)(c:Cz)(x:Str)(p:Pos):Option ME:=match fns.md p.line p.col with
 |none=>NX
 |some NY=>(cX c x).map .mv
 |some NZ=>(cX c x).map .fz
noncomputable def IJ(fns:Nms)(c:Cz)(fM:N0->Option ME)(fE:N0->Option IE)(x:Str)(as:List N0):Option ME:=match as with
 |[]=>NX
 |a::es=>if eh c.sc x&&(a::es).all ar then(match bt x fns.fns with
  |some i=>(match fns.io i with
   |some fl=>(Aw c fM fl (a::es)).map (.io i)
   |none=>(lK fM fE (a::es)).map (.fn i))
  |none=>(lK fM fE (a::es)).map (.blt x)) else NX
noncomputable def IK(c:Cz)(fM:N0->Option ME)(fE:N0->Option IE)(b:N0)(m:Str)(ap cp:Pos)(as:List N0):Option ME:=match as with
 |[]=>NX
 |e::es=>match es with
  |_::_=>NX
  |[]=>if IG m b ap cp&&ar e then(match fE e with
   |some e'=>(DS c fE 6 b).map λp=>.mut m p (.cons e' .nil)
   |none=>(match b with|.Name x _=>(match cX c x,fM e with|some i,NW a=>NW (.mutM m i a)|_,_=>NX)|_=>NX)) else NX
noncomputable def IL(fns:Nms)(c:Cz)(fM:N0->Option ME)(fE:N0->Option IE)(g:N0)(as:List N0)(ks:List Keyword)(cp:Pos):Option ME:=match ks with
 |_::_=>NX
 |[]=>match g with
  |.Name x _=>IJ fns c fM fE x as
  |.Attribute b m ap=>IK c fM fE b m ap cp as
  |_=>NX
noncomputable def tF{α:Type}(k:Om->gJ->α)(fM:N0->Option ME)(fE:N0->Option IE)(a:N0)(ops:List Om)(bs:List N0):Option α:=match ops with
 |[]=>NX
 |op::ops=>match ops with
  |_::_=>NX
  |[]=>match bs with
   |[]=>NX
   |b::bs=>match bs with
    |_::_=>NX
    |[]=>if Oj op b then NX else(lK fM fE [a,b]).map (k op)
noncomputable def jx(f:N0->Option MT):List N0->Option MO
 |[]=>NW .non
 |[e]=>(f e).map .som
 |_=>NX
noncomputable def tG(fns:Nms)(c:Cz)(fM:Cz->N0->Option ME)(fE:Cz->N0->Option IE)(fT:Cz->N0->Option MT)(elt:N0)(gs:List Comprehension)(scope:Of)(p:Pos):Option ME:=match gs with
 |[]=>NX
 |g::gs=>match gs with
  |_::_=>NX
  |[]=>if g.is_async=0 then(if dH g.iter&&bO c scope then(match oX ⟨gq scope c.sc,aA scope,gZ scope⟩ 4 g.target,vU c (fM c) (Ck c (fE c) g.target g.iter) g.target g.iter,jx (fT ⟨gq scope c.sc,aA scope,gZ scope⟩) g.ifs,fM ⟨gq scope c.sc,aA scope,gZ scope⟩ elt with
    |some t,NW it,NW ts,NW el=>NW (.comp ((fns.an p.line p.col).getD .fz) (aO c scope) t it ts el)|_,_,_,_=>NX) else NX) else NX
noncomputable def CP:N0->Option N0
 |.Slice NX (NW hi) NX _=>NW hi
 |_=>NX
theorem yZ(h:CP b=NW hi):∃p,b=.Slice NX (NW hi) NX p:=by
 unfold CP at h;split at h
 ·cases h;exact⟨_,rfl⟩
 ·cases h
mutual
noncomputable def cM(fns:Nms):Nat->Cz->N0->Option ME
 |0,_,_=>NX
 |n+1,c,e=>match cE fns n c e with
  |some ie=>NW (.p ie)
  |none=>match e with
   |.Name x p=>IH fns c x p
   |.Call g as ks cp=>IL fns c (cM fns n c) (cE fns n c) g as ks cp
   |.Tuple es _ p=>(lK (cM fns n c) (cE fns n c) es).map (.tup (fns.kT p))
   |.List es p=>(lK (cM fns n c) (cE fns n c) es).map (.lst (fns.kL p))
   |.BinOp a op b _=>(lK (cM fns n c) (cE fns n c) [a,b]).map (.bin op)
   |.Compare a ops bs _=>tF ME.cmp (cM fns n c) (cE fns n c) a ops bs
   |.Subscript a b _=>if cR b then(lK (cM fns n c) (cE fns n c) [a,b]).map .ix else(match CP b with|some hi=>(lK (cM fns n c) (cE fns n c) [a,hi]).map .slh|none=>NX)
   |.IfExp t a b _=>match ub fns n c t,cM fns n c a,cM fns n c b with|some t,NW a,NW b=>NW (.ifx t a b)|_,_,_=>NX
   |.ListComp elt gs scope p=>tG fns c (cM fns n) (cE fns n) (ub fns n) elt gs scope p
   |_=>NX
noncomputable def ub(fns:Nms):Nat->Cz->N0->Option MT
 |0,_,_=>NX
 |n+1,c,e=>match cT fns n c e with
  |some ie=>(match fns.vw e.pos.line e.pos.col with|[]=>NW (.p ie)|i::is=>NW (.vw (i::is) ie))
  |none=>match e with
   |.Compare a ops bs _=>tF MT.cmp (cM fns n c) (cE fns n c) a ops bs
   |.UnaryOp op a _=>(match op with|.Not=>(ub fns n c a).map .not|_=>NX)
   |.BoolOp op es _=>(IF (ub fns n c) es).map (.bool op)
   |.Call f as ks p=>(cM fns n c (.Call f as ks p)).map .tru
   |.Subscript a b p=>(cM fns n c (.Subscript a b p)).map .tru
   |.Name x p=>(cM fns n c (.Name x p)).map .tru
   |.Constant k j p=>(cM fns n c (.Constant k j p)).map .tru
   |_=>NX
end
noncomputable def ko(fns:Nms)(Γ:GG):Str->Option (Lh->Sp):=λx=>(bt x fns.fns).bind λi=>(Γ.fm i).map λφ=>λK=>As K φ
noncomputable abbrev cm(fns:Nms)(Γ:GG):fV:=cv fns Γ.fn (ko fns Γ)
section
variable {X:Cx} {c:Cz} (fns:Nms) (Γ:GG)
theorem pW(O:aC X (cv fns Γ.fn fm) c){f:N0->Option ME}{fe:N0->Option IE}(hf:∀e a,f e=NW a->bF X (a5 Γ a) e)(hE:∀e ie,fe e=NW ie->SndE X (ak Γ.fn ie) e){tg iter:N0}{it:MI}(h:vU c f (Ck c fe tg iter) tg iter=NW it):jc X (d4 Γ it) tg iter:=by
 have pl:∀{it:MI},(f iter).map MI.e=NW it->jc X (d4 Γ it) tg iter:=λh=>by
  obtain⟨a,ha,rfl⟩:=aZ h
  (refine Av λρ=>?_;rw[d4])
 unfold vU at h;split at h
 ·rename_i it' hit;cases h
  (rw[show d4 Γ (.p it')=λρ=>Cv (d3 Γ.fn it' ρ) ρ by funext ρ;rw[d4]];exact(vK fns Γ.fn O hE hit).m)
 ·split at h
  ·rename_i x p a pos _;split at h
   ·rename_i hx;subst hx;split at h
    ·rename_i hg;rw[Lj] at hg;obtain⟨a',ha,rfl⟩:=aZ h
     (rw[show d4 Γ (.rng a')=λρ=>DR (g9 (NW (.sh,.int 0))) (a5 Γ a' ρ) by funext ρ;rw[d4]];exact FF O hg.1 hg.2 (hf _ _ ha))
    ·cases h
   ·split at h
    ·rename_i hx;subst hx;split at h
     ·rename_i hg;rw[Lj,Lj] at hg;obtain⟨a',ha,rfl⟩:=aZ h
      (refine Av λρ=>?_;rw[d4])
     ·cases h
    ·exact pl h
  ·exact pl h
theorem eN(f:List KD->Option KD)(fa:Ro->Option (List KD×Ro)):(λρ=>oS f (fa ρ))=λρ=>(fa ρ).bind λp=>(f p.1).map λq=>(q.1,q.2,p.2):=by
 funext ρ;unfold oS
 cases fa ρ with
 |none=>rfl
 |some p=>
  obtain⟨kds,ρ'⟩:=p;dsimp only[L1]
  cases f kds with
  |none=>rfl
  |some q=>rfl
theorem CQ(h:SndE X (ak Γ.fn ie) e):bF X (a5 Γ (.p ie)) e:=by
 have:=h.m
 rw[show(λρ=>(ak Γ.fn ie ρ).map λp=>(p.1,p.2,ρ))=a5 Γ (.p ie) by funext ρ;rw[vS];unfold Ha;cases ak Γ.fn ie ρ<;>rfl] at this
 exact this
theorem lL{f:N0->Option ME}{g:N0->Option IE}(hf:∀e a,f e=NW a->bF X (a5 Γ a) e)(hg:∀e a,g e=NW a->SndE X (ak Γ.fn a) e):∀{es:List N0} {as:gJ},lK f g es=NW as->kf X (aU Γ as) es
 |[],as,h=>by cases h
 |e::es,as,h=>by
  unfold lK at h;split at h
  ·rename_i hn;split at h
   ·rename_i r hr;obtain⟨a,ha,rfl⟩:=aZ h
    rw[show aU Γ (.fin a r)=λρ=>fZ (a5 Γ a ρ) (a7 Γ.fn r) by funext ρ;conv=>lhs;rw[aU]]
    exact Ct hn (hf _ _ ha) (fI Γ.fn hg hr).1
   ·split at h
    ·rename_i a r ha hr;cases h
     rw[show aU Γ (.cons a r)=λρ=>gw (a5 Γ a ρ) (aU Γ r) by funext ρ;conv=>lhs;rw[aU]]
     exact yN hn (hf _ _ ha) (lL hf hg hr)
    ·cases h
  ·cases h
theorem om{f:N0->Option ME}{g:N0->Option IE}(hf:∀e a,f e=NW a->bF X (a5 Γ a) e)(hg:∀e a,g e=NW a->SndE X (ak Γ.fn a) e){a b:N0}{as:gJ}(h:lK f g [a,b]=NW as):kj X (aU Γ as) a b:=by
 unfold lK at h;split at h
 ·rename_i hn;split at h
  ·rename_i r hr;obtain⟨a',ha,rfl⟩:=aZ h;unfold dS dS at hr;split at hr
   ·split at hr
    ·rename_i b' r' hb' hr';cases hr;cases hr'
     rw[show aU Γ (.fin a' (.cons b' .nil))=λρ=>fZ (a5 Γ a' ρ) λρ=>fW (ak Γ.fn b' ρ) (NW []) by
      funext ρ;simp only[aU,a7]
      try rfl]
     exact CA (hf _ _ ha) (hg _ _ hb')
    ·cases hr
   ·cases hr
  ·split at h
   ·rename_i a' r ha hr;cases h;unfold lK at hr;split at hr
    ·split at hr
     ·rename_i r' hr';cases hr';obtain⟨b',hb,rfl⟩:=aZ hr
      rw[show aU Γ (.cons a' (.fin b' .nil))=λρ=>gw (a5 Γ a' ρ) λρ=>fZ (a5 Γ b' ρ) λ_=>NW [] by
       funext ρ;simp only[aU,a7]
       try rfl]
      exact yS (hf _ _ ha) (hf _ _ hb)
     ·rename_i q;exact absurd q (by simp[dS])
    ·cases hr
   ·cases h
 ·cases h
theorem CS(O:aC X Γt c){f:N0->Option ME}(hf:∀e a,f e=NW a->bF X (a5 Γ a) e):∀{fl:List Bool} {es:List N0} {as:MAs},Aw c f fl es=NW as->jb X (dr Γ as) es
 |fl,[],as,h=>by
  have:as=.nil:=by
   unfold Aw at h;cases h;rfl
  subst this;rw[show dr Γ .nil=λρ=>NW ([],ρ) by funext ρ;rw[dr]];exact Fx
 |fl,e::es,as,h=>by
  have val:∀{fl':List Bool} {as:MAs},(if ar e then(match f e,Aw c f fl' es with|some a,NW r=>NW (MAs.val a r)|_,_=>NX) else NX)=NW as->jb X (dr Γ as) (e::es):=λh=>by
   split at h
   ·rename_i hn;split at h
    ·rename_i a r ha hr;cases h
     rw[show dr Γ (.val a r)=λρ=>rm (a5 Γ a ρ) (dr Γ r) by funext ρ;conv=>lhs;rw[dr]]
     exact FA hn (hf _ _ ha) (CS O hf hr)
    ·cases h
   ·cases h
  unfold Aw at h;split at h
  ·rename_i q;cases q
  ·rename_i fl' x p es' q;cases q;split at h
   ·rename_i i r hi hr;cases h
    rw[show dr Γ (.ref i r)=λρ=>rk i ρ[i]? (dr Γ r ρ) by funext ρ;conv=>lhs;rw[dr]]
    exact Fz O hi (CS O hf hr)
   ·cases h
  ·rename_i fl' e' es' q;cases q;exact val h
theorem bH(a:Evo g H g1 H1 (λ_=>False))(b:Evo g1 H1 g2 H2 F2):Evo g H g2 H2 F2:=by
 have t:=a.trans (F1:=λ_=>False) (g2:=g2) (H2:=H2) (F2:=F2) (by rw[bq λ_ z=>z];exact b);have e1:g2.minus (λ_=>False)=g2:=by funext c;exact bL λz=>z
 rw[e1] at t;exact t.drop λc z=>.inr z
theorem CT(O:aC X Γt c){f:N0->Option IE}(hf:∀e a,f e=NW a->SndE X (ak Γ.fn a) e):∀(n:Nat) {e:N0} {b:BP},DS c f n e=NW b->tE X b.slot (mU Γ.fn b) e
 |0,e,b,h=>by cases h
 |n+1,e,b,h=>by
  unfold DS at h;split at h
  ·rename_i x p;obtain⟨i,hi,rfl⟩:=aZ h;exact CF O hi p
  ·rename_i a b' p;split at h
   ·rename_i hp;split at h
    ·rename_i q e' hq he;cases h;exact CG O (CT O hf n hq) (hf _ _ he) hp
    ·cases h
   ·cases h
  ·cases h
theorem CU{m:Str}{ap cp:Pos}(h:IG m b ap cp=NY):m∈mNames/\dR b=NY/\(ap.endLine==cp.line)=NY:=by
 simp only[IG,Lj] at h;exact⟨by simpa using h.1.1,h.1.2,h.2⟩
theorem IM{x:Str}(O:aC X (cm fns Γ) c)(h:IH fns c x p=NW a):bF X (a5 Γ a) (.Name x p):=by
 unfold IH at h;split at h
 ·cases h
 ·obtain⟨i,hi,rfl⟩:=aZ h
  (rw[show a5 Γ (.mv i)=tB i from funext λ_=>rfl];exact FD O hi p)
 ·obtain⟨i,hi,rfl⟩:=aZ h
  (rw[show a5 Γ (.fz i)=tD i from funext λ_=>rfl];exact FE O hi p)
theorem FH(O:aC X (cm fns Γ) c){fM:N0->Option ME}(hM:∀e a,fM e=NW a->bF X (a5 Γ a) e){x:Str}{p pos:Pos}{a':N0}{es:List N0}{fl:List Bool}{i:Nat}{a:ME}(h:(Aw c fM fl (a'::es)).map (.io i)=NW a)(h1:eh c.sc x=NY)(h2:ar a'=NY)(h3:es.all ar=NY)(hi:bt x fns.fns=NW i):bF X (a5 Γ a) (.Call (.Name x p) (a'::es) [] pos):=by
 obtain⟨as,ha,rfl⟩:=aZ h
 first
  |(exact yY λ_=>rfl)
  |(cases hφ:Γ.fm i with
   |none=>
    intro ρ kd d ρ' hh;rw[pU,hφ] at hh;cases hh
   |some φ=>
    rw[show a5 Γ (.io i as)=λρ=>Cu (NW φ) (dr Γ as ρ) by funext ρ;rw[pU,hφ]];refine ID O (φ:=φ) ?_ h1 h2 h3 (CS Γ O hM ha);show ko fns Γ x=_;unfold ko;rw[hi,L1,hφ];rfl)
theorem IN(O:aC X (cm fns Γ) c){fM:N0->Option ME}{fE:N0->Option IE}(hM:∀e a,fM e=NW a->bF X (a5 Γ a) e)(hE:∀e ie,fE e=NW ie->SndE X (ak Γ.fn ie) e){x:Str}{p:Pos}{as:List N0}{pos:Pos}{a:ME}(h:IJ fns c fM fE x as=NW a):bF X (a5 Γ a) (.Call (.Name x p) as [] pos):=by
 cases as with
 |nil=>cases h
 |cons a' es=>
  dsimp only[IJ] at h;split at h
  ·rename_i hg;rw[Lj,L3,Lj] at hg;split at h
   ·rename_i i hi;split at h
    ·rename_i fl hfl;exact FH fns Γ O hM h hg.1 hg.2.1 hg.2.2 hi
    ·obtain⟨as,ha,rfl⟩:=aZ h
     first
     |(exact yY λ_=>rfl)
     |cases hφ:Γ.fn i with
      |none=>
       intro ρ kd d ρ' hh;rw[pV,hφ] at hh;cases hh
      |some φ=>
       rw[show a5 Γ (.fn i as)=λρ=>oS (tw φ) (aU Γ as ρ) by funext ρ;rw[pV,hφ],eN];refine(IC O (φ:=φ) ?_ hg.1 hg.2.1 hg.2.2).m (lL Γ hM hE ha);show(bt x fns.fns).bind Γ.fn=_;rw[hi];exact hφ
   ·obtain⟨as,ha,rfl⟩:=aZ h
    (rw[show a5 Γ (.blt x as)=λρ=>oS (eW x) (aU Γ as ρ) by exact funext λ_=>rfl,eN];exact(nV O x a' es p pos (cA O hg.1) hg.2.1 hg.2.2).m (lL Γ hM hE ha))
  ·cases h
theorem IP(O:aC X (cm fns Γ) c){fM:N0->Option ME}{fE:N0->Option IE}(hM:∀e a,fM e=NW a->bF X (a5 Γ a) e)(hE:∀e ie,fE e=NW ie->SndE X (ak Γ.fn ie) e){b:N0}{m:Str}{ap cp:Pos}{as:List N0}{a:ME}(h:IK c fM fE b m ap cp as=NW a):bF X (a5 Γ a) (.Call (.Attribute b m ap) as [] cp):=by
 cases as with
 |nil=>cases h
 |cons e es=>cases es with
  |cons _ _=>cases h
  |nil=>
   dsimp only[IK] at h;split at h
   ·rename_i hk;rw[Lj] at hk;obtain⟨h1,h2,h3⟩:=CU hk.1;split at h
    ·rename_i e' he;obtain⟨p,hp,rfl⟩:=aZ h
     (rw[show ∀m,a5 Γ (.mut m p (.cons e' .nil))=λρ=>jm m p.slot (mU Γ.fn p ρ) (fW (ak Γ.fn e' ρ) (NW [])) ρ by intro m;funext ρ;rw[ik,a7,a7]];exact CI h1 (CT Γ O hE _ hp) (hE _ _ he) h2 hk.2 h3)
    ·split at h
     ·split at h
      ·rename_i i a' hi ha;cases h
       (rw[show ∀m,a5 Γ (.mutM m i a')=λρ=>oi m i ρ[i]? (a5 Γ a' ρ) by intro m;exact funext λ_=>rfl];exact CJ O h1 hi (hM _ _ ha) h2 hk.2 h3)
      ·cases h
     ·cases h
   ·cases h
theorem IQ(O:aC X (cm fns Γ) c){fM:N0->Option ME}{fE:N0->Option IE}(hM:∀e a,fM e=NW a->bF X (a5 Γ a) e)(hE:∀e ie,fE e=NW ie->SndE X (ak Γ.fn ie) e){g:N0}{as:List N0}{ks:List Keyword}{pos:Pos}{a:ME}(h:IL fns c fM fE g as ks pos=NW a):bF X (a5 Γ a) (.Call g as ks pos):=by
 cases ks with
 |cons _ _=>cases h
 |nil=>
  dsimp only[IL] at h;split at h
  ·exact IN fns Γ O hM hE h
  ·exact IP fns Γ O hM hE h
  ·cases h
theorem rA{α:Type}{k:Om->gJ->α}{fM:N0->Option ME}{fE:N0->Option IE}{a:N0}{ops:List Om}{bs:List N0}{r:α}(h:tF k fM fE a ops bs=NW r):∃op b as,ops=[op]/\bs=[b]/\Oj op b=NZ/\lK fM fE [a,b]=NW as/\r=k op as:=by
 cases ops with
 |nil=>cases h
 |cons op ops=>cases ops with
  |cons _ _=>cases h
  |nil=>cases bs with
   |nil=>cases h
   |cons b bs=>cases bs with
    |cons _ _=>cases h
    |nil=>
     dsimp only[tF] at h;split at h
     ·cases h
     ·rename_i hm;obtain⟨as,ha,rfl⟩:=aZ h;exact⟨op,b,as,rfl,rfl,by simpa using hm,ha,rfl⟩
theorem rB{fM:Cz->N0->Option ME}{fE:Cz->N0->Option IE}{fT:Cz->N0->Option MT}{p:Pos}(h:tG fns c fM fE fT elt gs scope p=NW a):∃tg iter ifs t it ts el,gs=[⟨tg,iter,ifs,0⟩]/\dH iter=NY/\bO c scope=NY/\oX ⟨gq scope c.sc,aA scope,gZ scope⟩ 4 tg=NW t/\vU c (fM c) (Ck c (fE c) tg iter) tg iter=NW it/\jx (fT ⟨gq scope c.sc,aA scope,gZ scope⟩) ifs=NW ts/\fM ⟨gq scope c.sc,aA scope,gZ scope⟩ elt=NW el/\a=.comp ((fns.an p.line p.col).getD .fz) (aO c scope) t it ts el:=by
 cases gs with
 |nil=>cases h
 |cons g gs=>cases gs with
  |cons _ _=>cases h
  |nil=>
   dsimp only[tG] at h;split at h
   ·rename_i h0;split at h
    ·rename_i hn;rw[Lj] at hn;split at h
     ·rename_i t it ts el ht hit hts hel;cases h
      cases g with
      |mk tg iter ifs as=>
       subst h0;exact⟨tg,iter,ifs,t,it,ts,el,rfl,hn.1,hn.2,ht,hit,hts,hel,rfl⟩
     ·cases h
    ·cases h
   ·cases h
theorem CV(O:aC X Γt c){op:Om}{as:gJ}{x b:N0}{p:Pos}(hm:Oj op b=NZ)(h:kj X (aU Γ as) x b):fY X (ce Γ (.cmp op as)) (.Compare x [op] [b] p):=by
  first
    |(refine ol λρ=>?_;rw[ce];done)
    | (have:=CB (pos:=p) O hm h
       have e:ce Γ (.cmp op as)=λρ=>((aU Γ as ρ).bind λp=>(match p.1 with|[x,y]=>(bR op x.2 y.2).map λb=>(b,p.2)|_=>NX)):=by
         funext ρ;rw[ce];unfold Au
         cases aU Γ as ρ with
         |none=>rfl
         |some p=>
           obtain⟨kds,ρ'⟩:=p;dsimp only[L1]
           match kds with
           |[]=>rfl
           |[_]=>rfl
           |[x,y]=>dsimp only;cases bR op x.2 y.2<;>rfl
           |_::_::_::_=>rfl
       rw[e];exact this)
theorem iB{f:N0->Option ME}(hM:∀e a,f e=NW a->bF X (a5 Γ a) e){e:N0}{t:MT}(h:(f e).map MT.tru=NW t)(hp:∀whole,isTrue e X.env whole=(do let v <- whole;standAt e.pos;holding [v] (truthy v))):fY X (ce Γ t) e:=by
 obtain⟨a',ha,rfl⟩:=aZ h
 (refine ol λρ=>?_;rw[ce])
theorem oo{f:N0->Option MT}(hf:∀e t,f e=NW t->fY X (ce Γ t) e){o:List N0}{io:MO}(h:jx f o=NW io):ki X (km Γ io) o:=by
 unfold jx at h;split at h
 ·cases h;have e:km Γ .non=λρ=>NW (NY,ρ):=by funext ρ;rw[km]
  rw[e];exact Cw
 ·obtain⟨a,ha,rfl⟩:=aZ h;have e:km Γ (.som a)=ce Γ a:=by funext ρ;rw[km]
  rw[e];exact Cy (hf _ _ ha)
 ·cases h
theorem f7:∀n:Nat,(∀X c,aC X (cm fns Γ) c->∀e a,cM fns n c e=NW a->bF X (a5 Γ a) e)/\(∀X c,aC X (cm fns Γ) c->∀e t,ub fns n c e=NW t->fY X (ce Γ t) e)
 |0=>⟨λX c O e a h=>by (cases(show(NX:Option ME)=NW a from h)),λX c O e a h=>by (cases(show(NX:Option MT)=NW a from h))⟩
 |n+1=>by
  obtain⟨ihM,ihT⟩:=f7 n;have pure:=dJ (fm:=ko fns Γ) fns Γ.fn n;refine⟨λX c O e a h=>?_,λX c O e a h=>?_⟩
  ·have hE:=pure.1 X c O;have hM:=ihM X c O;have hT:=ihT X c O
   replace h:(match cE fns n c e with|some ie=>NW (ME.p ie)|none=>_)=NW a:=h
   split at h
   ·rename_i ie hi;cases h;exact CQ Γ (hE _ _ hi)
   ·cases e with
    |Name x p=>exact IM fns Γ O h
    |Call g as ks pos=>exact IQ fns Γ O hM hE h
    |Tuple es k p=>
     obtain⟨as,ha,rfl⟩:=aZ (show(lK (cM fns n c) (cE fns n c) es).map (.tup (fns.kT p))=NW a from h)
     (rw[show ∀k,a5 Γ (.tup k as)=λρ=>oS (λkds=>g7 k (NW kds)) (aU Γ as ρ) by intro k;exact funext λ_=>rfl,eN];exact n_tup.m (lL Γ hM hE ha))
    |List es p=>
     obtain⟨as,ha,rfl⟩:=aZ (show(lK (cM fns n c) (cE fns n c) es).map (.lst (fns.kL p))=NW a from h)
     (rw[show ∀k,a5 Γ (.lst k as)=λρ=>oS (λkds=>g6 k (NW kds)) (aU Γ as ρ) by intro k;exact funext λ_=>rfl,eN];exact n_lst.m (lL Γ hM hE ha))
    |BinOp x op y p=>
     obtain⟨as,ha,rfl⟩:=aZ (show(lK (cM fns n c) (cE fns n c) [x,y]).map (.bin op)=NW a from h)
     (rw[show ∀op,a5 Γ (.bin op as)=λρ=>oS (f2 (ef op)) (aU Γ as ρ) by intro k;exact funext λ_=>rfl,eN];exact n_bin.m (om Γ hM hE ha))
    |Compare x ops bs p=>
     obtain⟨op,b,as,rfl,rfl,hm,ha,rfl⟩:=rA (show tF ME.cmp (cM fns n c) (cE fns n c) x ops bs=NW a from h);exact yY λ_=>rfl
    |Subscript x b p=>
     dsimp only at h;split at h
     ·rename_i hp;obtain⟨as,ha,rfl⟩:=aZ h
      (rw[show a5 Γ (.ix as)=λρ=>oS (f2 G8) (aU Γ as ρ) by exact funext λ_=>rfl,eN];exact(IB O hp).m (om Γ hM hE ha))
     ·split at h
      ·rename_i hi hhi;obtain⟨p2,rfl⟩:=yZ hhi;obtain⟨as,ha,rfl⟩:=aZ h
       (rw[show a5 Γ (.slh as)=λρ=>oS (f2 pS) (aU Γ as ρ) by exact funext λ_=>rfl,eN];exact n_slh.m (om Γ hM hE ha))
      ·cases h
    |IfExp t x b p=>
     dsimp only at h;split at h
     ·rename_i t' a' b' ht ha hb;cases h;exact yY λ_=>rfl
     ·cases h
    |ListComp elt gs scope p=>
     obtain⟨tg,iter,ifs,t,it,ts,el,rfl,hn1,hn2,ht,hit,hts,hel,rfl⟩:=rB fns (show tG fns c (cM fns n) (cE fns n) (ub fns n) elt gs scope p=NW a from h);have CO:=fG O hn2
     (rw[show ∀r cap,a5 Γ (.comp r cap t it ts el)=λρ=>gA r (d4 Γ it ρ) (fv cap t (km Γ ts) (a5 Γ el)) cap by intro r cap;exact funext λ_=>rfl];exact yR O hn2 hn1 (pW fns Γ O hM hE hit) ht (λC s H ex=>oo Γ (ihT _ _ (CO C s H ex)) hts) (λC s H ex=>ihM _ _ (CO C s H ex) _ _ hel))
    |_=>cases h
  ·have hE:=pure.1 X c O;have hM:=ihM X c O;have hT:=ihT X c O
   replace h:(match cT fns n c e with|some ie=>(match fns.vw e.pos.line e.pos.col with|[]=>NW (MT.p ie)|i::is=>NW (MT.vw (i::is) ie))|none=>_)=NW a:=h
   split at h
   ·rename_i ie hi;split at h
    ·cases h;have:=(pure.2 X c O _ _ hi).m
     rw[show(λρ=>(bp Γ.fn ie ρ).map λp=>(p,ρ))=ce Γ (.p ie) by funext ρ;rw[ce];unfold Kp;cases bp Γ.fn ie ρ<;>rfl] at this
     exact this
    ·rename_i i is _;cases h
     (refine ol λρ=>?_;rw[ce])
   ·cases e with
    |Compare x ops bs p=>
     obtain⟨op,b,as,rfl,rfl,hm,ha,rfl⟩:=rA (show tF MT.cmp (cM fns n c) (cE fns n c) x ops bs=NW a from h);exact CV Γ O hm (om Γ hM hE ha)
    |UnaryOp op x p=>cases op with
     |Not=>
      obtain⟨t,ht,rfl⟩:=aZ (show(ub fns n c x).map .not=NW a from h)
      (refine ol λρ=>?_;rw[ce])
     |_=>cases h
    |BoolOp op es p=>
     obtain⟨ts,ht,rfl⟩:=aZ (show(IF (ub fns n c) es).map (.bool op)=NW a from h)
     (refine ol λρ=>?_;rw[ce])
    |Call f as ks p=>exact iB Γ hM (show(cM fns n c (.Call f as ks p)).map .tru=NW a from h) (λ_=>rfl)
    |Subscript x b p=>exact iB Γ hM (show(cM fns n c (.Subscript x b p)).map .tru=NW a from h) (λ_=>rfl)
    |Name x p=>exact iB Γ hM (show(cM fns n c (.Name x p)).map .tru=NW a from h) (λ_=>rfl)
    |Constant k j p=>exact iB Γ hM (show(cM fns n c (.Constant k j p)).map .tru=NW a from h) (λ_=>rfl)
    |_=>cases h
end
end J
namespace J
open PySem PySem.Spec L2
inductive Res where
 |nx (ρ:Ro)|rt (kd:Kd) (d:D) (ρ:Ro)|ct (ρ:Ro)|bk (ρ:Ro)
noncomputable def PinOk(pn:List Nat)(σ σ':L2.St):Prop:=∀i∈pn,σ'[i]?=σ[i]?
noncomputable def EndM(K:Lh)(pn:List Nat)(g:Gh)(H:Hp)(σ:L2.St)(Dn:fQ):Res->Prop
 |.nx ρ'=>∀σ' g' H',Evo g H g' H' f6->SE K g' ρ' σ' H'->PinOk pn σ σ'->Dn.nx σ' H'
 |.rt kd d ρ'=>∀v σ' g' H' F,Evo g H g' H' F->SE K (g'.plus F) ρ' σ' H'->PinOk pn σ σ'->VR1 K H' g' F kd d v F->Dn.rt v H'
 |.ct ρ'=>∀σ' g' H',Evo g H g' H' f6->SE K g' ρ' σ' H'->PinOk pn σ σ'->Dn.ct σ' H'
 |.bk ρ'=>∀σ' g' H',Evo g H g' H' f6->SE K g' ρ' σ' H'->PinOk pn σ σ'->Dn.bk σ' H'
noncomputable def xw(X:Cx)(st:List N9):TS:=λDn σ H=>∀pins s,Inv X pins σ H s->N5 (N6 X.prog X.w) X.A (execs st X.env) (SP X pins Dn) X.xe s
noncomputable def CW(X:Cx)(st:N9):TS:=λDn σ H=>∀pins s,Inv X pins σ H s->N5 (N6 X.prog X.w) X.A (exec st X.env) (SP X pins Dn) X.xe s
theorem dU:PSs X st (xw X st):=λpins s σ H D I h=>h pins s I
theorem vV:PS X st (CW X st):=λpins s σ H D I h=>h pins s I
theorem cg{t:TS}(p:PS X st t){Dn:fQ}{σ:L2.St}{H:Hp}(h:t Dn σ H):CW X st Dn σ H:=λpins s I=>p pins s σ H Dn I h
theorem gB{t:TS}(p:PSs X st t){Dn:fQ}{σ:L2.St}{H:Hp}(h:t Dn σ H):xw X st Dn σ H:=λpins s I=>p pins s σ H Dn I h
noncomputable def du(X:Cx)(pn:List Nat)(f:Ro->Option Res)(st:N9):Prop:=∀ρ r,f ρ=NW r->∀g σ H Dn,SE X.K g ρ σ H->EndM X.K pn g H σ Dn r->CW X st Dn σ H
noncomputable def dO(X:Cx)(pn:List Nat)(f:Ro->Option Res)(st:List N9):Prop:=∀ρ r,f ρ=NW r->∀g σ H Dn,SE X.K g ρ σ H->EndM X.K pn g H σ Dn r->xw X st Dn σ H
section
variable {K:Lh} {H H' H1:Hp} {g g' g1:Gh} {F F1 F2:Pr} {ρ:Ro} {σ σ' σ1:L2.St} {pn:List Nat}
theorem PinOk.refl:PinOk pn σ σ:=λ_ _=>rfl
theorem PinOk.trans(a:PinOk pn σ σ1)(b:PinOk pn σ1 σ2):PinOk pn σ σ2:=λi h=>(b i h).trans (a i h)
theorem PinOk.set{i:Nat}(h:i∉pn):PinOk pn σ (σ.set i v):=λj hj=>Lx λz=>h (by rw[z];exact hj)
theorem EndM.from(h:EndM K pn g H σ Dn r)(ev:Evo g H g1 H1 f6)(pk:PinOk pn σ σ1):EndM K pn g1 H1 σ1 Dn r:=by
 cases r with
 |nx ρ'=>exact λσ' g' H' e s p=>h σ' g' H' (bH ev e) s (pk.trans p)
 |rt kd d ρ'=>exact λv σ' g' H' F e s p r=>h v σ' g' H' F (bH ev e) s (pk.trans p) r
 |ct ρ'=>exact λσ' g' H' e s p=>h σ' g' H' (bH ev e) s (pk.trans p)
 |bk ρ'=>exact λσ' g' H' e s p=>h σ' g' H' (bH ev e) s (pk.trans p)
theorem FI{i:Nat}{S:Pr}(ev:Evo g H g1 H1 F)(se:SE K (g1.plus F) ρ σ H1)(hF:∀b,F b↔F1 b\/F2 b)(dj:∀b,F1 b->¬F2 b)(hS:∀b,Sx g1 F b->S b)(t:Tr K H1 S d k v F1) :
  Evo g H (g1.give F1 i) H1 F2/\SE K ((g1.give F1 i).plus F2) (ρ.set i (NW ⟨NZ,k,d⟩)) (σ.set i (NW v)) H1/\∀b,Sx (g1.give F1 i) F2 b↔Sx g1 F b:=by
 have n1:∀b,F1 b->g1 b=NX:=λb z=>(ev.tmp b ((hF b).mpr (.inl z))).1
 have hs:∀b,Sx (g1.give F1 i) F2 b↔Sx g1 F b:=λb=>by
  unfold Sx;rw[hF b];constructor
  ·rintro (z|z)
   ·exact(give_S.mp z).imp id .inl
   ·exact .inr (.inr z)
  ·rintro (z|z|z)
   ·exact .inl (give_S.mpr (.inl z))
   ·exact .inl (give_S.mpr (.inr z))
   ·exact .inr z
 have hp:∀b,Sg ((g1.give F1 i).plus F2) b↔Sx g1 F b:=λb=>(av b).trans (hs b);have sub:∀b,Sg ((g1.give F1 i).plus F2) b->Sg (g1.plus F) b:=λb z=>(av b).mpr ((hp b).mp z);refine⟨⟨ev.keep,λb=>⟨λe=>?_,λe=>?_⟩,λb j e=>?_,λb z=>?_,ev.dom⟩,⟨λj sl e=>?_,λb z=>se.mu b (sub b z),by simp[se.len]⟩,hs⟩
 ·have:=(ev.out b).mp e;rw[bG (λz=>by rw[n1 b z] at this;cases this)];exact this
 ·by_cases z:F1 b
  ·rw[ij z] at e;cases e
  ·rw[bG z] at e;exact(ev.out b).mpr e
 ·by_cases z:F1 b
  ·exact(ev.tmp b ((hF b).mpr (.inl z))).2
  ·rw[bG z] at e;exact ev.new b j e
 ·have:=ev.tmp b ((hF b).mpr (.inr z));exact⟨by rw[bG λz1=>dj b z1 z];exact this.1,this.2⟩
 ·by_cases hj:j=i
  ·subst hj
   have hlt:j<ρ.length:=by
    have:=(Lk.mp e).1;simpa using this
   rw[Ly hlt] at e;cases e;refine⟨v,F1,Ly (by rw[<- se.len];exact hlt),λb z=>cu (ij z) (dj b z),t.go (λ_ _ _ e=>e) λb o _ n z=>n (hS b ((hp b).mp z))⟩
  ·rw[Lx (Ne.symm hj)] at e⊢;obtain⟨w,Fj,e1,e2,e3⟩:=se.slot j sl e;refine⟨w,Fj,e1,λb z=>?_,e3.go (λ_ _ _ e=>e) λb o _ n z=>n (sub b z)⟩;have q:=bM (e2 b z);have nF:¬F b:=λz2=>by rw[(ev.tmp b z2).1] at q;cases q
   refine cu ?_ λz2=>nF ((hF b).mpr (.inr z2));rw[bG λz2=>nF ((hF b).mpr (.inl z2))];exact q
noncomputable def FJ:Kd->Ow
 |.fr k=>k
 |_=>.fz
theorem VR1.tr(hb:bZ kd=NZ)(h:VR1 K H g F kd d v F):Tr K H (Sx g F) d (FJ kd) v F:=by
 cases kd with
 |sh=>
  have e:F=f6:=by funext b;exact propext ⟨h.1 b,λz=>z.elim⟩
  rw[show FJ .sh=.fz from rfl];have:=Tr.fz h.2;rw[e] at this⊢;exact this
 |fr k=>exact h
 |bo i k=>cases hb
end
noncomputable def d5:N0->Bool
 |.ListComp ..|.SetComp ..|.DictComp ..=>NZ
 |_=>NY
theorem fK{n:Nat}(h:d5 e=NY):swapsWith e t n env=pure NZ:=by
 cases e<;>first|rfl|cases h
noncomputable def vW:N0->Bool
 |.Tuple ..=>NZ
 |_=>NY
theorem kq{k:Nat}{n:Nat}:swapsWithSole [.Tuple es k tp] e n env=pure NZ:=by
 cases e<;>rfl
theorem oq{k:Nat}(h:vW e=NY):swappedStores [.Tuple es k tp] e env=pure NX:=by
 cases e<;>first|rfl|cases h
noncomputable def pX(pn:List Nat)(i:Nat)(a:MR):Option Res:=match a with
 |some (kd,d,ρ1)=>if bZ (d9 kd d)=NY\/i∈pn then NX else NW (.nx (ρ1.set i (NW ⟨NZ,FJ (d9 kd d),d⟩)))
 |none=>NX
section
variable {X:Cx} {Γ:fV} {c:Cz} {pn:List Nat}
theorem kr{g g1:Gh}{σ:L2.St}{i:Nat}{Dn:fQ}(h:pX pn i (NW (kd,d,ρ1))=NW r)(q:EndM K pn g H σ Dn r)(ev:Evo g H g1 H1 F)(se:SE K (g1.plus F) ρ1 σ H1)(vr:VR1 K H1 g1 F kd d v F):Dn.nx (σ.set i (NW v)) H1:=by
 unfold pX at h;dsimp only at h;split at h
 ·cases h
 ·rename_i hb;cases h;rw[not_or] at hb;have vr1:=vr.im se.mu;obtain⟨c1,c2,_⟩:=FI (i:=i) (F2:=f6) ev se (λb=>⟨.inl,λz=>z.elim id λz=>z.elim⟩) (λ_ _ z=>z) (λ_ z=>z) (vr1.tr (by simpa using hb.1));exact q _ _ H1 c1 (by rw[bq λ_ z=>z] at c2;exact c2) (PinOk.set hb.2)
theorem FK(O:aC X Γ c){f:Ro->MR}{x:Str}{i:Nat}{e:N0}{p pos:Pos}(hl:gY c x=NY)(hi:bt x c.N=NW i)(hn:d5 e=NY)(hf:bF X f e):du X pn (λρ=>pX pn i (f ρ)) (.Assign [.Name x p] e pos):=by
 intro ρ r h g σ H Dn se q;have l:=dY O hl
 cases hf':f ρ with
 |none=>dsimp only at h;rw[hf'] at h;cases h
 |some w=>
  obtain⟨kd,d,ρ1⟩:=w;dsimp only at h;rw[hf'] at h;exact cg (o6 (i:=i) (by rw[O.N];exact O.nd) (by rw[O.N];exact aY hi) l.1 aB (fK hn) l.2) (hf ρ kd d ρ1 hf' g σ H _ se λv g1 H1 F ev se1 vr=>kr h q ev se1 vr)
noncomputable def CY:List Nat->ul
 |[]=>A8
 |i::is=>um (jF i) (CY is)
noncomputable def ou:List Nat->List D->List Ow->Ow->Ro->Ro
 |i::is,d::ds,es,r,ρ=>ou is ds es.tail r (ρ.set i (NW ⟨NZ,es.headD r,d⟩))
 |_,_,_,_,ρ=>ρ
theorem il{H H1:Hp}{Q:L2.St->Hp->Prop}:∀{is:List Nat} {ds:List D} {es:List Ow} {r:Ow} {vs:List V} {g1:Gh} {F S:Pr} {ρ:Ro} {σ:L2.St},is.length=ds.length->(∀i∈is,i∉pn)->Evo g H g1 H1 F->SE K (g1.plus F) ρ σ H1->(∀b,Sx g1 F b->S b)->TrL K H1 S ds es r vs F->PinOk pn σ0 σ->
  (∀g2 σ2,Evo g H g2 H1 f6->SE K g2 (ou is ds es r ρ) σ2 H1->PinOk pn σ0 σ2->Q σ2 H1)->CY is vs σ H1 Q
 |[],[],es,r,vs,g1,F,S,ρ,σ,hl,hp,ev,se,hS,t,pk,q=>by
  unfold TrL at t;have e:F=f6:=by funext b;exact propext ⟨t.2 b,λz=>z.elim⟩
  subst e;exact⟨t.1,q g1 σ ev (by rw[bq λ_ z=>z] at se;exact se) pk⟩
 |[],_::_,_,_,_,_,_,_,_,_,hl,_,_,_,_,_,_,_=>by simp at hl
 |_::_,[],_,_,_,_,_,_,_,_,hl,_,_,_,_,_,_,_=>by simp at hl
 |i::is,d::ds,es,r,vs,g1,F,S,ρ,σ,hl,hp,ev,se,hS,t,pk,q=>by
  unfold TrL at t;obtain⟨y,ys,F1,F2,rfl,hF,dj,t1,t2⟩:=t;obtain⟨c1,c2,c3⟩:=FI (i:=i) ev se hF dj hS t1;exact⟨y,ys,rfl,il (by simpa using hl) (λj hj=>hp j (Lu _ hj)) c1 c2 (λb z=>hS b ((c3 b).mp z)) t2 (pk.trans (PinOk.set (hp i LC))) q⟩
noncomputable def iR(kd:Kd)(ds:List D):Option (List Ow×Ow):=match kd with
 |.sh=>NW ([],.fz)
 |.fr (.own es r)=>NW (es,r)
 |.fr .fz=>NW ([],.fz)
 |.bo _ _=>if qP ds=NY then NW ([],.fz) else NX
theorem VR1.parts{H:Hp}{F:Pr}(hh:hd=.tup\/hd=.lst)(hk:iR kd ds=NW (es,r))(m:MuOk H (Sx g F))(h:VR1 K H g F kd (.nd hd ds) v F):∃a o xs F',v=.ref a/\H a=NW o/\eV K o hd xs/\(∀b,F' b->F b)/\TrL K H (Sx g F) ds es r xs F':=by
 have fl:∀{d:List D} {xs:List V},RpL K H (Sx g F) d xs->TrL K H (Sx g F) d [] .fz xs f6:=λh=>.ofFlat (λe z=>by cases z) h
 cases kd with
 |sh=>
  cases hk;obtain⟨a,o,xs,rfl,_,g1,q1,rl⟩:=h.2.nd;exact⟨a,o,xs,f6,rfl,g1,q1,λ_ z=>z.elim,fl rl⟩
 |fr k=>
  cases k with
  |fz=>
   cases hk;obtain⟨a,o,xs,rfl,_,g1,q1,rl⟩:=(Tr.fz_inv h).2.nd;exact⟨a,o,xs,f6,rfl,g1,q1,λ_ z=>z.elim,fl rl⟩
  |own es' r'=>
   cases hk;have h':Tr K H (Sx g F) (.nd hd ds) (.own es r) v F:=h;unfold Tr at h';obtain⟨a,o,xs,F',rfl,g1,q1,_,_,hF,t⟩:=h';exact⟨a,o,xs,F',rfl,g1,q1,λb z=>(hF b).mpr (.inr z),t⟩
 |bo i k=>
  simp only[iR] at hk;split at hk
  ·rename_i hi;cases hk;obtain⟨a,o,xs,rfl,_,g1,q1,rl⟩:=h.rd.nd;exact⟨a,o,xs,f6,rfl,g1,q1,λ_ z=>z.elim,fl (rl.im m hi)⟩
  ·cases hk
noncomputable def vX(pn:List Nat)(is:List Nat)(a:MR):Option Res:=match a with
 |some (kd,.nd .tup ds,ρ1)=>(match iR kd ds with|some (es,r)=>if is.length=ds.length/\(is.all λi=>!pn.contains i)=NY then NW (.nx (ou is ds es r ρ1)) else NX|none=>NX)
 |some (kd,.nd .lst ds,ρ1)=>(match iR kd ds with|some (es,r)=>if is.length=ds.length/\(is.all λi=>!pn.contains i)=NY then NW (.nx (ou is ds es r ρ1)) else NX|none=>NX)
 |_=>NX
noncomputable def vY(c:Cz):List N0->Option (List Nat)
 |[]=>NW []
 |.Name x _::r=>if gY c x then(match bt x c.N,vY c r with|some i,NW is=>NW (i::is)|_,_=>NX) else NX
 |_=>NX
theorem rC(O:aC X Γ c):∀{es:List N0} {is:List Nat},vY c es=NW is->A6 X es (CY is)/\(Oi es X.env).length=is.length/\(Oi es X.env).findIdx? (·.1)=NX
 |[],is,h=>by cases h;exact⟨l8,rfl,rfl⟩
 |e::es,is,h=>by
  cases e with
  |Name x p=>
   unfold vY at h;split at h
   ·rename_i hl;split at h
    ·rename_i i is' hi his;cases h;have l:=dY O hl;obtain⟨g1,g2,g3⟩:=rC O his;refine⟨gO (jp (i:=i) (by rw[O.N];exact O.nd) (by rw[O.N];exact aY hi) l.1 l.2) g1,?_,?_⟩
     ·show(Oi es X.env).length+1=_;rw[g2];rfl
     ·show((NZ,assign (.Name x p) X.env)::Oi es X.env).findIdx? (·.1)=NX;rw[L0];simp[g3]
    ·cases h
   ·cases h
  |_=>cases h
theorem FL(O:aC X Γ c){f:Ro->MR}{es:List N0}{is:List Nat}{k:Nat}{e:N0}{tp pos:Pos}(hf:bF X f e)(h1:vY c es=NW is)(hn:vW e=NY):du X pn (λρ=>vX pn is (f ρ)) (.Assign [.Tuple es k tp] e pos):=by
 intro ρ r h g σ H Dn se q;obtain⟨g1,g2,g3⟩:=rC O h1
 have pin:(is.all λi=>!pn.contains i)=NY->∀i∈is,i∉pn:=λh i hi=>by
  have:=LI.mp h i hi;simpa using this
 dsimp only[vX] at h;split at h
 ·rename_i kd ds ρ1 he;split at h
  ·rename_i ks r0 hk;split at h
   ·rename_i hl;cases h;refine cg (l9 aB (o5 O.calm g1 g2 g3) kq (oq hn)) (hf ρ _ _ _ he g σ H _ se λv g' H1 F ev se1 vr=>?_);obtain⟨a,o,xs,F',rfl,ga,qa,sF,t⟩:=vr.parts (.inl rfl) hk λb z=>se1.mu b ((av b).mpr z);cases(show o=_ from qa);refine⟨a,xs,rfl,.of ga,by rw[t.len,hl.1],il hl.1 (pin hl.2) (ev.drop sF) (se1.drop sF λb z=>(ev.tmp b z).1) (λb z=>z.imp id (sF b)) t PinOk.refl λg2 σ2 e2 s2 p2=>q σ2 g2 H1 e2 s2 p2⟩
   ·cases h
  ·cases h
 ·rename_i kd ds ρ1 he;split at h
  ·rename_i ks r0 hk;split at h
   ·rename_i hl;cases h;refine cg (l9 aB (BB O.calm g1 g2 g3) kq (oq hn)) (hf ρ _ _ _ he g σ H _ se λv g' H1 F ev se1 vr=>?_);obtain⟨a,o,xs,F',rfl,ga,qa,sF,t⟩:=vr.parts (.inr rfl) hk λb z=>se1.mu b ((av b).mpr z);cases(show o=_ from qa);refine⟨a,xs,rfl,.of ga,by rw[t.len,hl.1],il hl.1 (pin hl.2) (ev.drop sF) (se1.drop sF λb z=>(ev.tmp b z).1) (λb z=>z.imp id (sF b)) t PinOk.refl λg2 σ2 e2 s2 p2=>q σ2 g2 H1 e2 s2 p2⟩
   ·cases h
  ·cases h
 ·cases h
noncomputable def vZ(a:MR):Option Res:=match a with
 |some (kd,d,ρ1)=>if bZ (d9 kd d)=NY then NX else NW (.rt (d9 kd d) d ρ1)
 |none=>NX
theorem FM{f:Ro->MR}(hf:bF X f e):du X pn (λρ=>vZ (f ρ)) (.Return (NW e) pos):=by
 intro ρ r h g σ H Dn se q;dsimp only[vZ] at h;split at h
 ·rename_i kd d ρ1 he;split at h
  ·cases h
  ·cases h;exact cg (A5 aB) (hf ρ _ _ _ he g σ H _ se λv g1 H1 F ev se1 vr=>q v σ g1 H1 F ev se1 PinOk.refl (vr.im se1.mu))
 ·cases h
noncomputable def v5(a:MR):Option Res:=match a with
 |some (_,_,ρ1)=>NW (.nx ρ1)
 |none=>NX
theorem FN{f:Ro->MR}(hn:d5 e=NY)(hf:bF X f e):du X pn (λρ=>v5 (f ρ)) (.Expr e pos):=by
 intro ρ r h g σ H Dn se q;dsimp only[v5] at h;split at h
 ·rename_i kd d ρ1 he;cases h;refine cg (l7 aB (fK hn)) (hf ρ _ _ _ he g σ H _ se λv g1 H1 F ev se1 vr=>q σ g1 H1 (ev.drop λ_ z=>z.elim) ?_ PinOk.refl);have:=se1.drop (F2:=f6) (λ_ z=>z.elim) λb z=>(ev.tmp b z).1;rw[bq λ_ z=>z] at this;exact this
 ·cases h
theorem FO{x:Str}{j:Nat}:du X pn (λρ=>NW (.nx ρ)) (.Expr (.Constant (.str x) j pos) pos'):=by
 intro ρ r h g σ H Dn se q;cases h;exact cg A4 (q σ g H (.refl g H) se PinOk.refl)
noncomputable def v6(t:Option (Bool×Ro))(a b:Ro->Option Res):Option Res:=match t with
 |some (NY,ρ)=>a ρ
 |some (NZ,ρ)=>b ρ
 |none=>NX
theorem FQ{ft:Ro->Option (Bool×Ro)}(ht:fY X ft t)(ha:dO X pn fa a)(hb:dO X pn fb b):du X pn (λρ=>v6 (ft ρ) fa fb) (.If t a b pos):=by
 intro ρ r h g σ H Dn se q;dsimp only[v6] at h;split at h
 ·rename_i ρ1 e;exact cg (Ad gX dU dU) (ht ρ _ _ e g σ H _ se λg1 H1 ev se1=>uL (ha ρ1 r h g1 σ H1 Dn se1 (q.from ev PinOk.refl)))
 ·rename_i ρ1 e;exact cg (Ad gX dU dU) (ht ρ _ _ e g σ H _ se λg1 H1 ev se1=>uK (hb ρ1 r h g1 σ H1 Dn se1 (q.from ev PinOk.refl)))
 ·cases h
noncomputable def je(a:Option Res)(b:Ro->Option Res):Option Res:=match a with
 |some (.nx ρ)=>b ρ
 |r=>r
theorem FR:dO X pn (λρ=>NW (.nx ρ)) []:=by
 intro ρ r h g σ H Dn se q;cases h;exact gB xF (q σ g H (.refl g H) se PinOk.refl)
theorem CZ{fa fb:Ro->Option Res}(ha:du X pn fa s)(hb:dO X pn fb st):dO X pn (λρ=>je (fa ρ) fb) (s::st):=by
 intro ρ r h g σ H Dn se q;dsimp only at h;refine gB (gN vV dU) ?_
 cases e:fa ρ with
 |none=>rw[e] at h;cases h
 |some ra=>
  rw[e] at h
  cases ra with
  |nx ρ1=>exact ha ρ _ e g σ H _ se λσ1 g1 H1 ev se1 pk=>hb ρ1 r h g1 σ1 H1 Dn se1 (q.from ev pk)
  |rt kd d ρ1=>cases h;exact ha ρ _ e g σ H _ se q
  |ct ρ1=>cases h;exact ha ρ _ e g σ H _ se q
  |bk ρ1=>cases h;exact ha ρ _ e g σ H _ se q
theorem C0:du X pn (λρ=>NW (.nx ρ)) (.Pass pos):=by
 intro ρ r h g σ H Dn se q;cases h;exact cg xG (q σ g H (.refl g H) se PinOk.refl)
end
noncomputable def ow(c:Cz)(x y a:Str)(px py:Pos):Bool:=decide (a≠"__debug__")&&decide (c.sc.names.lookup x=NW .local)&&decide (c.sc.names.lookup y=NW .local)&&decide (x≠y)&&(py.line==px.line)&&decide (c.sc.kind=.function)
theorem v7{env:Env}{x y a b:Str}{px py pt pa pb pt2:Pos}{kt k2}(hx:env.scope.names.lookup x=NW .local)(hy:env.scope.names.lookup y=NW .local)(hxy:x≠y)(hl:(py.line==px.line)=NY)(hk:env.scope.kind=.function)(ha:a≠"__debug__") :
  swappedStores [.Tuple [.Name x px,.Name y py] kt pt] (.Tuple [.Name a pa,.Name b pb] k2 pt2) env=pure (NW [x,y]):=by
 have e1:env.kindOf x=NW .local:=hx;have e2:env.kindOf y=NW .local:=hy;have e3:env.blockKind=.function:=by unfold Env.blockKind;rw[hk];rfl
 have e4:([x,y]:List Str).eraseDups.length=2:=by
  have:(y==x)=NZ:=beq_eq_false_iff_ne.mpr (Ne.symm hxy);simp[List.eraseDups_cons,this]
 have hl':py.line=px.line:=eq_of_beq hl;unfold swappedStores;have e0:(Expr.Name x px).pos=px:=rfl;simp only[e0,List.head?_cons,MQ,Option.getD_some,LW,Nk,LK,List.filterMap_nil,e1,e2,e3,hl',beq_self_eq_true,Bool.and_self,if_true];rw[if_neg (by decide),if_neg (by simp),if_neg (by rw[e4];decide),if_neg (c:=[Expr.Name a pa,Expr.Name b pb].all (foldedForSure 8)=NY) (λz=>Bool.noConfusion (show NZ=NY from z)),if_neg (c:=[Expr.Name a pa,Expr.Name b pb].all (constantsAlone 8)=NY) (λz=>ha (eq_of_beq (MS.mp (show((a==("__debug__":Str))&&_)=NY from z)).1))]
noncomputable def v8(pn:List Nat)(i j:Nat)(a:Option (List KD))(ρ:Ro):Option Res:=match a with
 |some [x,y]=>if(mC x.1 x.2=NY/\mC y.1 y.2=NY)/\i≠j/\i∉pn/\j∉pn then NW (.nx (ou [i,j] [x.2,y.2] [] .fz ρ)) else NX
 |_=>NX
section
variable {X:Cx} {Γ:fV} {c:Cz} {pn:List Nat}
theorem FS(O:aC X Γ c){fa:Ro->Option (List KD)}{x y a b:Str}{px py pt pa pb pt2 pos:Pos}{kt k2}{i j:Nat}(ha:jS X fa [.Name a pa,.Name b pb])(hi:bt x c.N=NW i)(hj:bt y c.N=NW j)(hp:ow c x y a px py=NY) :
  du X pn (λρ=>v8 pn i j (fa ρ) ρ) (.Assign [.Tuple [.Name x px,.Name y py] kt pt] (.Tuple [.Name a pa,.Name b pb] k2 pt2) pos):=by
 intro ρ r h g σ H Dn se q;simp only[ow,Lj,decide_eq_true_eq] at hp;obtain⟨⟨⟨⟨⟨h0,h1⟩,h2⟩,h3⟩,h4⟩,h5⟩:=hp;rw[<- O.sc] at h1 h2 h5;dsimp only[v8] at h;split at h
 ·rename_i k1 k2 he;split at h
  ·rename_i hh;cases h;refine cg (Ba (i:=i) (j:=j) O.calm (by rw[O.N];exact O.nd) (by rw[O.N];exact aY hi) (by rw[O.N];exact aY hj) hh.2.1 h1 h2 dE (v7 h1 h2 h3 h4 h5 h0)) ?_;refine ha ρ _ he g σ H _ se λvs H1 s1 r1=>?_;have rl:=r1.sh (by simp[hh.1.1,hh.1.2]) se.mu s1;obtain⟨v,ys,rfl,rv,rl2⟩:=rl.cons_inv;obtain⟨w,zs,rfl,rw',rl3⟩:=rl2.cons_inv;cases rl3.nil_inv;refine⟨v,w,rfl,?_⟩
   have run:=il (pn:=pn) (K:=X.K) (g:=g) (H:=H) (H1:=H1) (σ0:=σ) (Q:=λσ' H'=>Dn.nx σ' H') (is:=[i,j]) (ds:=[k1.2,k2.2]) (es:=[]) (r:=.fz) (vs:=[v,w]) (g1:=g) (F:=f6) (S:=Sg g) (ρ:=ρ) (σ:=σ) rfl (λz hz=>by
     rcases Lq.mp hz with rfl|hz
     ·exact hh.2.2.1
     ·rw[L6.mp hz];exact hh.2.2.2) ⟨λb o _ e=>s1 b o e,λ_=>Iff.rfl,λb i e=>.inl ⟨i,e⟩,λ_ z=>z.elim,λb o e=>⟨o,s1 b o e⟩⟩ (by rw[bq λ_ z=>z];exact se.same s1) (λb z=>z.elim id λz=>z.elim) (.ofFz (.cons rv (.cons rw' .nil))) PinOk.refl λg2 σ2 e2 s2 p2=>q σ2 g2 H1 e2 s2 p2
   obtain⟨_,_,e1,_,_,e2,_,z⟩:=run;cases e1;cases e2;exact z
  ·cases h
 ·cases h
end
end J
namespace J
open PySem PySem.Spec L2
open Classical in
noncomputable def Gh.lend(g:Gh)(bs:List Nat):Gh:=λb=>if ∃i∈bs,g b=NW (NW i) then NW NX else g b
open Classical in
noncomputable def Gh.unlend(g' g:Gh)(bs:List Nat):Gh:=λb=>if ∃i∈bs,g b=NW (NW i) then g b else g' b
noncomputable def clrN:List Nat->Ro->Ro
 |[],ρ=>ρ
 |i::is,ρ=>clrN is (ρ.set i NX)
noncomputable def uc:List Nat->Ro->Ro->Ro
 |[],_,ρ'=>ρ'
 |i::is,ρ,ρ'=>uc is ρ (ρ'.set i (ρ[i]?).join)
section
variable {K:Lh} {H H' H1:Hp} {g g' g1:Gh} {F:Pr} {ρ ρ':Ro} {σ σ':L2.St} {bs:List Nat}
theorem pY(b:N2):Sg (g.lend bs) b↔Sg g b:=by
 unfold Gh.lend Sg;dsimp only;by_cases h:∃i∈bs,g b=NW (NW i)
 ·rw[if_pos h];obtain⟨i,_,e⟩:=h;simp[e]
 ·rw[if_neg h]
theorem jy{j:Nat}(h:g.lend bs b=NW (NW j)):g b=NW (NW j)/\j∉bs:=by
 unfold Gh.lend at h;split at h
 ·cases h
 ·rename_i n;exact⟨h,λz=>n ⟨j,z,h⟩⟩
theorem rD{i:Nat}(hi:i∈bs)(h:g b=NW (NW i)):g.lend bs b=NW NX:=by
 unfold Gh.lend;rw[if_pos ⟨i,hi,h⟩]
theorem jz(h:∀i∈bs,g b≠NW (NW i)):g.lend bs b=g b:=by
 unfold Gh.lend;rw[if_neg λ⟨i,hi,e⟩=>h i hi e]
theorem ku:∀{is:List Nat} {ρ:Ro},(clrN is ρ).length=ρ.length
 |[],_=>rfl
 |i::is,ρ=>by unfold clrN;rw[ku];simp
theorem iS:∀{is:List Nat} {ρ:Ro} {j:Nat} {sl:Sl},(clrN is ρ)[j]?=NW (NW sl)->ρ[j]?=NW (NW sl)/\j∉is
 |[],_,_,_,h=>⟨h,by simp⟩
 |i::is,ρ,j,sl,h=>by
  unfold clrN at h;obtain⟨h1,h2⟩:=iS h
  have hne:j≠i:=λz=>by
   subst z
   have hlt:j<ρ.length:=by
    have:=(Lk.mp h1).1;simpa using this
   rw[Ly hlt] at h1;cases h1
  rw[Lx (Ne.symm hne)] at h1;exact⟨h1,by simp[hne,h2]⟩
theorem rE:∀{is:List Nat} {ρ ρ':Ro},(uc is ρ ρ').length=ρ'.length
 |[],_,_=>rfl
 |i::is,ρ,ρ'=>by unfold uc;rw[rE];simp
theorem ox:∀{is:List Nat} {ρ ρ':Ro} {j:Nat} {sl:Sl},(uc is ρ ρ')[j]?=NW (NW sl)->(j∈is/\ρ[j]?=NW (NW sl))\/(j∉is/\ρ'[j]?=NW (NW sl))
 |[],_,_,_,_,h=>.inr ⟨by simp,h⟩
 |i::is,ρ,ρ',j,sl,h=>by
  unfold uc at h;rcases ox h with⟨h1,h2⟩|⟨h1,h2⟩
  ·exact .inl ⟨Lu _ h1,h2⟩
  ·by_cases hj:j=i
   ·subst hj
    have hlt:j<ρ'.length:=by
     have:=(Lk.mp h2).1;simpa using this
    rw[Ly hlt] at h2;refine .inl ⟨LC,?_⟩;have:(ρ[j]?).join=NW sl:=by simpa using h2
    cases q:ρ[j]? with
    |none=>rw[q] at this;cases this
    |some o=>rw[q] at this;have:o=NW sl:=this;rw[this]
   ·rw[Lx (Ne.symm hj)] at h2;exact .inr ⟨by simp[hj,h1],h2⟩
theorem SE.clrN(h:SE K g ρ σ H)(is:List Nat):SE K g (clrN is ρ) σ H:=⟨λi sl e=>h.slot i sl (iS e).1,h.mu,by rw[ku];exact h.len⟩
theorem SE.lend(h:SE K g ρ σ H)(bs:List Nat):SE K (g.lend bs) (J.clrN bs ρ) σ H:=by
 refine⟨λi sl e=>?_,λb z=>h.mu b ((pY b).mp z),by rw[ku];exact h.len⟩;obtain⟨e1,hn⟩:=iS e;obtain⟨v,F,q1,q2,q3⟩:=h.slot i sl e1;refine⟨v,F,q1,λb z=>?_,q3.go (λ_ _ _ e=>e) λb o _ n z=>n ((pY b).mp z)⟩;have:=q2 b z;rw[jz λj hj e=>by rw[this] at e;cases e;exact hn hj];exact this
theorem lM(h:∃i∈bs,g b=NW (NW i)):g'.unlend g bs b=g b:=by unfold Gh.unlend;rw[if_pos h]
theorem dB(h:¬∃i∈bs,g b=NW (NW i)):g'.unlend g bs b=g' b:=by unfold Gh.unlend;rw[if_neg h]
theorem jf(h:SE K g ρ σ H)(ev:Evo (g.lend bs) H g' H' F)(se:SE K (g'.plus F) ρ' σ' H')(pk:PinOk bs σ σ') :
  Evo g H (g'.unlend g bs) H' F/\SE K ((g'.unlend g bs).plus F) (uc bs ρ ρ') σ' H'/\∀b,Sg (g'.unlend g bs) b->Sg g' b:=by
 have ho:∀b,(∃i∈bs,g b=NW (NW i))->g' b=NW NX:=λb ⟨i,hi,e⟩=>(ev.out b).mp (rD hi e)
 have sub:∀b,Sg (g'.unlend g bs) b->Sg g' b:=λb z=>by
  by_cases q:∃i∈bs,g b=NW (NW i)
  ·rw[Sg,ho b q];simp
  ·rw[Sg,dB q] at z;exact z
 have subp:∀b,Sg ((g'.unlend g bs).plus F) b->Sg (g'.plus F) b:=λb z=>(av b).mpr (((av b).mp z).imp (sub b) id);have hFn:∀b,F b->¬∃i∈bs,g b=NW (NW i):=λb z q=>by have:=ho b q;rw[(ev.tmp b z).1] at this;cases this
 refine⟨⟨λb o n e=>ev.keep b o (λi q=>n i (jy q).1) e,λb=>⟨λe=>?_,λe=>?_⟩,λb j e=>?_,λb z=>?_,ev.dom⟩,⟨λj sl e=>?_,λb z=>se.mu b (subp b z),by rw[rE];exact se.len⟩,sub⟩
 ·have n:¬∃i∈bs,g b=NW (NW i):=λ⟨i,_,q⟩=>by rw[e] at q;cases q
  rw[dB n];exact(ev.out b).mp (by rw[jz λi hi q=>n ⟨i,hi,q⟩];exact e)
 ·by_cases q:∃i∈bs,g b=NW (NW i)
  ·rw[lM q] at e;exact e
  ·rw[dB q] at e;have:=(ev.out b).mpr e;rw[jz λi hi z=>q ⟨i,hi,z⟩] at this;exact this
 ·by_cases q:∃i∈bs,g b=NW (NW i)
  ·obtain⟨i,_,q⟩:=q;exact .inl ⟨i,q⟩
  ·rw[dB q] at e;exact(ev.new b j e).imp (λ⟨j,z⟩=>⟨j,(jy z).1⟩) id
 ·have t:=ev.tmp b z;exact⟨by rw[dB (hFn b z)];exact t.1,t.2.imp (λ⟨j,z⟩=>⟨j,(jy z).1⟩) id⟩
 ·rcases ox e with⟨hj,e1⟩|⟨hj,e1⟩
  ·obtain⟨v,Fj,q1,q2,q3⟩:=h.slot j sl e1;refine⟨v,Fj,by rw[pk j hj];exact q1,λb z=>?_,q3.go (λb o hb e=>ev.keep b o (λi q=>?_) e) λb o e n z=>?_⟩
   ·have:∃i∈bs,g b=NW (NW i):=⟨j,hj,q2 b z⟩;exact cu (by rw[lM this];exact q2 b z) λz2=>hFn b z2 this
   ·obtain⟨q,hn⟩:=jy q;rcases hb with hb|hb
    ·exact hb (by rw[Sg,q];simp)
    ·rw[q2 b hb] at q;cases q;exact hn hj
   ·have gn:g b=NX:=by
     cases q:g b with
     |none=>rfl
     |some x=>exact absurd (by rw[Sg,q];simp) n
    obtain⟨f1,f2⟩:=ev.froz e (by rw[jz λi _ z=>by rw[gn] at z;cases z];exact gn);rcases(av b).mp z with z|z
    ·exact sub b z f1
    ·exact f2 z
  ·obtain⟨v,Fj,q1,q2,q3⟩:=se.slot j sl e1;refine⟨v,Fj,q1,λb z=>?_,q3.go (λ_ _ _ e=>e) λb o _ n z=>n (subp b z)⟩;have q:=bM (q2 b z);refine cu ?_ λz2=>by rw[(ev.tmp b z2).1] at q;cases q
   rw[dB λz2=>by rw[ho b z2] at q;cases q];exact q
theorem VR1.unlend(hb:bZ kd=NZ)(sub:∀b,Sg g b->Sg g' b)(h:VR1 K H g' F kd d v F):VR1 K H g F kd d v F:=by
 have k2:∀b,Sx g F b->Sx g' F b:=λb z=>z.imp (sub b) id
 cases kd with
 |sh=>exact⟨h.1,h.2.weak k2⟩
 |fr k=>exact Tr.go (λ_ _ _ e=>e) (λb o _ n z=>n (k2 b z)) h
 |bo i k=>cases hb
theorem y3{s:Src}(hp:s.P K g H1)(hf:s.from g H bs)(ev:Evo (g.lend bs) H1 gi Hi f6):s.P K gi Hi:=by
 have fz:∀b o,H1 b=NW o->¬Sg g b->Hi b=NW o/\¬Sg gi b:=λb o e n=>by
  have n':g.lend bs b=NX:=by
   cases q:g.lend bs b with
   |none=>rfl
   |some x=>exact absurd ((pY b).mp (by rw[Sg,q];simp)) n
  obtain⟨f1,f2⟩:=ev.froz e n';exact⟨ev.keep b o (λi q=>by rw[n'] at q;cases q) e,λz=>z f1⟩
 refine Src.mono (g:=g) (H:=H1) (λb o e n=>(fz b o e n).2) (λb o hb e=>?_) (λa e=>hf.from_t e) hp;rcases hb with hb|hb
 ·exact(fz b o e hb).1
 ·rcases hf.from_l hb with hf|⟨i,hm,hf⟩
  ·exact(fz b o e (by rw[Sg,hf];simp)).1
  ·exact ev.keep b o (λj q=>by rw[rD hm hf] at q;cases q) e
end
noncomputable def c5(pn fg:List Nat)(tg:IT)(fb:Ro->Option Res):List D->Ro->Option Res
 |[],ρ=>NW (.nx (clrN fg ρ))
 |d::ds,ρ=>match nY tg d with
  |some ps=>if(ps.all λp=>!pn.contains p.1)=NY then(match fb (setAll ps (clrN fg ρ)) with
   |some (.nx ρ2)=>c5 pn fg tg fb ds ρ2
   |some (.ct ρ2)=>c5 pn fg tg fb ds ρ2
   |some (.bk ρ2)=>NW (.nx (clrN fg ρ2))
   |some (.rt k d ρ2)=>NW (.rt k d ρ2)
   |none=>NX) else NX
  |none=>NX
noncomputable def Ax(J:It)(g:TG)(tb:TS):TS:=λD σ H1=>∃W:Nat->Nat->L2.St->Hp->Prop,(∃m,W 0 m σ H1)/\∀i m σ H,W i m σ H->
 (J.stop i H/\D.nx σ H)\/(J.go i H/\∃N:L2.St->Hp->Prop,(∀σ' H',N σ' H'->∃m',m'<m/\W (i+1) m' σ' H')/\∀x H',J.yld i H x H'->g x σ H' λσ2 H2=>tb { D with nx:=N,ct:=N,bk:=D.nx } σ2 H2)
section
variable {X:Cx} {Γ:fV} {c:Cz} {pn:List Nat}
theorem v9{ps:List (Nat×D)}(h:RpP K H S ps vs)(hp:(ps.all λp=>!pn.contains p.1)=NY):PinOk pn σ (iK vs σ):=λi hi=>jw h λp hp' z=>by
 have:=LI.mp hp p hp';rw[z] at this;simp[hi] at this
theorem oy(O:aC X Γ c){fg:List Nat}{fb:Ro->Option Res}{tg:N0}{t:IT}{n:Nat}{body:List N9}(htg:oX c n tg=NW t)(hb:dO X pn fb body){jj:It}{src:Src}{ds:List D}{g g0:Gh}{bs:List Nat}{H H1:Hp}{Dn:fQ}{ρ:Ro}{σ:L2.St}{r:Res}
  (se:SE X.K (g.lend bs) ρ σ H1) (jt:iI X.K jj src ds) (sp:src.P X.K g H1) (sf:src.from g H bs) (h:c5 pn fg t fb ds ρ=NW r) (q:EndM X.K pn (g.lend bs) H1 σ Dn r) :
  Ax jj (wG X tg) (xw X body) Dn σ H1:=by
 refine⟨λi m σ' H'=>m=ds.length-i/\i<=ds.length/\∃ρ' g',SE X.K g' ρ' σ' H'/\Evo (g.lend bs) H1 g' H' f6/\PinOk pn σ σ'/\c5 pn fg t fb (ds.drop i) ρ'=NW r,
  ⟨ds.length,by simp,LF _,ρ,g.lend bs,se,.refl _ _,PinOk.refl,by simpa using h⟩,?_⟩
 rintro i m σ' H' ⟨rfl,hi',ρ',g',se',ev',pk',hrest⟩
 obtain⟨j1,j2⟩:=jt i g' H' (y3 sp sf ev') se'.mu;by_cases hlt:i<ds.length
 ·have hd:ds[i]?=NW ds[i]:=Lm hlt;obtain⟨go,yl⟩:=j2 _ hd;rw[MC hlt] at hrest;unfold c5 at hrest;split at hrest
  ·rename_i ps hps;split at hrest
   ·rename_i hpn;refine .inr ⟨go,λσ2 H2=>ds.length-(i+1)=ds.length-(i+1)/\i+1<=ds.length/\∃ρ' g',SE X.K g' ρ' σ2 H2/\Evo (g.lend bs) H1 g' H2 f6/\PinOk pn σ σ2/\c5 pn fg t fb (ds.drop (i+1)) ρ'=NW r,λσ2 H2 hN=>⟨ds.length-(i+1),by lia,hN⟩,λx H2 hy=>?_⟩;obtain⟨s2,rx⟩:=yl x H2 hy;refine uY (qW O n htg) (js hps rx λvs hvs=>?_);have se2:=SE.setAll hvs ((se'.clrN fg).same s2);have ev2:Evo (g.lend bs) H1 g' H2 f6:=bH ev' (eD s2 (λ_ z=>z.elim) λ_ z=>z.elim);have pk2:=pk'.trans (v9 (σ:=σ') hvs hpn);split at hrest
    ·rename_i ρ2 hbody;exact hb _ _ hbody g' _ H2 _ se2 λσ4 g4 H4 ev4 se4 pk4=>⟨rfl,hlt,ρ2,g4,se4,bH ev2 ev4,pk2.trans pk4,hrest⟩
    ·rename_i ρ2 hbody;exact hb _ _ hbody g' _ H2 _ se2 λσ4 g4 H4 ev4 se4 pk4=>⟨rfl,hlt,ρ2,g4,se4,bH ev2 ev4,pk2.trans pk4,hrest⟩
    ·rename_i ρ2 hbody;cases hrest;exact hb _ _ hbody g' _ H2 _ se2 λσ4 g4 H4 ev4 se4 pk4=>q σ4 g4 H4 (bH ev2 ev4) (se4.clrN fg) (pk2.trans pk4)
    ·rename_i k d ρ2 hbody;cases hrest;exact hb _ _ hbody g' _ H2 _ se2 λv σ4 g4 H4 F4 ev4 se4 pk4 r4=>q v σ4 g4 H4 F4 (bH ev2 ev4) se4 (pk2.trans pk4) r4
    ·cases hrest
   ·cases hrest
  ·cases hrest
 ·have e:i=ds.length:=by lia
  subst e;rw[List.drop_length] at hrest;cases hrest;exact .inl ⟨j1 (Lo _),q σ' g' H' ev' (se'.clrN fg) pk'⟩
noncomputable def oz(bs:List Nat)(ρ:Ro)(r:Option Res):Option Res:=match r with
 |some (.nx ρ')=>NW (.nx (uc bs ρ ρ'))
 |some (.rt k d ρ')=>if bZ k=NY then NX else NW (.rt k d (uc bs ρ ρ'))
 |_=>NX
noncomputable def oA(pn fg:List Nat)(tg:IT)(fb:List Nat->Ro->Option Res)(it:IR):Option Res:=match it with
 |some (bs,ds,ρ)=>oz bs ρ (c5 (pn++bs) fg tg (fb (pn++bs)) ds (clrN bs ρ))
 |none=>NX
theorem PinOk.left{a b:List Nat}(h:PinOk (a++b) σ σ'):PinOk a σ σ':=λi hi=>h i (Mp _ hi)
theorem PinOk.right{a b:List Nat}(h:PinOk (a++b) σ σ'):PinOk b σ σ':=λi hi=>h i (LA _ hi)
theorem C3(O:aC X Γ c)(hp:PassesOwn (N6 X.prog X.w) X.A X.env X.xe){fg:List Nat}{fi:Ro->IR}{fb:List Nat->Ro->Option Res}{tg iter:N0}{t:IT}{n:Nat}{body:List N9}{pos:Pos}(htg:oX c n tg=NW t)(hi:jc X fi tg iter)(hb:∀pn,dO X pn (fb pn) body)(hs:dH iter=NY) :
  du X pn (λρ=>oA pn fg t fb (fi ρ)) (.For tg iter body [] pos):=by
 intro ρ r h g σ H Dn se q;dsimp only[oA] at h;split at h
 ·rename_i bs ds ρ0 hit;refine cg (ut hp O.calm xW xX dU (eB hs)) (hi ρ bs ds ρ0 hit g σ H _ se λjj src g1 H1 ev1 se1 jt sp sf=>?_);have q1:=q.from ev1 PinOk.refl;show Ax jj (wG X tg) (xw X body) Dn σ H1;unfold oz at h;split at h
  ·rename_i ρ' hf;cases h;refine oy (g0:=g1) O htg (hb _) (se1.lend bs) jt sp sf hf λσ' g' H' ev se' pk=>?_;obtain⟨c1,c2,_⟩:=jf (F:=f6) se1 ev (by rw[bq λ_ z=>z];exact se') pk.right;exact q1 σ' _ H' c1 (by rw[bq λ_ z=>z] at c2;exact c2) pk.left
  ·rename_i k d ρ' hf;split at h
   ·cases h
   ·rename_i hk;cases h;refine oy (g0:=g1) O htg (hb _) (se1.lend bs) jt sp sf hf λv σ' g' H' F ev se' pk vr=>?_;obtain⟨c1,c2,c3⟩:=jf se1 ev se' pk.right;exact q1 v σ' _ H' F c1 c2 pk.left (vr.unlend (by simpa using hk) c3)
  ·cases h
 ·cases h
noncomputable def iT(fg:List Nat)(ft:Ro->Option (Bool×Ro))(fb:Ro->Option Res):Nat->Ro->Option Res
 |0,_=>NX
 |n+1,ρ=>match ft (clrN fg ρ) with
  |some (NZ,ρ1)=>NW (.nx ρ1)
  |some (NY,ρ1)=>(match fb ρ1 with
   |some (.nx ρ2)=>iT fg ft fb n ρ2
   |some (.ct ρ2)=>iT fg ft fb n ρ2
   |some (.bk ρ2)=>NW (.nx (clrN fg ρ2))
   |some (.rt k d ρ2)=>NW (.rt k d ρ2)
   |none=>NX)
  |none=>NX
theorem FT(hp:PassesOwn (N6 X.prog X.w) X.A X.env X.xe){fg:List Nat}{ft:Ro->Option (Bool×Ro)}{fb:Ro->Option Res}{t:N0}{body:List N9}{pos:Pos}(ht:fY X ft t)(hb:dO X pn fb body)(n:Nat):du X pn (iT fg ft fb n) (.While t body [] pos):=by
 intro ρ r h g σ H Dn se q;refine cg (uq hp gX dU) ⟨λm σ' H'=>∃ρ' g',SE X.K g' ρ' σ' H'/\Evo g H g' H' f6/\PinOk pn σ σ'/\iT fg ft fb m ρ'=NW r,⟨n,ρ,g,se,.refl g H,PinOk.refl,h⟩,?_⟩
 rintro m σ' H' ⟨ρ',g',se',ev',pk',hr⟩
 cases m with
 |zero=>cases hr
 |succ m=>
  unfold iT at hr;split at hr
  ·rename_i ρ1 e;cases hr
   exact ht _ _ _ e g' σ' H' _ (se'.clrN fg) λg1 H1 ev1 se1=>by
    rw[if_neg (by decide)];exact q σ' g1 H1 (bH ev' ev1) se1 pk'
  ·rename_i ρ1 e;refine ht _ _ _ e g' σ' H' _ (se'.clrN fg) λg1 H1 ev1 se1=>?_;rw[if_pos rfl];refine⟨λσ2 H2=>∃ρ2 g2,SE X.K g2 ρ2 σ2 H2/\Evo g H g2 H2 f6/\PinOk pn σ σ2/\iT fg ft fb m ρ2=NW r,λσ2 H2 hN=>⟨m,My m,hN⟩,?_⟩;have ev2:=bH ev' ev1;split at hr
   ·rename_i ρ2 hbody;exact hb _ _ hbody g1 σ' H1 _ se1 λσ4 g4 H4 ev4 se4 pk4=>⟨ρ2,g4,se4,bH ev2 ev4,pk'.trans pk4,hr⟩
   ·rename_i ρ2 hbody;exact hb _ _ hbody g1 σ' H1 _ se1 λσ4 g4 H4 ev4 se4 pk4=>⟨ρ2,g4,se4,bH ev2 ev4,pk'.trans pk4,hr⟩
   ·rename_i ρ2 hbody;cases hr;exact hb _ _ hbody g1 σ' H1 _ se1 λσ4 g4 H4 ev4 se4 pk4=>q σ4 g4 H4 (bH ev2 ev4) (se4.clrN fg) (pk'.trans pk4)
   ·rename_i k d ρ2 hbody;cases hr;exact hb _ _ hbody g1 σ' H1 _ se1 λv σ4 g4 H4 F4 ev4 se4 pk4 r4=>q v σ4 g4 H4 F4 (bH ev2 ev4) se4 (pk'.trans pk4) r4
   ·cases hr
  ·cases hr
theorem FU{f:Ro->Option Res}(is:List Nat)(h:du X pn f st):du X pn (λρ=>f (frzN is ρ)) st:=by
 intro ρ r hr g σ H Dn se q;obtain⟨g',s1,e1⟩:=SE.frzN is se;exact h _ r hr g' σ H Dn s1 (q.from e1 PinOk.refl)
noncomputable def IU(op:Oe)(i j:Int):Option D:=match op with
 |.Add=>NW (.int (i+j))
 |.BitOr=>NW (.int (Builtin.bitOr i j))
 |_=>NX
noncomputable def y4(op:Oe)(x y:D):Option D:=match x with
 |.int i=>(match y with|.int j=>IU op i j|_=>NX)
 |_=>NX
noncomputable def jg:D->Option V
 |.int i=>NW (.int i)
 |.str x=>NW (.str x)
 |.bl b=>NW (.bl b)
 |.non=>NW .non
 |_=>NX
theorem wa(h:jg d=NW v):Rp K H S d v:=by
 cases d<;>first|(cases h;unfold Rp;rfl)|cases h
theorem oB(h:jg d=NW v)(r:Rp K H S d u):u=v:=by
 cases d<;>first|(cases h;unfold Rp at r;exact r)|cases h
theorem tH(h:y4 op x y=NW z):∃u v w,jg x=NW u/\jg y=NW v/\jg z=NW w:=by
 cases x with
 |int i=>cases y with
  |int j=>cases op<;>first|(cases h;exact⟨_,_,_,rfl,rfl,rfl⟩)|(obtain⟨_,e⟩:=uZ h;cases e;exact⟨_,_,_,rfl,rfl,rfl⟩)|cases h
  |_=>cases h
 |_=>cases h
noncomputable def IV(op:Oe):V->V->Hp->VK->Prop:=λx y H Q=>∃dx dy dz u,jg dx=NW x/\jg dy=NW y/\y4 op dx dy=NW dz/\jg dz=NW u/\Q u H
theorem C4(op:Oe):Ke X op (IV op):=by
 intro pins s σ H x y v u Q I rx ry h;obtain⟨dx,dy,dz,w,hx,hy,hd,hz,q⟩:=h
 cases dx with
 |int i=>cases dy with
  |int j=>cases op with
   |Add=>cases hd;cases hx;cases hy;cases hz;exact xI pins s σ H _ _ v u Q I rx ry ⟨_,_,rfl,rfl,q⟩
   |BitOr=>cases hd;cases hx;cases hy;cases hz;exact Bn pins s σ H _ _ v u Q I rx ry ⟨_,_,rfl,rfl,q⟩
   |_=>cases hd
  |_=>cases hd
 |_=>cases hd
noncomputable def wb(pn:List Nat)(i:Nat)(op:Oe)(o:Option (Option Sl))(a:MR):Option Res:=match o,a with
 |some (NW s),NW (ky,dy,ρ1)=>if i∈pn then NX else(match y4 op s.d dy with|some dz=>NW (.nx (ρ1.set i (NW (xv dz))))|none=>NX)
 |_,_=>NX
theorem FV(O:aC X Γ c){f:Ro->MR}{x:Str}{i:Nat}{op:Oe}{e:N0}{p pos:Pos}(hl:gY c x=NY)(hi:bt x c.N=NW i)(hf:bF X f e):du X pn (λρ=>wb pn i op ρ[i]? (f ρ)) (.AugAssign (.Name x p) op e pos):=by
 intro ρ r h g σ H Dn se q;have l:=dY O hl;dsimp only[wb] at h;split at h
 ·rename_i sl ky dy ρ1 hs he;split at h
  ·cases h
  ·rename_i hp;split at h
   ·rename_i dz hd;cases h;obtain⟨ux,uy,uz,ax,ay,az⟩:=tH hd;obtain⟨v,F0,e1,e2,e3⟩:=se.slot i _ hs;have ev:=oB ax e3.rd;subst ev;refine cg (Bb (i:=i) (by rw[O.N];exact O.nd) (by rw[O.N];exact aY hi) l.1 aB (C4 op) l.2) ⟨_,e1,hf ρ _ _ _ he g σ H _ se λy g1 H1 F ev1 se1 r1=>?_⟩;have ey:=oB ay r1.rd;subst ey;refine⟨_,_,dz,uz,ax,ay,hd,az,?_⟩;have se2:=se1.drop (F2:=f6) (λ_ z=>z.elim) λb z=>(ev1.tmp b z).1;rw[bq λ_ z=>z] at se2;exact q _ g1 H1 (ev1.drop λ_ z=>z.elim) (se2.set i (wa az)) (PinOk.set hp)
   ·cases h
 ·cases h
end
end J
namespace J
open PySem PySem.Spec L2
section
variable {X:Cx} {Γ:fV} {c:Cz} {pn:List Nat}
end
end J
namespace J
open PySem PySem.Spec L2
mutual
noncomputable def cF:D->Ow->Bool
 |.nd hd ds,.own es r=>eU ds es r
 |d,_=>jQ d
noncomputable def eU:List D->List Ow->Ow->Bool
 |[],_,_=>NY
 |d::ds,es,r=>cF d (es.headD r)&&eU ds es.tail r
end
section
variable {K:Lh} {H:Hp} {S S':Pr}
mutual
theorem Tr.full(m:MuOk H S'):∀{d:D} {k:Ow} {v:V} {F:Pr},cF d k=NY->(∀b,S' b->¬F b)->Tr K H S d k v F->Rp K H S' d v
 |.non,_,_,_,_,_,h=>by unfold Tr at h;exact h.2
 |.bl _,_,_,_,_,_,h=>by unfold Tr at h;exact h.2
 |.int _,_,_,_,_,_,h=>by unfold Tr at h;exact h.2
 |.str _,_,_,_,_,_,h=>by unfold Tr at h;exact h.2
 |.scr ns,_,_,_,i,_,_=>by simp[cF,jQ] at i
 |.nd hd ds,.fz,_,_,i,_,h=>by
  unfold Tr at h;unfold cF at i;exact h.2.im m i
 |.nd hd ds,.own es r,v,F,i,k2,h=>by
  unfold Tr at h;unfold cF at i;unfold Rp;obtain⟨a,o,xs,F',e,g,q,n1,n2,hF,t⟩:=h;refine⟨a,o,xs,e,λz=>?_,g,q,TrL.full m i (λb z z2=>k2 b z ((hF b).mpr (.inr z2))) t⟩
  cases hm:hd.mu with
  |true=>exact k2 a z ((hF a).mpr (.inl ⟨hm,rfl⟩))
  |false=>
   obtain⟨o',e',ne⟩:=m a z;rw[g] at e';cases e'
   cases hd with
   |tup=>exact ne _ q
   |_=>simp[Hd.mu] at hm
theorem TrL.full(m:MuOk H S'):∀{ds:List D} {es:List Ow} {r:Ow} {vs:List V} {F:Pr},eU ds es r=NY->(∀b,S' b->¬F b)->TrL K H S ds es r vs F->RpL K H S' ds vs
 |[],_,_,_,_,_,_,h=>by unfold TrL at h;unfold RpL;exact h.1
 |d::ds,es,r,vs,F,i,k2,h=>by
  unfold TrL at h;obtain⟨y,ys,F1,F2,rfl,hF,dj,h1,h2⟩:=h;rw[eU,Lj] at i;exact .cons (Tr.full m i.1 (λb z z2=>k2 b z ((hF b).mpr (.inl z2))) h1) (TrL.full m i.2 (λb z z2=>k2 b z ((hF b).mpr (.inr z2))) h2)
end
end
noncomputable def kw(x:KD):Bool:=match x.1 with
 |.fr k=>cF x.2 k
 |_=>jQ x.2
noncomputable def oC(H:Hp)(F:Pr):Pr:=λb=>(∃o,H b=NW o/\∀xs,o≠.tup xs)/\¬F b
open Classical in
noncomputable def pZ(H:Hp)(F:Pr):Gh:=λb=>if oC H F b then NW NX else NX
theorem oldG_S:Sg (pZ H F) b↔oC H F b:=by
 unfold Sg pZ;by_cases h:oC H F b
 ·rw[if_pos h];exact⟨λ_=>h,λ_ z=>by cases z⟩
 ·rw[if_neg h];exact⟨λz=>absurd rfl z,λz=>absurd z h⟩
theorem jA:MuOk H (Sg (pZ H F)):=λb z=>(oldG_S.mp z).1
section
variable {K:Lh} {H H0:Hp} {g:Gh}
theorem VR1.full{Ft F F':Pr}{x:KD}(h:VR1 K H g Ft x.1 x.2 v F)(hf:kw x=NY)(hF:∀b,F b->F' b):Rp K H (Sg (pZ H F')) x.2 v:=by
 obtain⟨kd,d⟩:=x
 cases kd with
 |sh=>exact h.2.im jA hf
 |fr k=>exact Tr.full jA hf (λb z z2=>(oldG_S.mp z).2 (hF b z2)) h
 |bo i k=>
  obtain⟨_,F0,_,h⟩:=h;exact(Tr.rp (S':=λ_=>False) (λb z=>z.elim) h).im jA hf
theorem VRL.full{Ft F':Pr}:∀{xs:List KD} {vs:List V} {F:Pr},VRL K H g Ft xs vs F->xs.all kw=NY->(∀b,F b->F' b)->RpL K H (Sg (pZ H F')) (xs.map (·.2)) vs
 |[],_,_,h,_,_=>by unfold VRL at h;rw[h.1];exact .nil
 |x::xs,vs,F,h,hf,hF=>by
  obtain⟨kd,d⟩:=x;unfold VRL at h;obtain⟨y,ys,F1,F2,rfl,e,dj,h1,h2⟩:=h;rw[L3,Lj] at hf;exact .cons (VR1.full (x:=(kd,d)) h1 hf.1 λb z=>hF b ((e b).mpr (.inl z))) (VRL.full h2 hf.2 λb z=>hF b ((e b).mpr (.inr z)))
theorem wc{φ:Fn}{xs:List KD}{Q:VK}(hφ:φ (xs.map (·.2))=NW (kd,d))(hf:xs.all kw=NY){F:Pr}(h:VRL K H g F xs vs F)(q:∀v H',Same H H'->Rp K H' (oC H F) d v->Q v H'):ua K φ vs H Q E:=by
 refine⟨xs.map (·.2),pZ H F,kd,d,h.full hf λ_ z=>z,jA,hφ,λv H' s r=>q v H' s ?_⟩;obtain⟨F2,n2,r⟩:=r
 cases kd with
 |sh=>exact r.2.weak λb z=>.inl (oldG_S.mpr z)
 |fr k=>exact Tr.rp (λb z=>⟨.inl (oldG_S.mpr z),λz2=>by obtain⟨⟨o,e,_⟩,_⟩:=z;rw[n2 b z2] at e;cases e⟩) r
 |bo i k=>
  obtain⟨_,F0,h0,r⟩:=r;refine Tr.rp (λb z=>⟨.inl (oldG_S.mpr z),λz2=>?_⟩) r;have:=h0 b z2;unfold pZ at this;rw[if_pos z] at this;cases this
end
end J
namespace J
open PySem PySem.Spec L2
noncomputable def rF(kp:List Nat)(ρ:Ro):Ro:=ρ.mapIdx λi s=>match s with
 |some s=>if i∈kp/\k4 s.k=NY then NW s else NX
 |none=>NX
noncomputable def mV(g:Gh):Gh:=λb=>match g b with
 |some NX=>NW NX
 |_=>NX
theorem outG_iff:mV g b=NW NX↔g b=NW NX:=by
 unfold mV;split
 ·rename_i e;exact⟨λ_=>e,λ_=>rfl⟩
 ·rename_i h;exact⟨λz=>(by cases z),λz=>absurd z h⟩
theorem y6{i:Nat}:mV g b≠NW (NW i):=by
 unfold mV;split
 ·exact λz=>by cases z
 ·exact λz=>by cases z
theorem wd{g:Gh}(h:Sg (mV g) b):g b=NW NX:=by
 unfold Sg mV at h;split at h
 ·rename_i e;exact e
 ·exact absurd rfl h
theorem tI{g0 g g2:Gh}{H0 H H1 H2 H3:Hp}{F M:Pr}{σ σ3:L2.St}{kp:List Nat}(ev0:Evo g0 H0 g H F)(se:SE K (g.plus F) ρ σ H)(s1:Same H H1)(ev2:Evo g H1 g2 H2 f6)(hM:∀b o,M b->H b=NW o->F b)(h3:∀b o,¬M b->H2 b=NW o->H3 b=NW o)(hd:∀b o,H2 b=NW o->∃o',H3 b=NW o')(pk:∀i∈kp,σ3[i]?=σ[i]?)(hl:σ3.length=σ.length) :
  SE K (mV g) (rF kp ρ) σ3 H3/\Evo g0 H0 (mV g) H3 f6:=by
 have go:∀b o,(∀i,g b≠NW (NW i))->¬F b->H b=NW o->H3 b=NW o:=λb o n nf e=>
  h3 b o (λz=>nf (hM b o z e)) (ev2.keep b o n (s1 b o e))
 refine⟨⟨λi s e=>?_,λb z=>?_,?_⟩,⟨λb o n e=>?_,λb=>(ev0.out b).trans outG_iff.symm,λb i z=>absurd z y6,λ_ z=>z.elim,λb o e=>?_⟩⟩
 ·unfold rF at e;rw[Me] at e
  cases er:ρ[i]? with
  |none=>rw[er] at e;cases e
  |some x=>
   rw[er] at e
   cases x with
   |none=>cases e
   |some s'=>
    have e:(if i∈kp/\k4 s'.k=NY then NW s' else NX)=NW s:=Option.some.inj e
    by_cases hc:i∈kp/\k4 s'.k=NY
    ·rw[if_pos hc] at e;cases e;obtain⟨v,F1,e1,e2,e3⟩:=se.slot i s er;rw[gW hc.2] at e3⊢;obtain⟨nF,r⟩:=e3.fz_inv;refine⟨v,λ_=>False,by rw[pk i hc.1];exact e1,λ_ z=>z.elim,?_⟩
     have r':Rp K H3 (Sg (mV g)) s.d v:=r.go λb o n e=>by
      have n1:¬Sg g b:=λz=>n ((av b).mpr (.inl z));have n2:¬F b:=λz=>n ((av b).mpr (.inr z));exact⟨go b o (λi z=>n1 (by rw[Sg,z];simp)) n2 e,λz=>n1 (by rw[Sg,wd z];simp)⟩
     cases s with
     |mk lk k d=>cases d<;>(unfold Tr;exact⟨λ_ z=>z,r'⟩)
    ·rw[if_neg hc] at e;cases e
 ·have z':=wd z;obtain⟨o,e,n⟩:=se.mu b ((av b).mpr (.inl (by rw[Sg,z'];simp)));refine⟨o,go b o (λi q=>by rw[z'] at q;cases q) (λq=>?_) e,n⟩;have:=(ev0.tmp b q).1;rw[z'] at this;cases this
 ·unfold rF;rw[M4,se.len,hl]
 ·refine go b o (λi q=>?_) (λq=>?_) (ev0.keep b o n e)
  ·rcases ev0.new b i q with⟨j,z⟩|z
   ·exact n j z
   ·rw[e] at z;cases z
  ·rcases(ev0.tmp b q).2 with⟨j,z⟩|z
   ·exact n j z
   ·rw[e] at z;cases z
 ·obtain⟨o1,e1⟩:=ev0.dom b o e;obtain⟨o2,e2⟩:=ev2.dom b o1 (s1 b o1 e1);exact hd b o2 e2
theorem y7{g:Gh}{F:Pr}(m:MuOk H (Sg (g.plus F)))(hF:∀b,F b->g b=NX)(r:Rp K H1 (oC H F) d v):Rp K H1 (Sg g) d v:=
 r.weak λb z=>⟨m b ((av b).mpr (.inl z)),λq=>z (hF b q)⟩
end J
namespace J
open PySem PySem.Spec L2
theorem lN(b:List N9)(env:Env):∀a:List N9,execs (a++b) env=(execs a env >>= λf=>match f with|.next=>execs b env|f=>pure f)
 |[]=>by
  show execs b env=((pure .next:Sem Flow) >>= _)
  rw[pure_bind]
 |st::a=>by
  show execs (st::(a++b)) env=_;rw[execs_cons,execs_cons,bind_assoc];congr 1;funext f
  cases f with
  |next=>exact lN b env a
  |_=>rw[pure_bind]
theorem rG{a b:List N9}{σ:L2.St}(h:xw X a { Dn with nx:=λσ H=>xw X b Dn σ H } σ H):xw X (a++b) Dn σ H:=by
 intro pins s I;rw[lN];refine N4 (bB (h pins s I) λf s1 q=>?_)
 cases f with
 |next=>
  obtain⟨σ',H',I',q⟩:=q;exact q pins s1 I'
 |_=>exact N7 q
noncomputable def we(X:Cx)(i:Nat)(kp:List Nat)(nl:Nat)(P:D->Bool)(st:List N9):Prop:=∀d v (S:Pr) σ H Dn,P d=NY->nl<=σ.length->σ[i]?=NW (NW v)->Rp X.K H S d v->
 (∀σ' H' (M:Pr),(∀b,M b->¬S b/\∃xs,H b=NW (.lst xs))->(∀b o,¬M b->H b=NW o->H' b=NW o)->(∀b o,H b=NW o->∃o',H' b=NW o')->(∀j∈kp,σ'[j]?=σ[j]?)->σ'.length=σ.length->Dn.nx σ' H')->xw X st Dn σ H
noncomputable def mW(pn kp:List Nat)(nl i:Nat)(φ:Option Fn)(P:D->Bool)(a:Option (List KD×Ro))(fb:Ro->Option Res):Option Res:=match φ,a with
 |some φ,NW (kds,ρ1)=>if kds.all kw=NY/\i∉pn/\i∉kp/\i<ρ1.length/\nl<=ρ1.length then(match φ (kds.map (·.2)) with
  |some (_,d)=>(match fb (ρ1.set i (NW (xv d))) with
   |some (.nx ρ2)=>if P d=NY/\ρ2.length=ρ1.length then NW (.nx (rF kp ρ1)) else NX
   |r=>r)
  |none=>NX) else NX
 |_,_=>NX
section
variable {X:Cx} {Γ:fV} {c:Cz} {pn:List Nat}
theorem FW(O:aC X Γ c){x y:Str}{i:Nat}{φ:Fn}{kp:List Nat}{nl:Nat}{P:D->Bool}{fa:Ro->Option (List KD×Ro)}{fb:Ro->Option Res}{e:N0}{es:List N0}{body sp:List N9}{p p' pos' pos:Pos}(hl:gY c x=NY)(hi:bt x c.N=NW i)(hn:d5 (.Call (.Name y p') (e::es) [] pos')=NY)
  (hφ:Γ.fn y=NW φ) (hg:eh c.sc y=NY) (n1:ar e=NY) (n2:es.all ar=NY) (ha:kf X fa (e::es)) (hb:dO X (i::(kp++pn)) fb body) (hs:we X i (kp++pn) nl P sp) :
  dO X pn (λρ=>mW pn kp nl i (NW φ) P (fa ρ) fb) (.Assign [.Name x p] (.Call (.Name y p') (e::es) [] pos') pos::(body++sp)):=by
 intro ρ r h g0 σ H0 Dn se0 q;have l:=dY O hl;dsimp only[mW] at h
 cases ea:fa ρ with
 |none=>rw[ea] at h;cases h
 |some w=>
  obtain⟨kds,ρ1⟩:=w;rw[ea] at h;by_cases hc:kds.all kw=NY/\i∉pn/\i∉kp/\i<ρ1.length/\nl<=ρ1.length
  rotate_left
  ·dsimp only at h;rw[if_neg hc] at h;cases h
  dsimp only at h;rw[if_pos hc] at h;obtain⟨hf,hip,hik,hil,hnl⟩:=hc
  cases hv:φ (kds.map (·.2)) with
  |none=>rw[hv] at h;cases h
  |some w2=>
   obtain⟨kd0,d⟩:=w2;rw[hv] at h;dsimp only at h
   cases hbr:fb (ρ1.set i (NW (xv d))) with
   |none=>rw[hbr] at h;cases h
   |some rb=>
    rw[hbr] at h;refine gB (gN (o6 (i:=i) (by rw[O.N];exact O.nd) (by rw[O.N];exact aY hi) l.1 aB (fK hn) l.2) dU) ?_;refine aE (u6 (t:=wA X (e::es)) (λ_ _ _ _=>bN) (O.tab.fn y φ hφ) (cA O hg) dE (ao n1) (bJ n2)) (ha ρ _ _ ea g0 σ H0 _ se0 λvs g H F ev0 se vr=>?_);refine wc hv hf vr λv H1 s1 rr=>?_;have hF:∀b,F b->g b=NX:=λb z=>(ev0.tmp b z).1;have rg:Rp X.K H1 (Sg g) d v:=y7 se.mu hF rr;obtain⟨ev1,se1⟩:=lJ ev0 se;have ev1':Evo g0 H0 g H1 f6:=⟨λb o n e=>s1 _ _ (ev1.keep b o n e),ev1.out,ev1.new,λ_ z=>z.elim,λb o e=>let ⟨o',z⟩:=ev1.dom b o e;⟨o',s1 _ _ z⟩⟩;have se1':=(se1.same s1).set i rg;refine rG (hb _ _ hbr g (σ.set i (NW v)) H1 _ se1' ?_);have sub:∀{σ':L2.St},PinOk (i::(kp++pn)) (σ.set i (NW v)) σ'->PinOk pn (σ.set i (NW v)) σ':=λp j hj=>p j (Lu _ (LA _ hj));have q':=q.from ev1' (PinOk.set (v:=NW v) hip)
    cases rb with
    |rt kd d' ρ'=>cases h;exact λv' σ' g' H' F' e s p r=>q' v' σ' g' H' F' e s (sub p) r
    |ct ρ'=>cases h;exact λσ' g' H' e s p=>q' σ' g' H' e s (sub p)
    |bk ρ'=>cases h;exact λσ' g' H' e s p=>q' σ' g' H' e s (sub p)
    |nx ρ2=>
     dsimp only at h;by_cases hP:P d=NY/\ρ2.length=ρ1.length
     rotate_left
     ·rw[if_neg hP] at h;cases h
     rw[if_pos hP] at h;cases h;intro σ2 g2 H2 ev2 se2 pk2;show xw X sp Dn σ2 H2
     have own:∀b j,g b=NW (NW j)->oC H F b:=λb j z=>
      ⟨se.mu b ((av b).mpr (.inl (by rw[Sg,z];simp))),λq=>by rw[hF b q] at z;cases z⟩
     have key:Rp X.K H2 (oC H F) d v:=rr.go λb o n e=>⟨ev2.keep b o (λj z=>n (own b j z)) e,n⟩
     have hi2:σ2[i]?=NW (NW v):=by
      rw[pk2 i (LC ..),Ly (by rw[<- se.len];exact hil)]
     refine hs d v (oC H F) σ2 H2 Dn hP.1 (by rw[<- se2.len,hP.2];exact hnl) hi2 key λσ3 H3 M hM h3 hd pk3 hl3=>?_
     have old:∀j,j∈kp++pn->σ3[j]?=σ[j]?:=λj hj=>by
      rw[pk3 j hj,pk2 j (Lu _ hj),Lx];intro z;subst z;exact(Md.mp hj).elim hik hip
     obtain⟨se3,ev3⟩:=tI (M:=M) (kp:=kp) (σ3:=σ3) ev0 se s1 ev2 (λb o mb eb=>by
      obtain⟨nS,xs,e2⟩:=hM b mb;by_cases nF:F b
      ·exact nF
      ·refine absurd ⟨⟨o,eb,λys z=>?_⟩,nF⟩ nS;subst z
       have:=ev2.keep b _ (λj z=>by
        obtain⟨o',e',n⟩:=(own b j z).1;rw[eb] at e';cases e';exact n _ rfl) (s1 b _ eb)
       rw[e2] at this;cases this) h3 hd (λj hj=>old j (Mp _ hj)) (by rw[hl3,<- se2.len,hP.2,se.len])
     exact q σ3 _ H3 ev3 se3 λj hj=>old j (LA _ hj)
end
end J
namespace J
open PySem PySem.Spec L2
section
variable {X:Cx} {Γ:fV} {c:Cz}
theorem lO(O:aC X Γ c){x:Str}{j:Nat}{z:Int}{kk:Nat}{p ap cp ep kp:Pos}(hx:cX c x=NW j)(hb:dR (.Name x p)=NY)(hln:(ap.endLine==cp.line)=NY){σ:L2.St}{H:Hp}{Dn:fQ}{l:N2}{ys:List V}(e:σ[j]?=NW (NW (.ref l)))(hl:H l=NW (.lst ys))(hz:ys.length<sizeLine)(q:Dn.nx σ (upd H l (.lst (ys++[.int z])))) :
  CW X (.Expr (.Call (.Attribute (.Name x p) "append" ap) [.Constant (.int z) kk kp] [] cp) ep) Dn σ H:=by
 refine cg (l7 aB (fK rfl)) ?_;refine aE (qJ PySem.F.plainAttrs_list PySem.F.slot_list_append PySem.F.type_list_append fD aB (bd ug cq (ao rfl)) (jr hb) (mN rfl) hln (ao rfl) rfl) (dq O hx p e ⟨.inl ⟨rfl,ys,.of hl⟩,?_⟩);exact⟨l,ys,.int z,rfl,rfl,hl,hz,q⟩
theorem p0(O:aC X Γ c){x:Str}{j:Nat}{kk:Nat}{p ap cp ep kp:Pos}(hx:cX c x=NW j)(hb:dR (.Name x p)=NY)(hln:(ap.endLine==cp.line)=NY){σ:L2.St}{H:Hp}{Dn:fQ}{l:N2}{ys:List V}(e:σ[j]?=NW (NW (.ref l)))(hl:H l=NW (.lst ys))(hz:ys.length<sizeLine)(q:Dn.nx σ (upd H l (.lst (ys++[.non])))) :
  CW X (.Expr (.Call (.Attribute (.Name x p) "append" ap) [.Constant .none kk kp] [] cp) ep) Dn σ H:=by
 refine cg (l7 aB (fK rfl)) ?_;refine aE (qJ PySem.F.plainAttrs_list PySem.F.slot_list_append PySem.F.type_list_append fD aB (bd uh cq (ao rfl)) (jr hb) (mN rfl) hln (ao rfl) rfl) (dq O hx p e ⟨.inl ⟨rfl,ys,.of hl⟩,?_⟩);exact⟨l,ys,.non,rfl,rfl,hl,hz,q⟩
end
noncomputable def rH:D->Bool
 |.nd .lst ds=>decide (ds.length<=1000)&&ds.all λd=>match d with|.int _=>NY|_=>NZ
 |_=>NZ
noncomputable def FX:D->Bool
 |.nd .tup [a,b]=>rH a&&rH b
 |_=>NZ
noncomputable def mX:D->Bool
 |.nd .lst ds=>decide (ds.length<=1000)&&ds.all FX
 |_=>NZ
noncomputable def oY(H:Hp)(S:Pr)(b:N2):Prop:=¬S b/\∃ys,H b=NW (.lst ys)/\ys.length<=1000/\∀y∈ys,∃z,y=V.int z
theorem ip:∀{ds:List D} {ys:List V},(ds.all λd=>match d with|.int _=>NY|_=>NZ)=NY->RpL K H S ds ys->∀y∈ys,∃z,y=V.int z
 |[],ys,_,r,y,hy=>by rw[r.nil_inv] at hy;cases hy
 |d::ds,_,h,r,y,hy=>by
  obtain⟨y0,ys,rfl,r1,r2⟩:=r.cons_inv;rw[L3,Lj] at h;rcases Lq.mp hy with rfl|hy
  ·cases d with
   |int z=>exact⟨z,r1.int⟩
   |_=>exact absurd h.1 (by simp)
  ·exact ip h.2 r2 y hy
theorem wg(h:rH d=NY)(r:Rp K H S d v):∃l,v=.ref l/\oY H S l:=by
 cases d with
 |nd hd ds=>cases hd with
  |lst=>
   simp only[rH,Lj,decide_eq_true_eq] at h;obtain⟨l,o,ys,rfl,n,g,q,rl⟩:=r.nd;cases(show o=_ from q);exact⟨l,rfl,n,ys,g,by rw[rl.len];exact h.1,ip h.2 rl⟩
  |_=>cases h
 |_=>cases h
theorem FY{H:Hp}(h:FX d=NY)(r:Rp K H S d v):∃t l1 l2,v=.ref t/\H t=NW (.tup [.ref l1,.ref l2])/\oY H S l1/\oY H S l2:=by
 unfold FX at h;split at h
 ·rename_i a b;rw[Lj] at h;obtain⟨t,o,xs,rfl,n,g,q,rl⟩:=r.nd;cases(show o=_ from q);obtain⟨y1,ys1,rfl,r1,r2⟩:=rl.cons_inv;obtain⟨y2,ys2,rfl,r3,r4⟩:=r2.cons_inv;rw[r4.nil_inv] at g;obtain⟨l1,rfl,f1⟩:=wg h.1 r1;obtain⟨l2,rfl,f2⟩:=wg h.2 r3;exact⟨t,l1,l2,rfl,g,f1,f2⟩
 ·cases h
section
variable {X:Cx} {Γ:fV} {c:Cz}
theorem tJ(O:aC X Γ c)(hp:PassesOwn (N6 X.prog X.w) X.A X.env X.xe){i ia ib nl:Nat}{kp:List Nat}{na nb nx:Str}{z1 z2:Int}{k1 k2 k3:Nat}{q1 q2 p2 tp pos pa aa ca ea ka pb ab cb eb kb:Pos}
  (ha:bt na c.N=NW ia) (hla:gY c na=NY) (hza:cX c na=NW ia) (hb:bt nb c.N=NW ib) (hlb:gY c nb=NY) (hzb:cX c nb=NW ib) (hx:cX c nx=NW i)
  (hab:ia≠ib) (hka:ia∉kp) (hkb:ib∉kp) (hna:ia<nl) (hnb:ib<nl)
  (hba:dR (.Name na pa)=NY) (hbb:dR (.Name nb pb)=NY) (hca:(aa.endLine==ca.line)=NY) (hcb:(ab.endLine==cb.line)=NY) (hs:dH (.Name nx p2)=NY)
  {ds:List D} {S:Pr} {σ:L2.St} {H:Hp} {Dn:fQ} {a:N2} {xs:List V} (hP:ds.length<=1000/\ds.all FX=NY) (hnl:nl<=σ.length) (ei:σ[i]?=NW (NW (.ref a))) (g1:H a=NW (.lst xs)) (rl:RpL X.K H S ds xs)
  (q:∀σ' H',H' a=NW (.lst xs)->(∀b o,¬oY H S b->H b=NW o->H' b=NW o)->(∀b,oY H S b->∃ys,H' b=NW (.lst ys))->(∀k∈kp,σ'[k]?=σ[k]?)->σ'.length=σ.length->Dn.nx σ' H') :
  CW X (.For (.Tuple [.Name na q1,.Name nb q2] k3 tp) (.Name nx p2) [.Expr (.Call (.Attribute (.Name na pa) "append" aa) [.Constant (.int z1) k1 ka] [] ca) ea,.Expr (.Call (.Attribute (.Name nb pb) "append" ab) [.Constant (.int z2) k2 kb] [] cb) eb] [] pos) Dn σ H:=by
 have hlen:xs.length=ds.length:=rl.len
 have at_:∀(j:Nat) (hj:j<xs.length),∃t l1 l2,xs[j]=.ref t/\H t=NW (.tup [.ref l1,.ref l2])/\oY H S l1/\oY H S l2:=λj hj=>by
  obtain⟨y,e1,e2⟩:=rl.getD (Lm (by lia:j<ds.length));rw[Lm hj] at e1;cases e1;exact FY (LI.mp hP.2 _ (Mi _)) e2
 have hna':0<xs.length->¬oY H S a:=λh0 ⟨_,ys,e,_,hy⟩=>by
  rw[g1] at e;cases e;obtain⟨t,_,_,e,_⟩:=at_ 0 h0;obtain⟨z,e2⟩:=hy _ (Mi h0);rw[e] at e2;cases e2
 refine cg (ut hp O.calm (qC aB) (o5 O.calm (gO (jp (by rw[O.N];exact O.nd) (by rw[O.N];exact aY ha) (dY O hla).1 (dY O hla).2) (gO (jp (by rw[O.N];exact O.nd) (by rw[O.N];exact aY hb) (dY O hlb).1 (dY O hlb).2) l8))) dU (eB hs)) (dq O hx p2 ei ⟨a,rfl,⟨xs,.of g1⟩,?_⟩)
 refine⟨λj m σ' H'=>m=xs.length-j/\j<=xs.length/\H' a=NW (.lst xs)/\(∀b o,¬oY H S b->H b=NW o->H' b=NW o)/\(∀b,oY H S b->∃ys,H' b=NW (.lst ys)/\ys.length<=1000+2*j)/\(∀k∈kp,σ'[k]?=σ[k]?)/\σ'.length=σ.length,
  ⟨xs.length,by simp,LF _,g1,λ_ _ _ e=>e,λb ⟨_,ys,e,h,_⟩=>⟨ys,e,by lia⟩,λ_ _=>rfl,rfl⟩,?_⟩
 rintro j m σ' H' ⟨rfl,hj,ga,ho,hm,hk,hl⟩
 by_cases hlt:j<xs.length
 ·obtain⟨t,l1,l2,ex,gt,f1,f2⟩:=at_ j hlt;have nt:¬oY H S t:=λ⟨_,ys,e,_⟩=>by rw[gt] at e;cases e
  refine .inr ⟨⟨xs,xs[j],.of ga,Lm hlt⟩,λσ2 H2=>j+1<=xs.length/\H2 a=NW (.lst xs)/\(∀b o,¬oY H S b->H b=NW o->H2 b=NW o)/\(∀b,oY H S b->∃ys,H2 b=NW (.lst ys)/\ys.length<=1000+2*(j+1))/\(∀k∈kp,σ2[k]?=σ[k]?)/\σ2.length=σ.length,λσ2 H2 h2=>⟨xs.length-(j+1),by lia,rfl,h2⟩,λy H2 hy=>?_⟩;obtain⟨rfl,hy⟩:=hy;have ey:=hy xs (.of ga);rw[Lm hlt,ex] at ey;cases ey;refine⟨t,[.ref l1,.ref l2],rfl,.of (ho t _ nt gt),rfl,.ref l1,[.ref l2],rfl,.ref l2,[],rfl,rfl,?_⟩
  have la:((σ'.set ia (NW (.ref l1))).set ib (NW (.ref l2)))[ia]?=NW (NW (.ref l1)):=by
   rw[Lx (Ne.symm hab),Ly (by lia)]
  have lb:((σ'.set ia (NW (.ref l1))).set ib (NW (.ref l2)))[ib]?=NW (NW (.ref l2)):=by
   rw[Ly (by rw[MA];lia)]
  have hsz:sizeLine=16777216:=sizeLine_eq;obtain⟨ys1,e1,n1⟩:=hm l1 f1;have ne1:l1≠a:=λz=>hna' (by lia) (z▸f1);have ne2:l2≠a:=λz=>hna' (by lia) (z▸f2)
  have hm2:∀b,oY H S b->∃ys,(upd H2 l1 (.lst (ys1++[.int z1]))) b=NW (.lst ys)/\ys.length<=1000+2*j+1:=λb fb=>by
   by_cases hb1:b=l1
   ·subst hb1;exact⟨_,aG,by rw[LZ];simp;lia⟩
   ·obtain⟨ys,e,n⟩:=hm b fb;exact⟨ys,by rw[al hb1];exact e,by lia⟩
  obtain⟨ys2,e2,n2⟩:=hm2 l2 f2;refine gB (gN vV dU) (lO O hza hba hca la e1 (by lia) ?_);refine gB (qB vV) (lO O hzb hbb hcb lb e2 (by lia) ?_);refine⟨hlt,?_,λb o nb e=>?_,λb fb=>?_,λk hk'=>?_,?_⟩
  ·rw[al (Ne.symm ne2),al (Ne.symm ne1)];exact ga
  ·have d1:b≠l1:=λz=>nb (by rw[z];exact f1);have d2:b≠l2:=λz=>nb (by rw[z];exact f2);rw[al d2,al d1];exact ho b o nb e
  ·by_cases hb2:b=l2
   ·subst hb2;exact⟨_,aG,by rw[LZ];simp;lia⟩
   ·obtain⟨ys,e,n⟩:=hm2 b fb;exact⟨ys,by rw[al hb2];exact e,by lia⟩
  ·rw[Lx (λz=>hkb (by rw[z];exact hk')),Lx (λz=>hka (by rw[z];exact hk'))];exact hk k hk'
  ·rw[MA,MA];exact hl
 ·exact .inl ⟨⟨xs,.of ga,by lia⟩,q σ' H' ga ho (λb fb=>let ⟨ys,e,_⟩:=hm b fb;⟨ys,e⟩) hk hl⟩
theorem mY(O:aC X Γ c)(hp:PassesOwn (N6 X.prog X.w) X.A X.env X.xe){i ia ib nl:Nat}{kp:List Nat}{na nb nx:Str}{z1 z2:Int}{k1 k2 k3:Nat}{q1 q2 p2 tp pos pa aa ca ea ka pb ab cb eb kb:Pos}
  (ha:bt na c.N=NW ia) (hla:gY c na=NY) (hza:cX c na=NW ia) (hb:bt nb c.N=NW ib) (hlb:gY c nb=NY) (hzb:cX c nb=NW ib) (hx:cX c nx=NW i)
  (hab:ia≠ib) (hka:ia∉kp) (hkb:ib∉kp) (hna:ia<nl) (hnb:ib<nl)
  (hba:dR (.Name na pa)=NY) (hbb:dR (.Name nb pb)=NY) (hca:(aa.endLine==ca.line)=NY) (hcb:(ab.endLine==cb.line)=NY) (hs:dH (.Name nx p2)=NY) (hia:ia≠i) (hib:ib≠i) {kc:Nat} {pc ac cc ec kk':Pos} (hbc:dR (.Name nx pc)=NY) (hcc:(ac.endLine==cc.line)=NY) :
  we X i kp nl mX [.For (.Tuple [.Name na q1,.Name nb q2] k3 tp) (.Name nx p2) [.Expr (.Call (.Attribute (.Name na pa) "append" aa) [.Constant (.int z1) k1 ka] [] ca) ea,.Expr (.Call (.Attribute (.Name nb pb) "append" ab) [.Constant (.int z2) k2 kb] [] cb) eb] [] pos,.Expr (.Call (.Attribute (.Name nx pc) "append" ac) [.Constant .none kc kk'] [] cc) ec]:=by
 intro d v S σ H Dn hP hnl ei r q
 cases d with
 |nd hd ds=>cases hd with
  |lst=>
   simp only[mX,Lj,decide_eq_true_eq] at hP;obtain⟨a,o,xs,rfl,na',g1,q0,rl⟩:=r.nd;cases(show o=_ from q0);have hsz:sizeLine=16777216:=sizeLine_eq;refine gB (gN vV dU) (tJ (kp:=i::kp) O hp ha hla hza hb hlb hzb hx hab (λz=>(Lq.mp z).elim hia hka) (λz=>(Lq.mp z).elim hib hkb) hna hnb hba hbb hca hcb hs hP hnl ei g1 rl λσ' H' ga ho hm hk hl=>?_);refine gB (qB vV) (p0 O hx hbc hcc (by rw[hk i (LC ..)];exact ei) ga (by rw[rl.len];lia) ?_);refine q σ' _ (λb=>oY H S b\/b=a) (λb z=>z.elim (λ⟨n,ys,e,_⟩=>⟨n,ys,e⟩) λz=>z▸⟨na',xs,g1⟩) (λb o n e=>?_) (λb o e=>?_) (λj hj=>hk j (Lu _ hj)) hl
   ·rw[al (λz=>n (.inr z))];exact ho b o (λz=>n (.inl z)) e
   ·by_cases h1:b=a
    ·exact⟨_,by rw[h1];exact aG⟩
    ·rw[al h1];by_cases fb:oY H S b
     ·obtain⟨ys,e2⟩:=hm b fb;exact⟨_,e2⟩
     ·exact⟨o,ho b o fb e⟩
  |_=>cases hP
 |_=>cases hP
end
end J
namespace J
open PySem PySem.Spec L2
theorem mZ{κ:Type}[DecidableEq κ]{v:V}:∀(kvs:List (κ×V)) (k:κ) (j:Nat),(kvs.map (·.1)).Nodup->kvs.findIdx? (λkv=>decide (kv.1=k))=NW j->(kvs.map (λkv=>if kv.1=k then(kv.1,v) else kv)).map (·.2)=(kvs.map (·.2)).set j v
 |[],k,j,_,h=>by simp at h
 |(a,b)::r,k,j,hn,h=>by
  rw[L0] at h;rw[LJ,LV] at hn;by_cases e:a=k
  ·subst e;simp at h;subst h
   have:r.map (λkv=>if kv.1=a then(kv.1,v) else kv)=r:=by
    conv=>rhs;rw[<- List.map_id r]
    refine Mg λkv hk=>?_;rw[if_neg λz=>hn.1 (LX.mpr ⟨kv,hk,z⟩)];rfl
   simp[this]
  ·simp only[e,decide_false] at h;obtain⟨j',h',rfl⟩:=aZ (by simpa using h);have:=mZ (v:=v) r k j' hn.2 h';simp only[LJ,e,if_false,NC,this]
theorem rJ{κ:Type}[DecidableEq κ]{v:V}(kvs:List (κ×V))(k:κ):(kvs.map (λkv=>if kv.1=k then(kv.1,v) else kv)).map (·.1)=kvs.map (·.1):=by
 rw[LO];refine Mg λkv _=>?_;simp only[Function.comp]
 split<;>rfl
theorem c6{κ:Type}[DecidableEq κ]{kvs:List (κ×V)}{k:κ}:(kvs.any λkv=>decide (kv.1=k))=(kvs.findIdx? λkv=>decide (kv.1=k)).isSome:=by
 rw[Nx]
theorem iU{α β:Type}{f:α->β}:∀{l:List α},(l.map f).Nodup->l.Nodup
 |[],_=>.nil
 |a::l,h=>by
  rw[LJ,LV] at h;exact LV.mpr ⟨λz=>h.1 (MY z),iU h.2⟩
theorem y8{H:Hp}{t:Nat}{ks:List DK}{xs:List V}{k:DK}{y v:V}(g:H a=NW o)(q:eV K o (.dic t ks) xs)(h:gp d=NW k)(r:Rp K H S d y)(hk:jW t k=NY)(hz:xs.length<sizeLine) :
  (∀j,a9 ks k=NW j->ks.Nodup->∃o':Nat->HO,DPut H a y v (λe=>upd H a (o' e))/\∀e,(∀xs,o' e≠.tup xs)/\eV K (o' e) (.dic t ks) (xs.set j v))/\(a9 ks k=NX->∃o':Nat->HO,DPut H a y v (λe=>upd H a (o' e))/\∀e,(∀xs,o' e≠.tup xs)/\eV K (o' e) (.dic t (ks++[k])) (xs++[v])):=by
 rcases q with⟨rfl,kvs,rfl,e1,e2⟩|⟨m,rfl,kvs,ep,rfl,e1,e2⟩
 ·rcases jV h r with⟨x,rfl,rfl⟩|⟨ys,b,rfl,rfl,gb⟩
  ·have e3:a9 ks (.inl x)=kvs.findIdx? λkv=>decide (kv.1=x):=by
    unfold a9;rw[e1,Mv];congr 1;funext p;simp[Sum.inl.injEq]
   have hl:kvs.length<sizeLine:=by rw[e2] at hz;simpa using hz
   have dp:=DPut.k (k:=x) (v:=v) g hl;refine⟨λj hj hn=>⟨λ_=>.dK (di kvs x v),dp,λ_=>⟨(λxs h=>by cases h),.inl ⟨rfl,_,rfl,?_,?_⟩⟩⟩,λhj=>⟨λ_=>.dK (di kvs x v),dp,λ_=>⟨(λxs h=>by cases h),.inl ⟨rfl,_,rfl,?_,?_⟩⟩⟩⟩
   ·rw[e3] at hj;unfold di;rw[c6,hj,if_pos (by rfl),e1];have:=congrArg (L4 (Sum.inl:aV->DK)) (rJ (v:=v) kvs x);simp only[LO] at this⊢;exact this.symm
   ·rw[e3] at hj;unfold di;rw[c6,hj,if_pos (by rfl),e2]
    have hn':(kvs.map (·.1)).Nodup:=by
     rw[e1] at hn;have:kvs.map (λp=>(Sum.inl p.1:DK))=(kvs.map (·.1)).map Sum.inl:=by rw[LO];rfl
     rw[this] at hn;exact iU hn
    exact(mZ kvs x j hn' hj).symm
   ·rw[e3] at hj;unfold di;rw[c6,hj,if_neg (by simp),e1];simp
   ·rw[e3] at hj;unfold di;rw[c6,hj,if_neg (by simp),e2];simp
  ·cases hk
 ·rcases jV h r with⟨x,rfl,rfl⟩|⟨ys,b,rfl,rfl,gb⟩
  ·cases hk
  ·have e3:a9 ks (.inr ys)=kvs.findIdx? λkv=>decide (kv.1=ys):=by
    unfold a9;rw[e1,Mv];congr 1;funext p;simp[Sum.inr.injEq]
   have hl:kvs.length<sizeLine:=by rw[e2] at hz;simpa using hz
   have dp:=DPut.t (k:=ys) (v:=v) g (gb m hk) hl;refine⟨λj hj hn=>⟨λe=>.dT m e (di kvs ys v),dp,λe=>⟨(λxs h=>by cases h),.inr ⟨m,rfl,_,e,rfl,?_,?_⟩⟩⟩,λhj=>⟨λe=>.dT m e (di kvs ys v),dp,λe=>⟨(λxs h=>by cases h),.inr ⟨m,rfl,_,e,rfl,?_,?_⟩⟩⟩⟩
   ·rw[e3] at hj;unfold di;rw[c6,hj,if_pos (by rfl),e1];have:=congrArg (L4 (Sum.inr:List (aV ⊕ List aV)->DK)) (rJ (v:=v) kvs ys);simp only[LO] at this⊢;exact this.symm
   ·rw[e3] at hj;unfold di;rw[c6,hj,if_pos (by rfl),e2]
    have hn':(kvs.map (·.1)).Nodup:=by
     rw[e1] at hn;have:kvs.map (λp=>(Sum.inr p.1:DK))=(kvs.map (·.1)).map Sum.inr:=by rw[LO];rfl
     rw[this] at hn;exact iU hn
    exact(mZ kvs ys j hn' hj).symm
   ·rw[e3] at hj;unfold di;rw[c6,hj,if_neg (by simp),e1];simp
   ·rw[e3] at hj;unfold di;rw[c6,hj,if_neg (by simp),e2];simp
section
variable {K:Lh} {H:Hp} {S:Pr}
theorem TrL.setAt:∀{ds:List D} {es:List Ow} {r:Ow} {xs:List V} {F F2:Pr} {j:Nat} {d:D} {v:V},TrL K H S ds es r xs F->j<ds.length->Tr K H S d (es.getD j r) v F2->(∀b,F b->¬F2 b)->∃F3:Pr,(∀b,F3 b->F b\/F2 b)/\TrL K H S (ds.set j d) es r (xs.set j v) F3
 |[],_,_,_,_,_,_,_,_,_,hj,_,_=>by simp at hj
 |d0::ds,es,r,xs,F,F2,0,d,v,h,hj,t,dj=>by
  unfold TrL at h;obtain⟨y,ys,F1,F3,rfl,hF,dj1,h1,h2⟩:=h;refine⟨λb=>F2 b\/F3 b,λb z=>z.elim .inr λz=>.inl ((hF b).mpr (.inr z)),?_⟩;show TrL K H S (d::ds) es r (v::ys) _;unfold TrL
  exact⟨v,ys,F2,F3,rfl,λb=>Iff.rfl,λb z1 z2=>dj b ((hF b).mpr (.inr z2)) z1,by cases es<;>simpa using t,h2⟩
 |d0::ds,es,r,xs,F,F2,j+1,d,v,h,hj,t,dj=>by
  unfold TrL at h;obtain⟨y,ys,F1,F3,rfl,hF,dj1,h1,h2⟩:=h
  have eg:es.tail.getD j r=es.getD (j+1) r:=by cases es<;>simp
  obtain⟨F4,a1,a2⟩:=TrL.setAt (j:=j) (d:=d) (v:=v) (F2:=F2) h2 (by simpa using hj) (by rw[eg];exact t) λb z=>dj b ((hF b).mpr (.inr z));refine⟨λb=>F1 b\/F4 b,λb z=>z.elim (λz=>.inl ((hF b).mpr (.inl z))) λz=>(a1 b z).imp (λz=>(hF b).mpr (.inr z)) id,?_⟩;show TrL K H S (d0::ds.set j d) es r (y::ys.set j v) _;unfold TrL;refine⟨y,_,F1,F4,rfl,λb=>Iff.rfl,λb z1 z2=>?_,h1,a2⟩;rcases a1 b z2 with z|z
  ·exact dj1 b z1 z
  ·exact dj b ((hF b).mpr (.inl z1)) z
end
noncomputable def fR(es:List Ow)(r:Ow)(hd:Hd)(ds:List D)(dx:D)(x:KD):Option (Hd×List D):=match hd with
 |.lst=>(match dx with|.int z=>(match i4 ds.length z with|some j=>if cy (es.getD j r) x=NY then NW (.lst,ds.set j x.2) else NX|none=>NX)|_=>NX)
 |.dic t ks=>(match gp dx with
  |some k=>if jW t k=NY/\ds.length<100000 then(match a9 ks k with
   |some j=>if cy (es.getD j r) x=NY/\ks.Nodup/\j<ds.length then NW (.dic t ks,ds.set j x.2) else NX
   |none=>if es.length<=ds.length/\cy r x=NY then NW (.dic t (ks++[k]),ds++[x.2]) else NX) else NX
  |none=>NX)
 |_=>NX
noncomputable def tK(i:Nat)(fp:Ro->Option (Ow×D×(D->D)))(fk:Ro->Option KD)(a:MR):Option Res:=match a with
 |some (kd,d,ρ1)=>(match fp ρ1,fk ρ1,ρ1[i]? with
  |some (.own es r,.nd hd ds,up),NW (_,dx),NW (NW ⟨NZ,k,_⟩)=>(match fR es r hd ds dx (d9 kd d,d) with
   |some (hd',ds')=>NW (.nx (ρ1.set i (NW ⟨NZ,k,up (.nd hd' ds')⟩)))
   |none=>NX)
  |_,_,_=>NX)
 |none=>NX
theorem lP{n:Nat}:swapsWithSole [.Subscript o b sp] e n env=pure NZ:=by
 cases e<;>rfl
theorem rK:swappedStores [.Subscript o b sp] e env=pure NX:=by
 cases e<;>rfl
section
variable {X:Cx} {Γ:fV} {c:Cz} {pn:List Nat}
theorem oD{H H0:Hp}{g g0:Gh}{ρ:Ro}{i:Nat}{up:D->D}{xs:List V}{x:KD}{Dn:fQ}(hpd:fR es r hd ds dx x=NW (hd',ds'))(nd:mT K H g F ρ σ i k es r hd ds up a o xs F')(ev:Evo g0 H0 g H F)(se:SE K (g.plus F) ρ σ H)(vr:VR1 K H g F x.1 x.2 v F)(ry:Rp K H S dx y)(q:EndM K pn g0 H0 σ Dn (.nx (ρ.set i (NW ⟨NZ,k,up (.nd hd' ds')⟩)))) :
  (∃z j,hd=.lst/\y=.int z/\o=.lst xs/\H a=NW o/\i4 xs.length z=NW j/\Dn.nx σ (upd H a (.lst (xs.set j v))))\/((∃t ks,hd=.dic t ks)/\∃F4,DPut H a y v F4/\∀e,Dn.nx σ (F4 e)):=by
 have hF:∀b,F b->g b=NX:=λb z=>(ev.tmp b z).1;have mm:MuOk H (Sx g F):=λb z=>se.mu b ((av b).mpr z);have sub:∀(F2:Pr),(∀b,F2 b->F b)->∀b,Sg (g.give F2 i) b->Sg (g.plus F) b:=λF2 s2 b z=>(av b).mpr ((give_S.mp z).imp id (s2 b))
 have fin:∀{kc:Ow},cy kc x=NY->∃F2:Pr,(∀b,F2 b->F b)/\Tr K H (Sg (g.give F2 i)) x.2 kc v F2/\(∀b,F' b->¬F2 b):=λ{kc} hf=>by
  obtain⟨F2,a1,a2⟩:=VR1.fit (p:=x) hf mm hF (λb z=>z) vr;refine⟨F2,a1,a2 _ λb z=>?_,λb z1 z2=>by have:=nd.lab b z1;rw[hF b (a1 b z2)] at this;cases this⟩;exact(give_S.mp z).elim (λz=>.inr (.inl z)) λz=>.inr (.inr (.inl z))
 have out:∀{o':HO} {F2:Pr},(∀b,F2 b->F b)->SE K (g.give F2 i) (ρ.set i (NW ⟨NZ,k,up (.nd hd' ds')⟩)) σ (upd H a o')->Dn.nx σ (upd H a o'):=λ{o' F2} s2 s=>q σ _ _ (ev.give s2 nd.own) s PinOk.refl;unfold fR at hpd;split at hpd
 ·split at hpd
  ·rename_i z;split at hpd
   ·rename_i j hj;split at hpd
    ·rename_i hf;cases hpd;obtain⟨F2,b1,b2,b3⟩:=fin hf;have ho:o=.lst xs:=nd.ok;have hlen:=nd.kids.len;have hj':j<ds.length:=(mj hj).2.1;obtain⟨F3,c1,c2⟩:=(nd.kids.go (S':=Sg (g.give F2 i)) (λ_ _ _ e=>e) λb o _ n z=>n (sub F2 b1 b z)).setAt hj' b2 b3;exact .inl ⟨z,j,rfl,ry.int,ho,nd.at_,by rw[hlen];exact hj,out b1 (nd.put (.lst (xs.set j v)) .lst _ _ F2 F3 rfl rfl (λxs h=>by cases h) b1 c1 c2)⟩
    ·cases hpd
   ·cases hpd
  ·cases hpd
 ·rename_i t ks;split at hpd
  ·rename_i kk hk;split at hpd
   ·rename_i hfk;have hlen:=nd.kids.len;obtain⟨p1,p2⟩:=y8 (v:=v) nd.at_ nd.ok hk ry hfk.1 (by rw[hlen];exact Lr hfk.2 (bj (Lo _)));split at hpd
    ·rename_i j hj;split at hpd
     ·rename_i hf;cases hpd;obtain⟨o',d1,d2⟩:=p1 j hj hf.2.1;obtain⟨F2,b1,b2,b3⟩:=fin hf.1;obtain⟨F3,c1,c2⟩:=(nd.kids.go (S':=Sg (g.give F2 i)) (λ_ _ _ e=>e) λb o _ n z=>n (sub F2 b1 b z)).setAt hf.2.2 b2 b3;exact .inr ⟨⟨t,ks,rfl⟩,_,d1,λe=>out b1 (nd.put (o' e) (.dic t ks) _ _ F2 F3 rfl (d2 e).2 (d2 e).1 b1 c1 c2)⟩
     ·cases hpd
    ·rename_i hj;split at hpd
     ·rename_i hf;cases hpd;obtain⟨o',d1,d2⟩:=p2 hj;obtain⟨F2,b1,b2,b3⟩:=fin hf.2;have c2:=TrL.snoc2 hf.1 (nd.kids.go (S':=Sg (g.give F2 i)) (λ_ _ _ e=>e) λb o _ n z=>n (sub F2 b1 b z)) b2 b3;exact .inr ⟨⟨t,ks,rfl⟩,_,d1,λe=>out b1 (nd.put (o' e) (.dic t (ks++[kk])) _ _ F2 _ rfl (d2 e).2 (d2 e).1 b1 (λb z=>z) c2)⟩
     ·cases hpd
   ·cases hpd
  ·cases hpd
 ·cases hpd
theorem FZ(O:aC X Γ c){f:Ro->MR}{i:Nat}{fp:Ro->Option (Ow×D×(D->D))}{fk:Ro->Option KD}{b k e:N0}{sp pos:Pos}(hf:bF X f e)(hp:tE X i fp b)(hk:SndE X fk k)(hpl:cR k=NY)(hn:d5 e=NY):du X pn (λρ=>tK i fp fk (f ρ)) (.Assign [.Subscript b k sp] e pos):=by
 intro ρ r h g σ H Dn se q;dsimp only[tK] at h;split at h
 ·rename_i kd d ρ1 he;split at h
  ·rename_i es r0 hd ds up kx dx kk d0 ep ek ei;split at h
   ·rename_i hd' ds' hpd;cases h
    have mu:hd.mu=NY:=by
     cases hd with
     |tup=>simp[fR] at hpd
     |_=>rfl
    have core:∀v g1 H1 F,Evo g H g1 H1 F->SE X.K (g1.plus F) ρ1 σ H1->VR1 X.K H1 g1 F kd d v F->∀v1 H2 w Fi k' d',Same H1 H2->ρ1[i]?=NW (NW ⟨NZ,k',d'⟩)->σ[i]?=NW (NW w)->(∀b,Fi b->(g1.plus F) b=NW (NW i))->FP X.K H2 (Sg (g1.plus F)) k' w Fi (.own es r0) (.nd hd ds) v1 up->∀y H3,Same H2 H3->VR X.K (g1.plus F) H2 H3 kx dx y->
      ∃a o xs F',v1=.ref a/\mT X.K H3 g1 F ρ1 σ i kk es r0 hd ds up a o xs F'/\((∃z j,hd=.lst/\y=.int z/\o=.lst xs/\H3 a=NW o/\i4 xs.length z=NW j/\Dn.nx σ (upd H3 a (.lst (xs.set j v))))\/((∃t ks,hd=.dic t ks)/\∃F4,DPut H3 a y v F4/\∀e,Dn.nx σ (F4 e))):=by
     intro v g1 H1 F ev se1 vr v1 H2 w Fi k' d' s2 ei' ew lb fp1 y H3 s3 ry;rw[ei] at ei';cases ei';have tz:=s2.trans s3;have se3:=se1.same tz;have ev3:Evo g H g1 H3 F:=⟨λb o n e=>tz _ _ (ev.keep b o n e),ev.out,ev.new,ev.tmp,λb o e=>let ⟨o',q1⟩:=ev.dom b o e;⟨o',tz _ _ q1⟩⟩;obtain⟨a,o,xs,F',rfl,nd⟩:=FP.node se3 (λb z=>(ev.tmp b z).1) ei ew lb (fp1.same s3) mu;exact⟨a,o,xs,F',rfl,nd,oD (x:=(d9 kd d,d)) hpd nd ev3 se3 ((vr.im se1.mu).go tz λ_ _ _ z=>z) ry.rd q⟩
    cases hd with
    |lst=>
     refine cg (l9 aB (uo aB aB nE (by intro v;cases k<;>first|rfl|cases hpl)) lP rK) ?_
     refine hf ρ _ _ _ he g σ H _ se λv g1 H1 F ev se1 vr=>hp ρ1 _ _ _ ep (g1.plus F) σ H1 _ se1 λv1 H2 w Fi k' d' s2 ei' ew lb fp1=>hk ρ1 _ _ ek (g1.plus F) σ H2 _ (se1.same s2) λy H3 s3 ry=>?_;obtain⟨a,o,xs,F',rfl,nd,fin⟩:=core v g1 H1 F ev se1 vr v1 H2 w Fi k' d' s2 ei' ew lb fp1 y H3 s3 ry;rcases fin with⟨z,j,_,rfl,rfl,g3,hj,fin⟩|⟨⟨t,ks,z⟩,_⟩
     ·exact⟨a,xs,z,j,rfl,rfl,g3,hj,fin⟩
     ·cases z
    |dic t ks=>
     refine cg (xR (by have:=O.tab.units;lia) aB aB aB (fK hn)) ?_;refine hf ρ _ _ _ he g σ H _ se λv g1 H1 F ev se1 vr=>hp ρ1 _ _ _ ep (g1.plus F) σ H1 _ se1 λv1 H2 w Fi k' d' s2 ei' ew lb fp1=>hk ρ1 _ _ ek (g1.plus F) σ H2 _ (se1.same s2) λy H3 s3 ry=>?_;obtain⟨a,o,xs,F',rfl,nd,fin⟩:=core v g1 H1 F ev se1 vr v1 H2 w Fi k' d' s2 ei' ew lb fp1 y H3 s3 ry;rcases fin with⟨z,j,zz,_⟩|⟨_,H4,d1,fin⟩
     ·cases zz
     ·exact⟨a,H4,rfl,d1,fin⟩
    |tup=>cases mu
    |obj c ns=>simp[fR] at hpd
   ·cases h
  ·cases h
 ·cases h
noncomputable def lQ(i:Nat)(o:Option (Option Sl))(a:Option (List KD×Ro)):Option Res:=match o,a with
 |some (NW _),NW ([x,y],ρ1)=>(match ρ1[i]? with
  |some (NW ⟨NZ,.own es r,.nd .lst ds⟩)=>(match fR es r .lst ds y.2 (d9 x.1 x.2,x.2) with
   |some (hd',ds')=>NW (.nx (ρ1.set i (NW ⟨NZ,.own es r,.nd hd' ds'⟩)))
   |none=>NX)
  |_=>NX)
 |_,_=>NX
theorem C5(O:aC X Γ c){fa:Ro->Option (List KD×Ro)}{i:Nat}{z:Str}{k e:N0}{sp pos p:Pos}(ha:kj X fa e k)(hz:cX c z=NW i)(hpl:cR k=NY)(hn:d5 e=NY):du X pn (λρ=>lQ i ρ[i]? (fa ρ)) (.Assign [.Subscript (.Name z p) k sp] e pos):=by
 intro ρ r h g σ H Dn se q;dsimp only[lQ] at h;split at h
 ·rename_i sl x y ρ1 e0 he;split at h
  ·rename_i es r0 ds ei;split at h
   ·rename_i hd' ds' hpd;cases h;obtain⟨w0,_,ew,_,_⟩:=se.slot i sl e0
    refine cg (l9 aB (uo aB aB L2.nE (by intro v;cases k<;>first|rfl|cases hpl)) lP rK) ?_
    refine cU (ha ρ _ _ he g σ H (λvs H3=>∃v y',vs=[v,y']/\∃a xs z j,w0=.ref a/\y'=.int z/\H3 a=NW (.lst xs)/\i4 xs.length z=NW j/\Dn.nx σ (upd H3 a (.lst (xs.set j v)))) se λvs g1 H3 F ev se1 vr=>?_) λv H1 h1=>dq O hz p ew (cU h1 λy' H3 h3=>?_)
    ·unfold VRL at vr;obtain⟨v,ys,Fa,Fb,rfl,hF,dj,v1,v2⟩:=vr;unfold VRL at v2;obtain⟨y',ys2,Fc,Fd,rfl,hF2,dj2,v3,v4⟩:=v2;unfold VRL at v4;obtain⟨rfl,hn4⟩:=v4;have sFa:∀b,Fa b->F b:=λb z=>(hF b).mpr (.inl z);have ev2:=ev.drop sFa;have se2:=se1.drop sFa λb z=>(ev.tmp b z).1;obtain⟨w1,Fi,e1,e2,e3⟩:=se2.slot i _ ei;rw[ew] at e1;cases e1;obtain⟨a,o,xs,F',rfl,nd⟩:=FP.node se2 (λb z=>(ev2.tmp b z).1) ei ew e2 (FP.root e3) rfl;have v1':VR1 X.K H3 g1 Fa x.1 x.2 v Fa:=v1.go (Same.refl H3) λb o _ z=>sFa b z;have core:=oD (x:=(d9 x.1 x.2,x.2)) hpd nd ev2 se2 (v1'.im se2.mu) v3.rd q;rcases core with⟨z,j,_,e5,e6,e7,e8,fin⟩|⟨⟨t,ks,z⟩,_⟩
     ·subst e6;exact⟨v,y',rfl,a,xs,z,j,rfl,e5,e7,e8,fin⟩
     ·cases z
    ·obtain⟨v0,y0,e,rest⟩:=h3;cases e;obtain⟨a,xs,z,j,e1,e2,e3,e4,e5⟩:=rest;exact⟨a,xs,z,j,e1,e2,e3,e4,e5⟩
   ·cases h
  ·cases h
 ·cases h
end
end J
namespace J
open PySem PySem.Spec L2
mutual
inductive IS where
 |asg (i:Nat) (a:ME)
 |unp (is:List Nat) (a:ME)
 |aug (i:Nat) (op:Oe) (a:ME)
 |put (b:BP) (k:IE) (a:ME)
 |putF (c:Str) (b:BP) (f:Str) (a:ME)
 |putM (i:Nat) (as:gJ)
 |par (i j:Nat) (es:gu)
 |ret (a:ME)
 |retN
 |ifs (t:MT) (a b:bW)
 |fo (fg:List Nat) (tg:IT) (it:MI) (b:bW)
 |wh (fg:List Nat) (t:MT) (b:bW)
 |pas
 |brk
 |cnt
 |exp (a:ME)
 |pre (is:List Nat) (s:IS)
 |fap (i x:Nat) (v:Int)
 |stk
inductive bW where
 |nil
 |cons (s:IS) (r:bW)
end
mutual
noncomputable def eG(Γ:GG)(N:Nat):IS->List Nat->Ro->Option Res
 |.asg i a,pn,ρ=>pX pn i (a5 Γ a ρ)
 |.unp is a,pn,ρ=>vX pn is (a5 Γ a ρ)
 |.aug i op a,pn,ρ=>wb pn i op ρ[i]? (a5 Γ a ρ)
 |.put b k a,_,ρ=>tK b.slot (mU Γ.fn b) (ak Γ.fn k) (a5 Γ a ρ)
 |.putF c b f a,_,ρ=>NX
 |.putM i as,_,ρ=>lQ i ρ[i]? (aU Γ as ρ)
 |.par i j es,pn,ρ=>v8 pn i j (a7 Γ.fn es ρ) ρ
 |.ret a,_,ρ=>vZ (a5 Γ a ρ)
 |.retN,_,ρ=>NX
 |.ifs t a b,pn,ρ=>v6 (ce Γ t ρ) (aL Γ N a pn) (aL Γ N b pn)
 |.fo fg tg it b,pn,ρ=>oA pn fg tg (aL Γ N b) (d4 Γ it ρ)
 |.wh fg t b,pn,ρ=>iT fg (ce Γ t) (aL Γ N b pn) N ρ
 |.pas,_,ρ=>NW (.nx ρ)
 |.brk,_,ρ=>NX
 |.cnt,_,ρ=>NX
 |.exp a,_,ρ=>v5 (a5 Γ a ρ)
 |.pre is s,pn,ρ=>eG Γ N s pn (frzN is ρ)
 |.fap i x v,pn,ρ=>NX
 |.stk,_,_=>NX
noncomputable def aL(Γ:GG)(N:Nat):bW->List Nat->Ro->Option Res
 |.nil,_,ρ=>NW (.nx ρ)
 |.cons s r,pn,ρ=>je (eG Γ N s pn ρ) (aL Γ N r pn)
end
section
theorem y9{N:Nat}:eG Γ N (.asg i a) pn ρ=pX pn i (a5 Γ a ρ):=rfl
theorem za{N:Nat}:eG Γ N (.unp is a) pn ρ=vX pn is (a5 Γ a ρ):=rfl
theorem zb{N:Nat}:eG Γ N (.aug i op a) pn ρ=wb pn i op ρ[i]? (a5 Γ a ρ):=rfl
theorem zc{Γ:GG}{N:Nat}:eG Γ N (.put b k a) z0 ρ=tK b.slot (mU Γ.fn b) (ak Γ.fn k) (a5 Γ a ρ):=rfl
theorem wj{N:Nat}:eG Γ N (.putM i as) z0 ρ=lQ i ρ[i]? (aU Γ as ρ):=rfl
theorem zd{Γ:GG}{N:Nat}:eG Γ N (.par i j es) pn ρ=v8 pn i j (a7 Γ.fn es ρ) ρ:=rfl
theorem ze{N:Nat}:eG Γ N (.ret a) z0 ρ=vZ (a5 Γ a ρ):=rfl
theorem rL{N:Nat}:eG Γ N (.ifs t a b) pn ρ=v6 (ce Γ t ρ) (aL Γ N a pn) (aL Γ N b pn):=rfl
theorem p4{N:Nat}:eG Γ N (.fo fg tg it b) pn ρ=oA pn fg tg (aL Γ N b) (d4 Γ it ρ):=rfl
theorem C6{N:Nat}:eG Γ N (.wh fg t b) pn ρ=iT fg (ce Γ t) (aL Γ N b pn) N ρ:=rfl
theorem zf{N:Nat}:eG Γ N (.exp a) z0 ρ=v5 (a5 Γ a ρ):=rfl
theorem zg{N:Nat}:eG Γ N (.pre is s) pn ρ=eG Γ N s pn (frzN is ρ):=rfl
end
theorem wk{f:Ro->Option Res}(h:∀ρ,f ρ=NX):du X pn f e:=λρ r hh=>by rw[h] at hh;cases hh
structure An where
 fg:Nat->List Nat:=λ_=>[]
 pz:Nat->List Nat:=λ_=>[]
 fa:Nat->Bool:=λ_=>NZ
 sk:Nat->Bool:=λ_=>NZ
noncomputable def p5(f:N9->Option IS):List N9->Option bW
 |[]=>NW .nil
 |s::r=>match f s,p5 f r with|some a,NW b=>NW (.cons a b)|_,_=>NX
noncomputable def p6:N9->Nat
 |.Assign _ _ p=>p.line
 |.AugAssign _ _ _ p=>p.line
 |.Return _ p=>p.line
 |.Expr _ p=>p.line
 |.If _ _ _ p=>p.line
 |.For _ _ _ _ p=>p.line
 |.While _ _ _ p=>p.line
 |.Raise _ _ p=>p.line
 |.Try _ _ _ _ p=>p.line
 |.Delete _ p=>p.line
 |_=>0
noncomputable def rM:N0->Bool
 |.ListComp _ gs _ _=>(match gs with|[]=>NZ|g::gs=>(match gs with|[]=>g.is_async==0|_::_=>NZ))
 |_=>NZ
noncomputable def Ay(l:List Nat)(s:Option IS):Option IS:=match l,s with
 |[],s=>s
 |l,NW s=>NW (.pre l s)
 |_,NX=>NX
noncomputable def Az:N0->Bool
 |.Constant (.str _) _ _=>NY
 |_=>NZ
noncomputable def AA(f:Str):List (Str×List Str)->Option Str
 |[]=>NX
 |(c,fs)::r=>if f∈fs then NW c else AA f r
noncomputable def AB(fns:Nms)(f:Str):Option Str:=match AA f fns.cls with
 |some c=>(match fns.cls.lookup c with|some fs=>if f∈fs then NW c else NX|none=>NX)
 |none=>NX
noncomputable def zh(e:N0):Option (Str×Pos):=match e with|.Name x p=>NW (x,p)|_=>NX
theorem rN{p:Str×Pos}(h:zh e=NW p):e=.Name p.1 p.2:=by
 cases e with
 |Name x q=>cases h;rfl
 |_=>cases h
noncomputable def Ga(es:List N0):Option ((Str×Pos)×Str×Pos):=match es with
 |[]=>NX
 |a::es=>match es with
  |[]=>NX
  |b::es=>match es with
   |_::_=>NX
   |[]=>(zh a).bind λx=>(zh b).map λy=>(x,y)
theorem wl{p:(Str×Pos)×Str×Pos}(h:Ga es=NW p):es=[.Name p.1.1 p.1.2,.Name p.2.1 p.2.2]:=by
 cases es with
 |nil=>cases h
 |cons a es=>cases es with
  |nil=>cases h
  |cons b es=>cases es with
   |cons _ _=>cases h
   |nil=>
    obtain⟨x,e1,h⟩:=Mf.mp (show(zh a).bind _=NW p from h);obtain⟨y,e2,rfl⟩:=aZ h;rw[rN e1,rN e2]
noncomputable def Gb(e:N0):Option ((Str×Pos)×Str×Pos):=match e with|.Tuple vs _ _=>Ga vs|_=>NX
theorem zi{p:(Str×Pos)×Str×Pos}(h:Gb e=NW p):∃k q,e=.Tuple [.Name p.1.1 p.1.2,.Name p.2.1 p.2.2] k q:=by
 cases e with
 |Tuple vs k q=>exact⟨k,q,by rw[wl (show Ga vs=NW p from h)]⟩
 |_=>cases h
noncomputable def Gc(fns:Nms)(m:Nat)(c:Cz)(es:List N0)(e:N0):Option IS:=(Ga es).bind λt=>(Gb e).bind λv=>
 if ow c t.1.1 t.2.1 v.1.1 t.1.2 t.2.2 then(bt t.1.1 c.N).bind λi=>(bt t.2.1 c.N).bind λj=>(dS (cE fns (m+1) c) [.Name v.1.1 v.1.2,.Name v.2.1 v.2.2]).map λes=>.par i j es else NX
theorem zj{m:Nat}{c:Cz}(h:Gc fns m c es e=NW a):∃x y z w px py pz pw k p i j ies,es=[.Name x px,.Name y py]/\e=.Tuple [.Name z pz,.Name w pw] k p/\ow c x y z px py=NY/\bt x c.N=NW i/\bt y c.N=NW j/\dS (cE fns (m+1) c) [.Name z pz,.Name w pw]=NW ies/\a=.par i j ies:=by
 obtain⟨t,e1,h⟩:=Mf.mp (show(Ga es).bind _=NW a from h);obtain⟨v,e2,h⟩:=Mf.mp h;obtain⟨k,q,e3⟩:=zi e2;by_cases hp:ow c t.1.1 t.2.1 v.1.1 t.1.2 t.2.2=NY
 ·rw[if_pos hp] at h;obtain⟨i,h1,h⟩:=Mf.mp h;obtain⟨j,h2,h⟩:=Mf.mp h;obtain⟨ies,h3,e4⟩:=aZ h;exact⟨_,_,_,_,_,_,_,_,k,q,i,j,ies,wl e1,e3,hp,h1,h2,h3,e4⟩
 ·rw[if_neg hp] at h;cases h
noncomputable def AC(fns:Nms)(m:Nat)(c:Cz)(b k e:N0):Option IS:=match b with
 |.Name z _=>(match cX c z,lK (cM fns (m+1) c) (cE fns (m+1) c) [e,k] with|some i,NW as=>NW (.putM i as)|_,_=>NX)
 |_=>NX
noncomputable def DT(fns:Nms)(m:Nat)(c:Cz)(ts:List N0)(e:N0):Option IS:=match ts with
 |[]=>NX
 |t::ts=>match ts with
  |_::_=>NX
  |[]=>match t with
   |.Name x _=>if gY c x&&(d5 e||rM e) then(match bt x c.N,cM fns (m+1) c e with|some i,NW a=>NW (.asg i a)|_,_=>NX) else NX
   |.Tuple es _ _=>if vW e then(match vY c es,cM fns (m+1) c e with|some is,NW a=>NW (.unp is a)|_,_=>NX) else Gc fns m c es e
   |.Subscript b k _=>if cR k&&d5 e then(match DS c (cE fns (m+1) c) 6 b,cE fns (m+1) c k,cM fns (m+1) c e with|some b,NW k,NW a=>NW (.put b k a)|_,_,_=>AC fns m c b k e) else NX
   |.Attribute b z _=>if d5 e then(match AB fns z,DS c (cE fns (m+1) c) 6 b,cM fns (m+1) c e with|some cl,NW b,NW a=>NW (.putF cl b z a)|_,_,_=>NX) else NX
   |_=>NX
noncomputable def IW(fns:Nms)(m:Nat)(c:Cz)(t:N0)(op:Oe)(e:N0):Option IS:=match t with
 |.Name x _=>if gY c x then(match bt x c.N,cM fns (m+1) c e with|some i,NW a=>NW (.aug i op a)|_,_=>NX) else NX
 |_=>NX
noncomputable def Ge(c:Cz)(tg iter:N0)(body:List N9):Option IS:=NX
noncomputable def Kq(fns:Nms)(an:An)(m:Nat)(c:Cz)(rec:List N9->Option bW)(tg iter:N0)(body els:List N9)(p:Pos):Option IS:=match els with
 |_::_=>NX
 |[]=>if an.fa p.line then Ge c tg iter body else if dH iter then(match oX c 4 tg,vU c (cM fns (m+1) c) (Ck c (cE fns (m+1) c) tg iter) tg iter,rec body with|some t,NW it,NW b=>NW (.fo (an.fg p.line) t it b)|_,_,_=>NX) else NX
noncomputable def DU(fns:Nms)(an:An)(m:Nat)(c:Cz)(rec:List N9->Option bW):N9->Option IS
 |.Assign ts e _=>DT fns m c ts e
 |.AugAssign t op e _=>IW fns m c t op e
 |.Return e _=>(match e with|some e=>(cM fns (m+1) c e).map .ret|none=>NW .retN)
 |.Expr e _=>if Az e then NW .pas else if d5 e then(cM fns (m+1) c e).map .exp else NX
 |.If t a b _=>(match ub fns (m+1) c t,rec a,rec b with|some t,NW a,NW b=>NW (.ifs t a b)|_,_,_=>NX)
 |.For tg iter body els p=>Kq fns an m c rec tg iter body els p
 |.While t body els p=>(match els with|_::_=>NX|[]=>(match ub fns (m+1) c t,rec body with|some t,NW b=>NW (.wh (an.fg p.line) t b)|_,_=>NX))
 |.Pass _=>NW .pas
 |.Break _=>NW .brk
 |.Continue _=>NW .cnt
 |_=>NX
noncomputable def cS(fns:Nms)(an:An)(m:Nat)(c:Cz):Nat->N9->Option IS
 |0,_=>NX
 |n+1,s=>if an.sk (p6 s)=NY then NW .stk else Ay (an.pz (p6 s)) (DU fns an m c (p5 (cS fns an m c n)) s)
noncomputable abbrev cB(fns:Nms)(an:An)(m:Nat)(c:Cz)(n:Nat):List N9->Option bW:=p5 (cS fns an m c n)
section
variable {X:Cx} {c:Cz} (fns:Nms) (Γ:GG)
theorem tL{x:Str}{n:Nat}:∃b:Bool,swapsWith (.ListComp elt [⟨tg,iter,ifs,0⟩] scope cp) (NW (.Name x p)) n env=pure b:=⟨_,rfl⟩
theorem C7(O:aC X (cm fns Γ) c){m i:Nat}{x:Str}{e:N0}{a:ME}{p pos:Pos}(hl:gY c x=NY)(hi:bt x c.N=NW i)(hc:rM e=NY)(ha:cM fns (m+1) c e=NW a):du X pn (λρ=>pX pn i (a5 Γ a ρ)) (.Assign [.Name x p] e pos):=by
 have hs:∃elt tg iter ifs scope cp,e=.ListComp elt [⟨tg,iter,ifs,0⟩] scope cp:=by
  cases e with
  |ListComp elt gs scope cp=>cases gs with
   |nil=>cases hc
   |cons g gs=>cases gs with
    |cons _ _=>cases hc
    |nil=>
     cases g with
     |mk tg iter ifs as=>
      have h0:as=0:=eq_of_beq (show(as==0)=NY from hc);subst h0;exact⟨_,_,_,_,_,_,rfl⟩
  |_=>cases hc
 obtain⟨elt,tg,iter,ifs,scope,cp,rfl⟩:=hs;have l:=dY O hl;have hf:=(f7 fns Γ (m+1)).1 X c O _ _ ha;intro ρ r h g σ H Dn se q
 cases hf':a5 Γ a ρ with
 |none=>dsimp only at h;rw[hf'] at h;cases h
 |some w=>
  obtain⟨kd,d,ρ1⟩:=w;dsimp only at h;rw[hf'] at h;obtain⟨b,hb⟩:=tL (elt:=elt) (tg:=tg) (iter:=iter) (ifs:=ifs) (scope:=scope) (cp:=cp) (p:=p) (x:=x) (n:=pos.line) (env:=X.env)
  cases b with
  |false=>exact cg (o6 (i:=i) (by rw[O.N];exact O.nd) (by rw[O.N];exact aY hi) l.1 aB hb l.2) (hf ρ kd d ρ1 hf' g σ H _ se λv g1 H1 F ev se1 vr=>kr h q ev se1 vr)
  |true=>
   have fin:∀{hck:bO c scope=NY} {hns:dH iter=NY},iE (wI X tg iter) (λv σ H Q=>∀C s H0 ex,wG (aX X (aA scope) scope C s H0 ex) tg v σ H Q) (λσ H Q=>∀C s H0 ex,DO (aX X (aA scope) scope C s H0 ex) ifs σ H Q) (λσ H Q=>∀C s H0 ex,wE (aX X (aA scope) scope C s H0 ex) elt σ H Q) (aO c scope) σ H (λv H1=>jF i v σ H1 Dn.nx)->CW X (.Assign [.Name x p] (.ListComp elt [⟨tg,iter,ifs,0⟩] scope cp) pos) Dn σ H:=λ{hck hns} ht=>
    cg (uX (N':=aA scope) (cap:=aO c scope) O.calm (gr O hck) xW
     (λC s H0 ex pins s' σ' H' v u Q' I r hh=>xX pins s' σ' H' v u Q' I r (hh C s H0 ex)) (λC s H0 ex pins s' σ' H' Q' I hh=>hh C s H0 ex pins s' I) (λC s H0 ex pins s' σ' H' Q' I hh=>hh C s H0 ex pins s' I) (eB hns)
     (by rw[O.N];exact O.nd) (by rw[O.N];exact aY hi) l.1 l.2 hb) ht
   have post:∀v g' H' F,Evo g H g' H' F->SE X.K (g'.plus F) ρ1 σ H'->VR1 X.K H' g' F kd d v F->jF i v σ H' Dn.nx:=λv g1 H1 F ev se1 vr=>kr h q ev se1 vr
   cases hce:cE fns m c (.ListComp elt [⟨tg,iter,ifs,0⟩] scope cp) with
   |some ie=>
    have ha2:NW (ME.p ie)=NW a:=by rw[<- ha];show _=(match cE fns m c _ with|some ie=>NW (ME.p ie)|none=>_);rw[hce]
    cases ha2
    cases m with
    |zero=>cases(show(NX:Option IE)=NW _ from hce)
    |succ m=>
     have hie:Fs fns c (cE fns m) (cT fns m) elt [⟨tg,iter,ifs,0⟩] scope cp=NW ie:=hce;unfold Fs at hie;dsimp only at hie;rw[if_pos rfl] at hie;split at hie
     ·rename_i hn;rw[Lj] at hn;split at hie
      ·rename_i t it ts el ht hit hts hel;cases hie;have pure:=dJ (fm:=ko fns Γ) fns Γ.fn m;have CO:=fG O hn.2
       have hv:ak Γ.fn (.comp ((fns.an cp.line cp.col).getD Ow.fz) (aO c scope) t it ts el) ρ=NW (kd,d)/\ρ1=ρ:=by
        rw[vS] at hf';unfold Ha at hf';split at hf'
        ·rename_i e';cases hf';exact⟨e',rfl⟩
        ·cases hf'
       obtain⟨hv,rfl⟩:=hv;rw[n5] at hv
       exact fin (hck:=hn.2) (hns:=hn.1) (vp O hn.2 (vK fns Γ.fn O (pure.1 X c O) hit) ht (λC s H ex=>rh Γ.fn (pure.2 _ _ (CO C s H ex)) hts) (λC s H ex=>pure.1 _ _ (CO C s H ex) _ _ hel) hv se λv H' s ⟨F,h1,h2⟩=>
        post v g H' F (eD s h1 λb z=>fJ se.mu (h1 b z)) (se.plus s h1 h2.dom) h2)
      ·cases hie
     ·cases hie
   |none=>
    have ha2:tG fns c (cM fns m) (cE fns m) (ub fns m) elt [⟨tg,iter,ifs,0⟩] scope cp=NW a:=by
     replace ha:(match cE fns m c (.ListComp elt [⟨tg,iter,ifs,0⟩] scope cp) with|some ie=>NW (ME.p ie)|none=>tG fns c (cM fns m) (cE fns m) (ub fns m) elt [⟨tg,iter,ifs,0⟩] scope cp)=NW a:=ha
     rw[hce] at ha;exact ha
    obtain⟨tg',iter',ifs',t,it,ts,el,hq,hn1,hn2,ht,hit,hts,hel,rfl⟩:=rB fns ha2;cases hq;have pure:=dJ (fm:=ko fns Γ) fns Γ.fn m;have CO:=fG O hn2;rw[oj] at hf'
    first|(cases hf';done)|exact fin (hck:=hn2) (hns:=hn1) (rs O hn2 (pW fns Γ O ((f7 fns Γ m).1 X c O) (pure.1 X c O) hit) ht (λC s H ex=>oo Γ ((f7 fns Γ m).2 _ _ (CO C s H ex)) hts) (λC s H ex=>(f7 fns Γ m).1 _ _ (CO C s H ex) _ _ hel) hf' se post)
theorem kA{f:N9->Option IS}{N:Nat}(hf:∀s a,f s=NW a->∀pn,du X pn (eG Γ N a pn) s):∀{st:List N9} {b:bW},p5 f st=NW b->∀pn,dO X pn (aL Γ N b pn) st
 |[],b,h,pn=>by
  cases h;rw[show aL Γ N .nil pn=λρ=>NW (.nx ρ) by funext ρ;rw[aL]];exact FR
 |s::st,b,h,pn=>by
  unfold p5 at h;split at h
  ·rename_i a r ha hr;cases h
   rw[show aL Γ N (.cons a r) pn=λρ=>je (eG Γ N a pn ρ) (aL Γ N r pn) by funext ρ;conv=>lhs;rw[aL]]
   exact CZ (hf s a ha pn) (kA hf hr pn)
  ·cases h
theorem IX(O:aC X (cm fns Γ) c){m N:Nat}{ts:List N0}{e:N0}{pos:Pos}{a:IS}(h:DT fns m c ts e=NW a)(pn:List Nat):du X pn (eG Γ N a pn) (.Assign ts e pos):=by
 have hM:=(f7 fns Γ (m+1)).1 X c O;have hE:=(dJ (fm:=ko fns Γ) fns Γ.fn (m+1)).1 X c O
 cases ts with
 |nil=>cases h
 |cons t ts=>cases ts with
  |cons _ _=>cases h
  |nil=>cases t with
   |Name x p=>
    dsimp only[DT] at h;split at h
    ·rename_i hl;rw[Lj,Mu] at hl;split at h
     ·rename_i i a' hi ha;cases h;rw[show eG Γ N (.asg i a') pn=λρ=>pX pn i (a5 Γ a' ρ) from funext λ_=>rfl];rcases hl.2 with hc|hc
      ·exact FK O hl.1 hi hc (hM _ _ ha)
      ·exact C7 fns Γ O hl.1 hi hc ha
     ·cases h
    ·cases h
   |Tuple es k p=>
    dsimp only[DT] at h;split at h
    ·rename_i hn;split at h
     ·rename_i is a' his ha;cases h
      (rw[show eG Γ N (.unp is a') pn=λρ=>vX pn is (a5 Γ a' ρ) from funext λ_=>rfl];exact FL O (hM _ _ ha) his hn)
     ·cases h
    ·obtain⟨x,y,z,w,px,py,pz,pw,k2,p2,i,j,ies,rfl,rfl,hp,h1,h2,h3,rfl⟩:=zj h
     (rw[show eG Γ N (.par i j ies) pn=λρ=>v8 pn i j (a7 Γ.fn ies ρ) ρ from funext λ_=>rfl];exact FS O (fI Γ.fn hE h3).1 h1 h2 hp)
   |Subscript b k p=>
    dsimp only[DT] at h;split at h
    ·rename_i hn;rw[Lj] at hn;split at h
     ·rename_i b' k' a' hb hk ha;cases h
      (rw[show eG Γ N (.put b' k' a') pn=λρ=>tK b'.slot (mU Γ.fn b') (ak Γ.fn k') (a5 Γ a' ρ) from funext λ_=>rfl];exact FZ O (hM _ _ ha) (CT Γ O hE _ hb) (hE _ _ hk) hn.1 hn.2)
     ·unfold AC at h;split at h
      ·split at h
       ·rename_i i as hi has;cases h
        (rw[show eG Γ N (.putM i as) pn=λρ=>lQ i ρ[i]? (aU Γ as ρ) from funext λ_=>rfl];exact C5 O (om Γ hM hE has) hi hn.1 hn.2)
       ·cases h
      ·cases h
    ·cases h
   |Attribute b z p=>
    dsimp only[DT] at h;split at h
    ·rename_i hn;split at h
     ·rename_i cl b' a' hcl hb ha;cases h
      have hok:∀C,MP X.K Oh cl=NW (NW (.ref C))->Cls X.K C/\me X.K C z:=λC hC=>by
       unfold AB at hcl;split at hcl
       ·split at hcl
        ·rename_i fs hfs;split at hcl
         ·rename_i hz;cases hcl;obtain⟨h1,h2⟩:=O.tab.cf cl fs C hfs hC;exact⟨h1,h2 z hz⟩
         ·cases hcl
        ·cases hcl
       ·cases hcl
      exact wk λ_=>rfl
     ·cases h
    ·cases h
   |_=>cases h
theorem IY(O:aC X (cm fns Γ) c){m N:Nat}{t:N0}{op:Oe}{e:N0}{pos:Pos}{a:IS}(h:IW fns m c t op e=NW a)(pn:List Nat):du X pn (eG Γ N a pn) (.AugAssign t op e pos):=by
 have hM:=(f7 fns Γ (m+1)).1 X c O
 cases t with
 |Name x p=>
  dsimp only[IW] at h;split at h
  ·rename_i hl;split at h
   ·rename_i i a' hi ha;cases h
    (rw[show ∀op,eG Γ N (.aug i op a') pn=λρ=>wb pn i op ρ[i]? (a5 Γ a' ρ) by intro op;exact funext λ_=>rfl];exact FV O hl hi (hM _ _ ha))
   ·cases h
  ·cases h
 |_=>cases h
theorem C8(O:aC X Γt c)(hp:PassesOwn (N6 X.prog X.w) X.A X.env X.xe){N:Nat}{tg iter:N0}{body:List N9}{pos:Pos}{a:IS}(h:Ge c tg iter body=NW a)(pn:List Nat):du X pn (eG Γ N a pn) (.For tg iter body [] pos):=by cases h
theorem rO(O:aC X (cm fns Γ) c)(hp:PassesOwn (N6 X.prog X.w) X.A X.env X.xe){an:An}{m N:Nat}:∀(n:Nat) {s:N9} {a:IS},cS fns an m c n s=NW a->∀pn,du X pn (eG Γ N a pn) s
 |0,s,a,h,pn=>by cases h
 |n+1,s,a,h,pn=>by
  have hM:=(f7 fns Γ (m+1)).1 X c O;have hT:=(f7 fns Γ (m+1)).2 X c O;have hE:=(dJ (fm:=ko fns Γ) fns Γ.fn (m+1)).1 X c O;have hB:∀{st:List N9} {b:bW},p5 (cS fns an m c n) st=NW b->∀pn,dO X pn (aL Γ N b pn) st:=λh=>kA Γ (λs a h=>rO O hp n h) h
  have main:∀{a:IS},DU fns an m c (p5 (cS fns an m c n)) s=NW a->du X pn (eG Γ N a pn) s:=λ{a} h=>by
   cases s with
   |Assign ts e pos=>exact IX fns Γ O h pn
   |AugAssign t op e pos=>exact IY fns Γ O h pn
   |Return e pos=>cases e with
    |some e=>
     obtain⟨a',ha,rfl⟩:=aZ (show(cM fns (m+1) c e).map .ret=NW a from h)
     (rw[show eG Γ N (.ret a') pn=λρ=>vZ (a5 Γ a' ρ) from funext λ_=>rfl];exact FM (hM _ _ ha))
    |none=>
     cases h;exact wk λ_=>rfl
   |Expr e pos=>
    dsimp only[DU] at h;split at h
    ·rename_i hd;cases h;rw[show eG Γ N .pas pn=λρ=>NW (.nx ρ) from funext λ_=>rfl];unfold Az at hd;split at hd
     ·exact FO
     ·cases hd
    ·split at h
     ·rename_i hn;obtain⟨a',ha,rfl⟩:=aZ h
      (rw[show eG Γ N (.exp a') pn=λρ=>v5 (a5 Γ a' ρ) from funext λ_=>rfl];exact FN hn (hM _ _ ha))
     ·cases h
   |If t x y pos=>
    dsimp only[DU] at h;split at h
    ·rename_i t' a' b' ht ha hb;cases h
     (rw[show eG Γ N (.ifs t' a' b') pn=λρ=>v6 (ce Γ t' ρ) (aL Γ N a' pn) (aL Γ N b' pn) by exact funext λ_=>rfl];exact FQ (hT _ _ ht) (hB ha pn) (hB hb pn))
    ·cases h
   |For tg iter body els pos=>cases els with
    |cons _ _=>cases h
    |nil=>
     dsimp only[DU,Kq] at h;split at h
     ·exact C8 Γ O hp h pn
     ·split at h
      ·rename_i hn;split at h
       ·rename_i t' it' b' ht hit hb;cases h
        (rw[show ∀fg,eG Γ N (.fo fg t' it' b') pn=λρ=>oA pn fg t' (aL Γ N b') (d4 Γ it' ρ) by intro fg;exact funext λ_=>rfl];exact C3 O hp ht (pW fns Γ O hM hE hit) (hB hb) hn)
       ·cases h
      ·cases h
   |While t body els pos=>cases els with
    |cons _ _=>cases h
    |nil=>
     dsimp only[DU] at h;split at h
     ·rename_i t' b' ht hb;cases h
      (rw[show ∀fg,eG Γ N (.wh fg t' b') pn=iT fg (ce Γ t') (aL Γ N b' pn) N by intro fg;exact funext λ_=>rfl];exact FT hp (hT _ _ ht) (hB hb pn) N)
     ·cases h
   |Pass pos=>
    cases h
    (rw[show eG Γ N .pas pn=λρ=>NW (.nx ρ) from funext λ_=>rfl];exact C0)
   |Break pos=>
    cases h;exact wk λ_=>rfl
   |Continue pos=>
    cases h;exact wk λ_=>rfl
   |_=>cases h
  unfold cS at h;by_cases hk:an.sk (p6 s)=NY
  ·rw[if_pos hk] at h;cases h;exact wk λρ=>rfl
  rw[if_neg hk] at h;unfold Ay at h;split at h
  ·exact main h
  ·rename_i a' ha _;cases h
   (rw[show ∀l,eG Γ N (.pre l a') pn=λρ=>eG Γ N a' pn (frzN l ρ) by intro l;exact funext λ_=>rfl];exact FU _ (main ha))
  ·cases h
end
end J
namespace J
open PySem PySem.Spec L2
noncomputable def Le{α:Type}(a b:Option α):Prop:=∀r,a=NW r->b=NW r
theorem Le.refl{α:Type}(a:Option α):Le a a:=λ_ h=>h
structure TabF(P:Program)(w:World)(K:Lh)(mg:Str->Option Value)(base:Heap)(Γ:fV)(k:Nat):Prop where
 fn:∀x φ,Γ.fn x=NW φ->(∃f fd ps,FnOk P w K mg base oW k f fd ps (ua K φ)/\mg x=NW (.ref f)/\L8 K (.ref f)=NY/\Binds K fd ps []/\(x==("__debug__":Str))=NZ)\/
  False
 cf:∀c fs C,Γ.cf c=NW fs->MP K Oh c=NW (NW (.ref C))->Cls K C/\∀a∈fs,me K C a
 fm:∀x sp,Γ.fm x=NW sp->∃f fd ps,FnOk P w K mg base oW k f fd ps (sp K)/\mg x=NW (.ref f)/\L8 K (.ref f)=NY/\Binds K fd ps []/\(x==("__debug__":Str))=NZ
 bl:∀x∈aS,mg x=NX
 cst:∀x d,Γ.cst x=NW d->∃u v,mg x=NW u/\RelV v u/\(∀H S,Rp K H S d v)/\(x==("__debug__":Str))=NZ
noncomputable def m3(k:Nat)(ks:List jv):Ro:=ks.map DP++List.replicate (k-ks.length) NX
noncomputable def Gf(d:D):jv:=(.fz,d)
noncomputable def gC(r:Option Res):Option KD:=match r with
 |some (.rt kd d _)=>if bZ kd=NY then NX else NW (kd,d)
 |some (.nx _)=>NW (.sh,.non)
 |_=>NX
noncomputable def bY(Γ:GG)(N m k:Nat)(body:bW)(ds:List D):Option KD:=if ds.length=m then gC (aL Γ N body [] (m3 k (ds.map Gf))) else NX
noncomputable def outs(m:Nat)(pn:List Nat)(ρ:Ro):List (Option jv):=(Ln m).map λj=>if j∈pn then(match ρ[j]? with|some (NW ⟨NZ,k,d⟩)=>NW (k,d)|_=>NX) else NX
noncomputable def kB(m:Nat)(pn:List Nat)(r:Option Res):Option (Kd×D×List (Option jv)):=match r with
 |some (.rt kd d ρ)=>if bZ kd=NY then NX else NW (kd,d,outs m pn ρ)
 |some (.nx ρ)=>NW (.sh,.non,outs m pn ρ)
 |_=>NX
noncomputable def jn(Γ:GG)(N m k:Nat)(pn:List Nat)(body:bW)(ks:List jv):Option (Kd×D×List (Option jv)):=if ks.length=m then kB m pn (aL Γ N body pn (m3 k ks)) else NX
noncomputable def bS(fns:Nms)(an:An)(n:Nat)(N:List Str)(st:N9):Option bW:=cB fns an n ⟨ah st,N,λ_=>NY⟩ n (bA st)
theorem lR{vs:List V}{i:Nat}(h:i<vs.length):(cr N vs)[i]?=(vs.map NW)[i]?:=by
 unfold L2.cr;rw[LP (by simpa using h)]
theorem p7{N:List Str}{ks:List jv}{vs:List V}(se:SE K g (ks.map DP) (vs.map NW) H)(hl:ks.length<=N.length):SE K g (m3 N.length ks) (cr N vs) H:=by
 have hv:ks.length=vs.length:=by simpa using se.len
 refine⟨λi sl e=>?_,se.mu,?_⟩
 ·unfold m3 at e;by_cases hi:i<ks.length
  ·rw[LP (by simpa using hi)] at e;obtain⟨v,F,q1,q2,q3⟩:=se.slot i sl e;exact⟨v,F,by rw[lR (by rw[<- hv];exact hi)];exact q1,q2,q3⟩
  ·rw[LS (by simpa using hi),Ng] at e
   split at e<;>cases e
 ·unfold m3 L2.cr;simp only[LZ,Li,Nt]
  lia
theorem AD{ds:List D}{vs:List V}(r:RpL K H (Sg g) ds vs)(m:MuOk H (Sg g)):SE K g ((ds.map Gf).map DP) (vs.map NW) H:=by
 refine⟨λi sl e=>?_,m,by simp[r.len]⟩;rw[Ll,Ll] at e
 cases q:ds[i]? with
 |none=>rw[q] at e;cases e
 |some d=>
  rw[q] at e;cases e;obtain⟨v,e1,e2⟩:=r.getD q;exact⟨v,f6,by rw[Ll,e1];rfl,λ_ z=>z.elim,.fz e2⟩
theorem rP{g:Gh}{i:Nat}:g.re (λ_=>NX) b≠NW (NW i):=λe=>by
 unfold Gh.re at e
 cases q:g b with
 |none=>rw[q] at e;cases e
 |some x=>cases x<;>(rw[q] at e;cases e)
theorem zk{g:Gh}(h:g b≠NX):g.re (λ_=>NX) b=NW NX:=by
 unfold Gh.re
 cases q:g b with
 |none=>exact absurd q h
 |some x=>cases x<;>rfl
theorem fL{K:Lh}{g g':Gh}{H H':Hp}{F:Pr}(ev:Evo (g.re λ_=>NX) H g' H' F):Same H H'/\(∀b,F b->H b=NX)/\∀b,Sg g b->Sg g' b:=
 ⟨λb o e=>ev.keep b o (λi q=>rP q) e,λb z=>(ev.tmp b z).2.elim (λ⟨j,q⟩=>absurd q rP) id,λb z=>by rw[Sg,(ev.out b).mp (zk z)];simp⟩
section
variable {P:N8} {w:Oa} {K:Lh} {mg:Str->Option N1} {base:Oc} {fns:Nms} {Γ:GG} {x qual:Str} {st:N9} {f:N2} {fd:On} {N ps:List Str} {k n M:Nat} {an:An} {body:bW}
theorem rQ(F:Fun K x qual st f fd)(S:aw N ps (ah st))(T:TabF P w K mg base (cm fns Γ) k)(hc:bS fns an n N st=NW body) :
  FnOk P w K mg base oW (k+1) f fd ps (ua K (bY Γ M ps.length N.length body)):=by
 have hN:ps.length<=N.length:=by
  have:=congrArg Nn S.pre;rw[LU] at this
  lia
 refine F.ok S (λvs H Q E h=>?_) (λcdv A outer s H vs Q E hr h=>?_)
 ·obtain⟨ds,g,k',d,r,dm,hφ,q⟩:=h;unfold bY at hφ;split at hφ
  ·rename_i hl;rw[r.len,hl]
  ·cases hφ
 ·obtain⟨ds,g,k',d,r,dm,hφ,q⟩:=h;unfold bY at hφ;split at hφ
  ·rename_i hl
   have O:aC (mi oW P w K mg base N qual (ah st) f cdv A outer s H E).nox (cm fns Γ) ⟨ah st,N,λ_=>NY⟩:=
    ⟨rfl,rfl,λ_ _=>rfl,rfl,S.nd,⟨λy φ hy=>by
     rcases T.fn y φ hy with⟨g,gd,qs,h1,h2,h3,h4,h5⟩|z
     ·exact .inl ⟨k,g,gd,qs,h1,hr,h2,h3,h4,h5⟩
     ·exact z.elim,T.cf,λy φ hy=>by
     obtain⟨g,gd,qs,h1,h2,h3,h4,h5⟩:=T.fm y φ hy;exact⟨k,g,gd,qs,h1,hr,h2,h3,h4,h5⟩,T.bl,(by have h:=hr.un;exact Mc (LM (MZ (by decide:100<=200) _) (MU (Mh _ _) 200)) h),hr.gd,T.cst⟩⟩
   have m0:MuOk H (Sg (g.re λ_=>NX)):=λb z=>dm b ((k7 b).mp z);have r0:RpL K H (Sg (g.re λ_=>NX)) ds vs:=r.weak λb z=>(k7 b).mp z;have se:=p7 (N:=N) (AD r0 m0) (by simpa[hl] using hN);have sb:dO _ [] (aL Γ M body []) (bA st):=kA Γ (λs is h=>rO fns Γ O PassesOwn.never n h) hc [];refine⟨_,dU,?_⟩;unfold gC at hφ;split at hφ
   ·rename_i k2 d2 ρ2 hex;split at hφ
    ·cases hφ
    ·rename_i hb;cases hφ;refine sb _ _ hex _ (cr N vs) H _ se λv σ' g' H' F ev se' pk vr=>?_;obtain⟨p1,p2,p3⟩:=fL (K:=K) ev;exact q v H' p1 ⟨F,p2,vr.unlend (by simpa using hb) p3⟩
   ·rename_i ρ' hex;cases hφ;refine sb _ _ hex _ (cr N vs) H _ se λσ' g' H' ev se' pk=>?_;obtain⟨p1,p2,p3⟩:=fL (K:=K) ev;exact q .non H' p1 BG
   ·cases hφ
  ·cases hφ
theorem tM{m:Nat}{pn:List Nat}{ρ:Ro}{j:Nat}(h:((outs m pn ρ).map DQ)[j]?=NW (NW sl)):j<m/\j∈pn/\ρ[j]?=NW (NW sl):=by
 unfold outs at h;rw[Ll,Ll] at h;by_cases hj:j<m
 ·rw[LQ hj] at h;simp only[MQ,Option.some.injEq] at h;split at h
  ·rename_i hp;split at h
   ·rename_i k d e;cases h;exact⟨hj,hp,e⟩
   ·cases h
  ·cases h
 ·rw[LY (by simpa using hj)] at h;cases h
theorem wm{m:Nat}:(outs m pn ρ).length=m:=by simp[outs]
theorem zl(F:Fun K x qual st f fd)(S:aw N ps (ah st))(T:TabF P w K mg base (cm fns Γ) k)(hc:bS fns an n N st=NW body) :
  FnOk P w K mg base oW (k+1) f fd ps (As K (jn Γ M ps.length N.length pn body)):=by
 have hN:ps.length<=N.length:=by
  have:=congrArg Nn S.pre;rw[LU] at this
  lia
 refine F.ok S (λvs H Q E h=>?_) (λcdv A outer s H vs Q E hr h=>?_)
 ·obtain⟨ks,g,k',d,os,se,hφ,q⟩:=h;unfold jn at hφ;split at hφ
  ·rename_i hl;have:=se.len;simp only[Li] at this;rw[<- this,hl]
  ·cases hφ
 ·obtain⟨ks,g,k',d,os,se,hφ,q⟩:=h;unfold jn at hφ;split at hφ
  ·rename_i hl;have hv:ks.length=vs.length:=by simpa using se.len
   have O:aC (mi oW P w K mg base N qual (ah st) f cdv A outer s H E).nox (cm fns Γ) ⟨ah st,N,λ_=>NY⟩:=
    ⟨rfl,rfl,λ_ _=>rfl,rfl,S.nd,⟨λy φ hy=>by
     rcases T.fn y φ hy with⟨g,gd,qs,h1,h2,h3,h4,h5⟩|z
     ·exact .inl ⟨k,g,gd,qs,h1,hr,h2,h3,h4,h5⟩
     ·exact z.elim,T.cf,λy φ hy=>by
     obtain⟨g,gd,qs,h1,h2,h3,h4,h5⟩:=T.fm y φ hy;exact⟨k,g,gd,qs,h1,hr,h2,h3,h4,h5⟩,T.bl,(by have h:=hr.un;exact Mc (LM (MZ (by decide:100<=200) _) (MU (Mh _ _) 200)) h),hr.gd,T.cst⟩⟩
   have se0:=p7 (N:=N) se (by rw[hl];exact hN);have sb:dO _ pn (aL Γ M body pn) (bA st):=kA Γ (λs is h=>rO fns Γ O PassesOwn.never n h) hc pn
   have fin:∀{g':Gh} {H':Hp} {F:Pr} {σ':L2.St} {ρ':Ro},SE K (g'.plus F) ρ' σ' H'->PinOk pn (cr N vs) σ'->SE K (g'.plus F) ((outs ps.length pn ρ').map DQ) (vs.map NW) H':=λ{g' H' F σ' ρ'} s1 pk=>by
    refine⟨λj sl e=>?_,s1.mu,by simp[wm,<- hv,hl]⟩;obtain⟨h1,h2,h3⟩:=tM e;obtain⟨v,Fj,q1,q2,q3⟩:=s1.slot j sl h3;exact⟨v,Fj,by rw[<- q1,pk j h2,lR (by rw[<- hv,hl];exact h1)],q2,q3⟩
   refine⟨_,dU,?_⟩;unfold kB at hφ;split at hφ
   ·rename_i k2 d2 ρ2 hex;split at hφ
    ·cases hφ
    ·rename_i hb;cases hφ;exact sb _ _ hex _ (cr N vs) H _ se0 λv σ' g' H' F ev se' pk vr=>q v g' H' F ev (fin se' pk) vr
   ·rename_i ρ' hex;cases hφ;refine sb _ _ hex _ (cr N vs) H _ se0 λσ' g' H' ev se' pk=>q .non g' H' f6 ev (fin (by rw[bq λ_ z=>z];exact se') pk) ⟨λ_ z=>z,by unfold Rp;rfl⟩
   ·cases hφ
  ·cases hφ
end
noncomputable def eX{α:Type}(Γ:Nat->Option α)(i:Nat)(φ:α):Nat->Option α:=λj=>if j=i then NW φ else Γ j
noncomputable abbrev GG.addI(Γ:GG)(i:Nat)(φ:Fn):GG:=⟨eX Γ.fn i φ,Γ.fm⟩
noncomputable abbrev GG.addM(Γ:GG)(i:Nat)(φ:Fm):GG:=⟨Γ.fn,eX Γ.fm i φ⟩
theorem p8{φ ψ:Fn}(h:∀ds,Le (ψ ds) (φ ds)){vs:List V}{H:Hp}{Q:VK}{E:XK}(s:ua K ψ vs H Q E):ua K φ vs H Q E:=by
 obtain⟨ds,S,k,d,h1,h2,h3,h4⟩:=s;exact⟨ds,S,k,d,h1,h2,h ds _ h3,h4⟩
theorem C9{φ ψ:Fm}(h:∀ds,Le (ψ ds) (φ ds)){vs:List V}{H:Hp}{Q:VK}{E:XK}(s:As K ψ vs H Q E):As K φ vs H Q E:=by
 obtain⟨ks,g,kd,d,os,h1,h2,h3⟩:=s;exact⟨ks,g,kd,d,os,h1,h ks _ h2,h3⟩
section
variable {P:N8} {w:Oa} {K:Lh} {mg:Str->Option N1} {base:Oc} {fns:Nms} {Γ:GG} {x qual:Str} {st:N9} {f:N2} {fd:On} {N ps:List Str} {k n M i:Nat} {an:An} {body:bW}
theorem TabF.up(T:TabF P w K mg base (cm fns Γ) k):TabF P w K mg base (cm fns Γ) (k+1):=
  ⟨λy φ hy=>by
    rcases T.fn y φ hy with⟨g,gd,qs,h1,h2,h3,h4,h5⟩|z
    · exact .inl ⟨g,gd,qs,h1.mono (Mz k),h2,h3,h4,h5⟩
    · exact z.elim,T.cf,
   λy φ hy=>by obtain⟨g,gd,qs,h1,h2,h3,h4,h5⟩:=T.fm y φ hy;exact⟨g,gd,qs,h1.mono (Mz k),h2,h3,h4,h5⟩,T.bl,T.cst⟩
theorem TabF.addI{ψ:Fn}(T:TabF P w K mg base (cm fns Γ) k)(F:Fun K x qual st f fd)(S:aw N ps (ah st))(hm:mg x=NW (.ref f))(hb:Binds K fd ps [])(hd:(x==("__debug__":Str))=NZ)
  (hi:fns.fns[i]?=NW x) (hc:bS fns an n N st=NW body) (hψ:∀ds,Le (ψ ds) (bY Γ M ps.length N.length body ds)):TabF P w K mg base (cm fns (Γ.addI i ψ)) (k+1):=by
 refine⟨λy φ hy=>?_,T.cf,T.up.fm,T.bl,T.cst⟩;have hy:(bt y fns.fns).bind (eX Γ.fn i ψ)=NW φ:=hy
 cases hj:bt y fns.fns with
 |none=>rw[hj] at hy;cases hy
 |some j=>
  rw[hj] at hy;have hy':eX Γ.fn i ψ j=NW φ:=hy;unfold eX at hy';split at hy'
  ·rename_i e;subst e;cases hy'
   have hyx:y=x:=by
    have:=aY hj;rw[hi] at this;exact(Option.some.inj this).symm
   subst hyx;exact .inl ⟨f,fd,ps,(rQ (n:=n) (an:=an) (M:=M) F S T hc).imp λvs H Q E s=>p8 hψ s,hm,F.kp,hb,hd⟩
  ·exact T.up.fn y φ (by show(bt y fns.fns).bind Γ.fn=_;rw[hj];exact hy')
theorem TabF.addM{ψ:Fm}(T:TabF P w K mg base (cm fns Γ) k)(F:Fun K x qual st f fd)(S:aw N ps (ah st))(hm:mg x=NW (.ref f))(hb:Binds K fd ps [])(hd:(x==("__debug__":Str))=NZ)(hi:fns.fns[i]?=NW x)(hc:bS fns an n N st=NW body)(hψ:∀ds,Le (ψ ds) (jn Γ M ps.length N.length pn body ds)):TabF P w K mg base (cm fns (Γ.addM i ψ)) (k+1):=by
 refine⟨T.up.fn,T.cf,λy sp hy=>?_,T.bl,T.cst⟩;have hy:(bt y fns.fns).bind (λj=>(eX Γ.fm i ψ j).map λφ=>λK=>As K φ)=NW sp:=hy
 cases hj:bt y fns.fns with
 |none=>rw[hj] at hy;cases hy
 |some j=>
  rw[hj] at hy;obtain⟨φ,hy',rfl⟩:=aZ (show(eX Γ.fm i ψ j).map _=NW sp from hy);unfold eX at hy';split at hy'
  ·rename_i e;subst e;cases hy'
   have hyx:y=x:=by
    have:=aY hj;rw[hi] at this;exact(Option.some.inj this).symm
   subst hyx;exact⟨f,fd,ps,(zl (n:=n) (an:=an) (M:=M) (pn:=pn) F S T hc).imp λvs H Q E s=>C9 hψ s,hm,F.kp,hb,hd⟩
  ·exact T.up.fm y _ (by show ko fns Γ y=_;unfold ko;rw[hj,L1,hy'];rfl)
end
theorem Da{ns:List Int}(hS:SqL K H a (ns.map V.int))(h:φ [.scr ns]=NW (.sh,.bl NY)):ua K φ [.ref a] H (λv _=>v=.bl NY) λ_ _ _=>False:=by
 refine⟨[.scr ns],λ_=>NX,.sh,.bl NY,.cons ?_ .nil,λb z=>absurd rfl z,h,λv H' _ r=>r.rd.bl⟩;unfold Rp;refine⟨a,rfl,?_⟩;rcases hS with h|h
 ·exact .inl ⟨λz=>z rfl,h⟩
 ·exact .inr h
theorem zm{P:List N1->Prop}(h:∀a,P [a]):∀us:List N1,us.length=1->P us
 |[a],_=>h a
theorem us2{P:List N1->Prop}(h:∀a b,P [a,b]):∀us:List N1,us.length=2->P us
 |[a,b],_=>h a b
theorem DV{P:List N1->Prop}(h:∀a b c,P [a,b,c]):∀us:List N1,us.length=3->P us
 |[a,b,c],_=>h a b c
end J
namespace J
open PySem PySem.Spec L2
theorem AE{fa fb:Ro->Option Res}{a b:List N9}(ha:dO X pn fa a)(hb:dO X pn fb b):dO X pn (λρ=>je (fa ρ) fb) (a++b):=by
 intro ρ r h g σ H Dn se q;dsimp only at h;refine rG ?_
 cases e:fa ρ with
 |none=>rw[e] at h;cases h
 |some ra=>
  rw[e] at h
  cases ra with
  |nx ρ1=>exact ha ρ _ e g σ H _ se λσ1 g1 H1 ev se1 pk=>hb ρ1 r h g1 σ1 H1 Dn se1 (q.from ev pk)
  |rt kd d ρ1=>cases h;exact ha ρ _ e g σ H _ se q
  |ct ρ1=>cases h;exact ha ρ _ e g σ H _ se q
  |bk ρ1=>cases h;exact ha ρ _ e g σ H _ se q
noncomputable def wn(f:Ro->Option Res)(m k:Nat)(ds:List D):Option KD:=if ds.length=m then gC (f (m3 k (ds.map Gf))) else NX
section
variable {P:N8} {w:Oa} {K:Lh} {mg:Str->Option N1} {base:Oc} {fns:Nms} {Γ:GG} {x qual:Str} {st:N9} {f:N2} {fd:On} {N ps:List Str} {k n M:Nat} {an:An} {body:bW}
theorem zn{fb:Ro->Option Res}(F:Fun K x qual st f fd)(S:aw N ps (ah st))(T:TabF P w K mg base (cm fns Γ) k)(hB:∀X:Cx,aC X (cm fns Γ) ⟨ah st,N,λ_=>NY⟩->PassesOwn (N6 X.prog X.w) X.A X.env X.xe->dO X [] fb (bA st)) :
  FnOk P w K mg base oW (k+1) f fd ps (ua K (wn fb ps.length N.length)):=by
 have hN:ps.length<=N.length:=by
  have:=congrArg Nn S.pre;rw[LU] at this
  lia
 refine F.ok S (λvs H Q E h=>?_) (λcdv A outer s H vs Q E hr h=>?_)
 ·obtain⟨ds,g,k',d,r,dm,hφ,q⟩:=h;unfold wn at hφ;split at hφ
  ·rename_i hl;rw[r.len,hl]
  ·cases hφ
 ·obtain⟨ds,g,k',d,r,dm,hφ,q⟩:=h;unfold wn at hφ;split at hφ
  ·rename_i hl
   have O:aC (mi oW P w K mg base N qual (ah st) f cdv A outer s H E).nox (cm fns Γ) ⟨ah st,N,λ_=>NY⟩:=
    ⟨rfl,rfl,λ_ _=>rfl,rfl,S.nd,⟨λy φ hy=>by
     rcases T.fn y φ hy with⟨g,gd,qs,h1,h2,h3,h4,h5⟩|z
     ·exact .inl ⟨k,g,gd,qs,h1,hr,h2,h3,h4,h5⟩
     ·exact z.elim,T.cf,λy φ hy=>by
     obtain⟨g,gd,qs,h1,h2,h3,h4,h5⟩:=T.fm y φ hy;exact⟨k,g,gd,qs,h1,hr,h2,h3,h4,h5⟩,T.bl,(by have h:=hr.un;exact Mc (LM (MZ (by decide:100<=200) _) (MU (Mh _ _) 200)) h),hr.gd,T.cst⟩⟩
   have m0:MuOk H (Sg (g.re λ_=>NX)):=λb z=>dm b ((k7 b).mp z);have r0:RpL K H (Sg (g.re λ_=>NX)) ds vs:=r.weak λb z=>(k7 b).mp z;have se:=p7 (N:=N) (AD r0 m0) (by simpa[hl] using hN);have sb:dO _ [] fb (bA st):=hB _ O PassesOwn.never;refine⟨_,dU,?_⟩;unfold gC at hφ;split at hφ
   ·rename_i k2 d2 ρ2 hex;split at hφ
    ·cases hφ
    ·rename_i hb;cases hφ;refine sb _ _ hex _ (cr N vs) H _ se λv σ' g' H' F ev se' pk vr=>?_;obtain⟨p1,p2,p3⟩:=fL (K:=K) ev;exact q v H' p1 ⟨F,p2,vr.unlend (by simpa using hb) p3⟩
   ·rename_i ρ' hex;cases hφ;refine sb _ _ hex _ (cr N vs) H _ se λσ' g' H' ev se' pk=>?_;obtain⟨p1,p2,p3⟩:=fL (K:=K) ev;exact q .non H' p1 BG
   ·cases hφ
  ·cases hφ
theorem TabF.addB{i:Nat}{ψ:Fn}(T:TabF P w K mg base (cm fns Γ) k)(F:Fun K x qual st f fd)(S:aw N ps (ah st))(hm:mg x=NW (.ref f))(hb:Binds K fd ps [])(hd:(x==("__debug__":Str))=NZ)(hi:fns.fns[i]?=NW x)(hB:∀X:Cx,aC X (cm fns Γ) ⟨ah st,N,λ_=>NY⟩->PassesOwn (N6 X.prog X.w) X.A X.env X.xe->dO X [] fb (bA st))(hψ:∀ds,Le (ψ ds) (wn fb ps.length N.length ds)):TabF P w K mg base (cm fns (Γ.addI i ψ)) (k+1):=by
 refine⟨λy φ hy=>?_,T.cf,T.up.fm,T.bl,T.cst⟩;have hy:(bt y fns.fns).bind (eX Γ.fn i ψ)=NW φ:=hy
 cases hj:bt y fns.fns with
 |none=>rw[hj] at hy;cases hy
 |some j=>
  rw[hj] at hy;have hy':eX Γ.fn i ψ j=NW φ:=hy;unfold eX at hy';split at hy'
  ·rename_i e;subst e;cases hy'
   have hyx:y=x:=by
    have:=aY hj;rw[hi] at this;exact(Option.some.inj this).symm
   subst hyx;exact .inl ⟨f,fd,ps,(zn F S T hB).imp λvs H Q E s=>p8 hψ s,hm,F.kp,hb,hd⟩
  ·exact T.up.fn y φ (by show(bt y fns.fns).bind Γ.fn=_;rw[hj];exact hy')
end
end J
namespace J
open PySem PySem.Spec L2
theorem p9{α:Type}(Γ:Nat->Option α)(i:Nat)(a b:α):eX (eX Γ i a) i b=eX Γ i b:=by
 funext j;unfold eX
 split<;>rfl
theorem qc(Γ:GG)(i:Nat)(a b:Fn):(Γ.addI i a).addI i b=Γ.addI i b:=by
 show(⟨eX (eX Γ.fn i a) i b,Γ.fm⟩:GG)=⟨eX Γ.fn i b,Γ.fm⟩;rw[p9]
noncomputable def recI(Γ:GG)(i N m k:Nat)(body:bW):Nat->Fn
 |0=>λ_=>NX
 |n+1=>bY (Γ.addI i (recI Γ i N m k body n)) N m k body
section
variable {P:N8} {w:Oa} {K:Lh} {mg:Str->Option N1} {base:Oc} {fns:Nms} {Γ:GG} {x qual:Str} {st:N9} {f:N2} {fd:On} {N ps:List Str} {k n M i:Nat} {an:An} {body:bW}
theorem TabF.recI(T:TabF P w K mg base (cm fns Γ) k)(F:Fun K x qual st f fd)(S:aw N ps (ah st))(hm:mg x=NW (.ref f))(hb:Binds K fd ps [])(hd:(x==("__debug__":Str))=NZ)
  (hi:fns.fns[i]?=NW x) (hc:bS fns an n N st=NW body):∀d:Nat,TabF P w K mg base (cm fns (Γ.addI i (J.recI Γ i M ps.length N.length body d))) (k+1+d)
 |0=>T.addI (M:=M) F S hm hb hd hi hc λ_ _ e=>nomatch e
 |d+1=>by
  have:=(TabF.recI T F S hm hb hd hi hc d).addI (M:=M) (ψ:=J.recI Γ i M ps.length N.length body (d+1)) F S hm hb hd hi hc λ_=>Le.refl _;rw[qc] at this;exact this
end
section
variable {P:N8} {w:Oa} {K:Lh} {mg:Str->Option N1} {base:Oc} {fns:Nms} {Γ:GG} {x y qual:Str} {st:N9} {f C:N2} {fd:On} {N ps:List Str} {k n M i:Nat} {an:An} {body:bW}
end
end J
namespace J
open PySem PySem.Spec L2
noncomputable def Wp{α:Type}(a:Option α)(Q:α->Prop):Prop:=∃r,a=NW r/\Q r
theorem Wp.mono{α:Type}{a:Option α}{Q R:α->Prop}(h:Wp a Q)(k:∀r,Q r->R r):Wp a R:=let ⟨r,e,q⟩:=h;⟨r,e,k r q⟩
theorem dW{α:Type}{r:α}{Q:α->Prop}(q:Q r):Wp (NW r) Q:=⟨r,rfl,q⟩
section
variable {Γ:Nat->Option Fn} {ρ:Ro} {Q:KD->Prop}
theorem ad{i:Nat}(h:ρ[i]?=NW (NW s))(q:Q (sY i s)):Wp (ak Γ (.var i) ρ) Q:=⟨_,by rw[yx,h];rfl,q⟩
theorem af(q:Q (.sh,d)):Wp (ak Γ (.lit d) ρ) Q:=⟨_,by rw[qZ],q⟩
theorem aj(h:Wp (ak Γ a ρ) λx=>Wp (ak Γ b ρ) λy=>Wp (ef op x y) Q):Wp (ak Γ (.bin op a b) ρ) Q:=by
 obtain⟨x,ex,y,ey,z,ez,q⟩:=h;exact⟨z,by rw[yy,ex,ey];exact ez,q⟩
theorem gE(h:Wp (ak Γ a ρ) λx=>Wp (ak Γ b ρ) λy=>Wp (bR op x.2 y.2) λr=>Q (.sh,.bl r)):Wp (ak Γ (.cmp op a b) ρ) Q:=by
 obtain⟨x,ex,y,ey,z,ez,q⟩:=h;exact⟨_,by rw[yz,ex,ey];show bV (bR op x.2 y.2)=_;rw[ez];rfl,q⟩
theorem qe(h:Wp (bp Γ t ρ) λr=>(r=NY->Wp (ak Γ a ρ) Q)/\(r=NZ->Wp (ak Γ b ρ) Q)):Wp (ak Γ (.ifx t a b) ρ) Q:=by
 obtain⟨r,er,q1,q2⟩:=h
 cases r with
 |true=>obtain⟨x,ex,q⟩:=q1 rfl;exact⟨x,by rw[q8,er];exact ex,q⟩
 |false=>obtain⟨x,ex,q⟩:=q2 rfl;exact⟨x,by rw[q8,er];exact ex,q⟩
theorem bc(h:Wp (a7 Γ es ρ) λkds=>Wp (g6 k (NW kds)) Q):Wp (ak Γ (.lst k es) ρ) Q:=by
 obtain⟨x,ex,z,ez,q⟩:=h;exact⟨z,by rw[yB,ex];exact ez,q⟩
theorem bC(h:Wp (a7 Γ es ρ) λkds=>Wp (g7 k (NW kds)) Q):Wp (ak Γ (.tup k es) ρ) Q:=by
 obtain⟨x,ex,z,ez,q⟩:=h;exact⟨z,by rw[yC,ex];exact ez,q⟩
theorem aH(h:Wp (ak Γ a ρ) λx=>Wp (ak Γ b ρ) λy=>Wp (qS (NW x) (NW y)) Q):Wp (ak Γ (.ix a b) ρ) Q:=by
 obtain⟨x,ex,y,ey,z,ez,q⟩:=h;exact⟨z,by rw[Cg,ex,ey];exact ez,q⟩
theorem AF(h:Wp (ak Γ a ρ) λx=>Wp (dZ Γ lo ρ) λl=>Wp (dZ Γ hi ρ) λu=>Wp (DN (NW x) (NW l) (NW u)) Q):Wp (ak Γ (.sl a lo hi) ρ) Q:=by
 obtain⟨x,ex,l,el,u,eu,z,ez,q⟩:=h;exact⟨z,by rw[Ch,ex,el,eu];exact ez,q⟩
theorem wo(h:Wp (ak Γ a ρ) λx=>Wp (dZ Γ lo ρ) λl=>Wp (ak Γ st ρ) λy=>Wp (tf (NW x) (NW l) (NW y)) Q):Wp (ak Γ (.stp a lo st) ρ) Q:=by
 obtain⟨x,ex,l,el,y,ey,z,ez,q⟩:=h;exact⟨z,by rw[yE,ex,el,ey];exact ez,q⟩
theorem zo(h:Wp (ak Γ a ρ) λx=>Wp (lE (NW x)) Q):Wp (ak Γ (.lrng a) ρ) Q:=by
 obtain⟨x,ex,z,ez,q⟩:=h;exact⟨z,by rw[vt,ex];exact ez,q⟩
theorem bX{i:Nat}(hΓ:Γ i=NW φ)(h:Wp (a7 Γ es ρ) λkds=>Wp (tw φ kds) Q):Wp (ak Γ (.fn i es) ρ) Q:=by
 obtain⟨x,ex,z,ez,q⟩:=h;exact⟨z,by rw[Cj,ex,hΓ];exact ez,q⟩
theorem bx{x:Str}(h:Wp (a7 Γ es ρ) λkds=>Wp (eW x kds) Q):Wp (ak Γ (.blt x es) ρ) Q:=by
 obtain⟨y,ey,z,ez,q⟩:=h;exact⟨z,by rw[yG,ey];exact ez,q⟩
theorem d6{T:Str}(h:Wp (ak Γ a ρ) λx=>Wp (nX T x.2) λb=>Q (.sh,.bl b)):Wp (ak Γ (.isi T a) ρ) Q:=by
 obtain⟨y,ey,z,ez,q⟩:=h;exact⟨_,by rw[yF,ey];show bV (nX T y.2)=_;rw[ez];rfl,q⟩
theorem oE(h:Wp (ak Γ a ρ) Q):Wp (ak Γ (.bool op (.cons a .nil)) ρ) Q:=by
 obtain⟨y,ey,q⟩:=h;exact⟨y,by rw[hU,j5];exact ey,q⟩
theorem oF(h:Wp (ak Γ a ρ) λx=>∃z,x.2=.bl z/\((op==.And)=z->Wp (ak Γ (.bool op (.cons b r)) ρ) Q)/\((op==.And)≠z->Q (.sh,.bl z))):Wp (ak Γ (.bool op (.cons a (.cons b r))) ρ) Q:=by
 obtain⟨⟨k,d⟩,ey,z,hz,q1,q2⟩:=h;have hz:d=.bl z:=hz;subst hz;by_cases hh:(op==.And)=z
 ·obtain⟨y,e2,q⟩:=q1 hh;rw[hU] at e2;exact⟨y,by rw[hU,j5,ey];exact(if_pos hh).trans e2,q⟩
 ·exact⟨_,by rw[hU,j5,ey];exact if_neg hh,q2 hh⟩
theorem jB(h:Wp (d3 Γ it ρ) λp=>p.2.length<=100000/\Wp (ba r (eL tg (eC Γ ts) (ak Γ elt) (cC ρ cap)) p.2) λys=>Q (.fr (.own [] r),.lst ys)):Wp (ak Γ (.comp r cap tg it ts elt) ρ) Q:=by
 obtain⟨p,ep,hl,ys,ey,q⟩:=h;obtain⟨bs,ds⟩:=p
 exact⟨_,by rw[n5,ep];show(if ds.length<=100000 then _ else _)=_;rw[if_pos hl,ey],q⟩
variable {T:Bool->Prop}
theorem aP(h:Wp (ak Γ a ρ) λx=>Wp (ak Γ b ρ) λy=>Wp (bR op x.2 y.2) T):Wp (bp Γ (.cmp op a b) ρ) T:=by
 obtain⟨x,ex,y,ey,z,ez,q⟩:=h;exact⟨_,by rw[vB,ex,ey];exact ez,q⟩
theorem iV(h:Wp (bp Γ a ρ) λb=>T (!b)):Wp (bp Γ (.not a) ρ) T:=by
 obtain⟨x,ex,q⟩:=h;exact⟨_,by rw[vC,ex];rfl,q⟩
theorem ci(h:Wp (bp Γ a ρ) T):Wp (bp Γ (.bool op (.cons a .nil)) ρ) T:=by
 obtain⟨y,ey,q⟩:=h;exact⟨y,by rw[fH,fq];exact ey,q⟩
theorem fw(h:Wp (bp Γ a ρ) λz=>((op==.And)=z->Wp (bp Γ (.bool op (.cons b r)) ρ) T)/\((op==.And)≠z->T z)):Wp (bp Γ (.bool op (.cons a (.cons b r))) ρ) T:=by
 obtain⟨z,ey,q1,q2⟩:=h;by_cases hh:(op==.And)=z
 ·obtain⟨y,e2,q⟩:=q1 hh;rw[fH] at e2;exact⟨y,by rw[fH,fq,ey];exact(if_pos hh).trans e2,q⟩
 ·exact⟨_,by rw[fH,fq,ey];exact if_neg hh,q2 hh⟩
theorem df(ht:yI a=NY)(h:Wp (ak Γ a ρ) λx=>Wp (u5 x.2) T):Wp (bp Γ a ρ) T:=by
 obtain⟨x,ex,b,eb,q⟩:=h;exact⟨b,by rw[ju ht];show mM (ak Γ a ρ)=_;rw[ex];exact eb,q⟩
variable {L:List KD->Prop}
theorem ag(q:L []):Wp (a7 Γ .nil ρ) L:=⟨_,by rw[a7],q⟩
theorem ae(h:Wp (ak Γ a ρ) λx=>Wp (a7 Γ r ρ) λxs=>L (x::xs)):Wp (a7 Γ (.cons a r) ρ) L:=by
 obtain⟨x,ex,xs,exs,q⟩:=h;exact⟨_,by rw[a7,ex,exs];rfl,q⟩
theorem qf{P:Option Int->Prop}(q:P NX):Wp (dZ Γ .non ρ) P:=⟨_,by rw[dZ],q⟩
theorem wq{P:Option Int->Prop}(h:Wp (ak Γ a ρ) λx=>∃i,x.2=.int i/\P (NW i)):Wp (dZ Γ (.som a) ρ) P:=by
 obtain⟨⟨k,d⟩,ex,i,hi,q⟩:=h;have hi:d=.int i:=hi;subst hi;exact⟨_,by rw[dZ,ex];rfl,q⟩
variable {P:List Nat×List D->Prop}
theorem fS(h:Wp (ak Γ a ρ) λx=>Wp (pJ (NW x)) P):Wp (d3 Γ (.e a) ρ) P:=by
 obtain⟨x,ex,z,ez,q⟩:=h;exact⟨z,by rw[d3,ex];exact ez,q⟩
theorem m4(h:Wp (ak Γ a ρ) λx=>Wp (pK (NW x)) P):Wp (d3 Γ (.enm a) ρ) P:=by
 obtain⟨x,ex,z,ez,q⟩:=h;exact⟨z,by rw[d3,ex];exact ez,q⟩
theorem wt(h:Wp (ak Γ a ρ) λx=>Wp (ak Γ b ρ) λy=>Wp (nW (NW x) (NW y)) P):Wp (d3 Γ (.zp a b) ρ) P:=by
 obtain⟨x,e,y,e',h⟩:=h;show Wp (nW (ak Γ a ρ) (ak Γ b ρ)) P;rw[e,e'];exact h
theorem gG(h:Wp (ak Γ a ρ) λx=>Wp (ak Γ b ρ) λy=>Wp (g9 (NW x) (NW y)) P):Wp (d3 Γ (.rng a b) ρ) P:=by
 obtain⟨x,ex,y,ey,z,ez,q⟩:=h;exact⟨z,by rw[d3,ex,ey];exact ez,q⟩
end
section
variable {Q:KD->Prop} {k k':Kd} {i j:Int}
theorem bn(q:Q (.sh,.int (i+j))):Wp (ef .Add (k,.int i) (k',.int j)) Q:=dW q
theorem cL(q:Q (.sh,.int (i-j))):Wp (ef .Sub (k,.int i) (k',.int j)) Q:=dW q
theorem kC(h:i.natAbs<lim/\j.natAbs<lim)(q:Q (.sh,.int (i*j))):Wp (ef .Mult (k,.int i) (k',.int j)) Q:=⟨_,fF (if_pos h),q⟩
theorem rR(h:0<j/\j.natAbs<lim)(q:Q (.sh,.int (i / j))):Wp (ef .FloorDiv (k,.int i) (k',.int j)) Q:=⟨_,fF (if_pos h),q⟩
theorem kE(h:0<j)(q:Q (.sh,.int (i%j))):Wp (ef .Mod (k,.int i) (k',.int j)) Q:=⟨_,fF (if_pos h),q⟩
theorem qg(h:0<=j/\j<=1000000/\i.natAbs<2^64)(q:Q (.sh,.int (i^j.toNat))):Wp (ef .Pow (k,.int i) (k',.int j)) Q:=⟨_,fF (if_pos h),q⟩
theorem eO(h:0<=j/\j<=1000000/\i.natAbs<lim)(q:Q (.sh,.int (i*2^j.toNat))):Wp (ef .LShift (k,.int i) (k',.int j)) Q:=⟨_,fF (if_pos h),q⟩
theorem Db(h:0<=j)(q:Q (.sh,.int (i / 2^j.toNat))):Wp (ef .RShift (k,.int i) (k',.int j)) Q:=⟨_,fF (if_pos h),q⟩
theorem kF{xs ys:List D}(h:gm k xs=NY/\gm k' ys=NY/\xs.length+ys.length<=100000)(q:Q (.fr bv,.lst (xs++ys))):Wp (ef .Add (k,.lst xs) (k',.lst ys)) Q:=⟨_,if_pos h,q⟩
variable {T:Bool->Prop}
theorem wu(q:T (decide (i<j))):Wp (bR .Lt (.int i) (.int j)) T:=dW q
theorem wv(q:T (decide (i<=j))):Wp (bR .LtE (.int i) (.int j)) T:=dW q
theorem f8(q:T (decide (j<i))):Wp (bR .Gt (.int i) (.int j)) T:=dW q
theorem AG(q:T (decide (j<=i))):Wp (bR .GtE (.int i) (.int j)) T:=dW q
theorem qh(h:ee 90 x=NY/\ee 90 y=NY)(q:T (nO x y)):Wp (bR .Eq x y) T:=⟨_,if_pos h,q⟩
theorem ww(h:ee 90 x=NY/\ee 90 y=NY)(q:T (!nO x y)):Wp (bR .NotEq x y) T:=⟨_,if_pos h,q⟩
theorem rS:nO (.int i) (.int j)=decide (i=j):=by
 unfold nO py;simp[PyData.eqv]
 try rfl
theorem f9(q:T (decide (i=j))):Wp (bR .Eq (.int i) (.int j)) T:=qh ⟨rfl,rfl⟩ (by rw[rS];exact q)
theorem lS(q:T (!decide (i=j))):Wp (bR .NotEq (.int i) (.int j)) T:=ww ⟨rfl,rfl⟩ (by rw[rS];exact q)
variable {xs:List D} {d:D} {n:Nat}
theorem Dc{z:Int}(hj:i4 xs.length z=NW n)(hd:xs[n]?=NW d)(q:Q (pC k n,d)):Wp (qS (NW (k,.nd .lst xs)) (NW (k',.int z))) Q:=⟨_,by show(match i4 xs.length z with|some j=>(xs[j]?).map (λd=>(pC k j,d))|none=>NX)=_;rw[hj];show(xs[n]?).map _=_;rw[hd];rfl,q⟩
theorem Dd{z:Int}(hj:i4 xs.length z=NW n)(hd:xs[n]?=NW d)(q:Q (pC k n,d)):Wp (qS (NW (k,.nd .tup xs)) (NW (k',.int z))) Q:=⟨_,by show(match i4 xs.length z with|some j=>(xs[j]?).map (λd=>(pC k j,d))|none=>NX)=_;rw[hj];show(xs[n]?).map _=_;rw[hd];rfl,q⟩
theorem iq{m:Nat}{z:Int}(h0:0<=z)(h1:z<m):i4 m z=NW z.toNat:=by unfold i4;rw[if_pos h0,if_pos h1]
end
theorem wx{Q:KD->Prop}{n:Nat}(h:yn d=NW n)(q:Q (.sh,.int n)):Wp (eW "len" [(k,d)]) Q:=by
 refine⟨(.sh,.int n),?_,q⟩;have e:eW "len" = vf:=by unfold eW;rw[if_pos rfl]
 rw[e];unfold vf;dsimp only;rw[h];rfl
theorem wy{Q:KD->Prop}{i j:Int}(q:Q (.sh,.int (if j<i then j else i))):Wp (eW "min" [(k,.int i),(k',.int j)]) Q:=⟨_,rfl,q⟩
theorem rT{Q:KD->Prop}(h:gm k ds=NY)(q:Q (.fr bv,.lst ds)):Wp (eW "list" [(k,.nd .lst ds)]) Q:=⟨_,if_pos h,q⟩
theorem c7{Q:KD->Prop}(h:gm k ds=NY)(q:Q (BR k,.tup ds)):Wp (eW "tuple" [(k,.nd .lst ds)]) Q:=⟨_,if_pos h,q⟩
theorem bP{φ:Fn}{kds:List KD}{Q:KD->Prop}(h:Wp (φ (kds.map (·.2))) λr=>bZ r.1=NZ/\((kds.all λp=>mC p.1 p.2)=NY\/pL r.1 r.2=NY)/\Q r):Wp (tw φ kds) Q:=by
 obtain⟨⟨kd,d⟩,e,hb,ho,q⟩:=h;refine⟨(kd,d),?_,q⟩;unfold tw;rw[e];dsimp only;by_cases ha:(kds.all λp=>mC p.1 p.2)=NY
 ·rw[if_pos ha,if_neg (by simpa using hb)]
 ·rw[if_neg ha,if_pos (ho.resolve_left ha)]
section
variable {Γ:GG} {ρ:Ro} {Q:Kd×D×Ro->Prop}
theorem au(h:Wp (ak Γ.fn e ρ) λx=>Q (x.1,x.2,ρ)):Wp (a5 Γ (.p e) ρ) Q:=by
 obtain⟨x,ex,q⟩:=h;exact⟨_,by rw[vS,ex];rfl,q⟩
theorem c8{i:Nat}(h:ρ[i]?=NW (NW ⟨NZ,.own es r,d⟩))(q:Q (.fr (.own es r),d,ρ.set i NX)):Wp (a5 Γ (.mv i) ρ) Q:=⟨_,by rw[CL];unfold tB;rw[h];rfl,q⟩
theorem wz{i:Nat}(h:ρ[i]?=NW (NW ⟨NZ,k,d⟩))(q:Q (.sh,d,ρ.set i (NW ⟨NZ,.fz,d⟩))):Wp (a5 Γ (.fz i) ρ) Q:=⟨_,by rw[CM];unfold tD;rw[h],q⟩
theorem kG{f:Nat}{φ:Fm}(hφ:Γ.fm f=NW φ)(h:Wp (dr Γ as ρ) λp=>(cK p.1).Nodup/\∃ks,eM p.2 p.1=NW ks/\Wp (φ ks) λo=>bZ o.1=NZ/\o.2.2.length=p.1.length/\Q (o.1,o.2.1,dL p.1 (o.2.2.map DQ) p.2)):Wp (a5 Γ (.io f as) ρ) Q:=by
 obtain⟨⟨ras,ρ1⟩,ea,hn,ks,hk,⟨kd,d,os⟩,eo,hb,hl,q⟩:=h;refine⟨_,?_,q⟩;rw[pU,hφ,ea];unfold Cu;dsimp only;rw[if_pos hn,hk];dsimp only;rw[eo];dsimp only;exact if_neg (by rw[hb];simpa using hl)
theorem AH{f:Nat}(hφ:Γ.fn f=NW φ)(h:Wp (aU Γ as ρ) λp=>Wp (tw φ p.1) λr=>Q (r.1,r.2,p.2)):Wp (a5 Γ (.fn f as) ρ) Q:=by
 obtain⟨⟨kds,ρ1⟩,ea,r,er,q⟩:=h
 exact⟨_,by rw[pV,hφ];show oS (tw φ) _=_;rw[ea];show(match tw φ kds with|some (kd,d)=>NW (kd,d,ρ1)|none=>NX)=_;rw[er],q⟩
theorem lT{f:List KD->Option KD}(h:Wp a λp=>Wp (f p.1) λr=>Q (r.1,r.2,p.2)):Wp (oS f a) Q:=by
 obtain⟨⟨kds,ρ1⟩,ea,r,er,q⟩:=h
 exact⟨_,by rw[ea];show(match f kds with|some (kd,d)=>NW (kd,d,ρ1)|none=>NX)=_;rw[er],q⟩
theorem qi{x:Str}(h:Wp (aU Γ as ρ) λp=>Wp (eW x p.1) λr=>Q (r.1,r.2,p.2)):Wp (a5 Γ (.blt x as) ρ) Q:=by rw[yT];exact lT h
theorem cN(h:Wp (aU Γ as ρ) λp=>Wp (g7 k (NW p.1)) λr=>Q (r.1,r.2,p.2)):Wp (a5 Γ (.tup k as) ρ) Q:=by rw[yU];exact lT h
theorem wB(h:Wp (aU Γ as ρ) λp=>Wp (g6 k (NW p.1)) λr=>Q (r.1,r.2,p.2)):Wp (a5 Γ (.lst k as) ρ) Q:=by rw[yV];exact lT h
theorem m5(h:Wp (aU Γ as ρ) λp=>∃x y,p.1=[x,y]/\Wp (ef op x y) λr=>Q (r.1,r.2,p.2)):Wp (a5 Γ (.bin op as) ρ) Q:=by
 rw[yW];exact lT (h.mono λp ⟨x,y,e,w⟩=>by rw[e];exact w)
theorem lU(h:Wp (aU Γ as ρ) λp=>∃x y,p.1=[x,y]/\Wp (qS (NW x) (NW y)) λr=>Q (r.1,r.2,p.2)):Wp (a5 Γ (.ix as) ρ) Q:=by
 rw[CN];exact lT (h.mono λp ⟨x,y,e,w⟩=>by rw[e];exact w)
theorem eP{cap:List (Option Nat)}(h:Wp (d4 Γ it ρ) λp=>p.1=[]/\p.2.1.length<=100000/\Wp (aK r (fv cap tg (km Γ ts) (a5 Γ elt)) p.2.1 (cC p.2.2 cap)) λz=>z.2.length=cap.length/\Q (.fr (.own [] r),.lst z.1,dL (ii cap) z.2 p.2.2)):Wp (a5 Γ (.comp r cap tg it ts elt) ρ) Q:=by
 obtain⟨⟨bs,ds,ρ1⟩,ep,hb,hl,⟨ys,ρc⟩,ey,hz,q⟩:=h;refine⟨_,?_,q⟩;rw[oj,ep];unfold gA;dsimp only at hb hl ey hz⊢;rw[if_pos ⟨hb,hl⟩,ey];dsimp only;rw[if_pos hz]
theorem qj{i:Nat}(h0:ρ[i]?=NW (NW ⟨NZ,.own es0 r0,.nd .lst ds0⟩))(h:Wp (a5 Γ a ρ) λp=>∃es r ds,p.2.2[i]?=NW (NW ⟨NZ,.own es r,.nd .lst ds⟩)/\(es.length<=ds.length/\cy r (d9 p.1 p.2.1,p.2.1)=NY/\ds.length<100000)/\Q (.sh,.non,p.2.2.set i (NW ⟨NZ,.own es r,.lst (ds++[p.2.1])⟩))):Wp (a5 Γ (.mutM "append" i a) ρ) Q:=by
 obtain⟨⟨kd,d,ρ1⟩,ea,es,r,ds,h1,h2,q⟩:=h;refine⟨_,?_,q⟩;rw[vT,ea,h0];show jm "append" i (jd ρ1[i]?) (NW [(d9 kd d,d)]) ρ1=_;dsimp only at h1 h2;rw[h1]
 show(match jl "append" es r ds [(d9 kd d,d)],ρ1[i]? with|some (d',ds'),NW (NW ⟨NZ,k,_⟩)=>NW (Kd.sh,d',ρ1.set i (NW ⟨NZ,k,id (.lst ds')⟩))|_,_=>NX)=_
 have:jl "append" es r ds [(d9 kd d,d)]=NW (.non,ds++[d]):=if_pos h2;rw[this,h1];rfl
theorem cV{i:Nat}(h:Wp (ak Γ.fn e ρ) λx=>∃es r ds,ρ[i]?=NW (NW ⟨NZ,.own es r,.nd .lst ds⟩)/\(es.length<=ds.length/\cy r x=NY/\ds.length<100000)/\Q (.sh,.non,ρ.set i (NW ⟨NZ,.own es r,.lst (ds++[x.2])⟩))):Wp (a5 Γ (.mut "append" (.nm i) (.cons e .nil)) ρ) Q:=by
 obtain⟨x,ex,es,r,ds,h1,h2,q⟩:=h;refine⟨_,?_,q⟩;rw[ik,a7,a7,ex];show jm "append" i (mU Γ.fn (.nm i) ρ) (NW [x]) ρ=_;rw[mU,h1]
 show(match jl "append" es r ds [x],ρ[i]? with|some (d',ds'),NW (NW ⟨NZ,k,_⟩)=>NW (Kd.sh,d',ρ.set i (NW ⟨NZ,k,id (.lst ds')⟩))|_,_=>NX)=_
 have:jl "append" es r ds [x]=NW (.non,ds++[x.2]):=if_pos h2;rw[this,h1];rfl
variable {A:List RA×Ro->Prop}
theorem fx(q:A ([],ρ)):Wp (dr Γ .nil ρ) A:=⟨_,by rw[dr],q⟩
theorem fy{i:Nat}(hs:ρ[i]?=NW (NW s))(h:Wp (dr Γ r ρ) λp=>A (.ref i::p.1,p.2)):Wp (dr Γ (.ref i r) ρ) A:=by
 obtain⟨⟨ras,ρ1⟩,ea,q⟩:=h;exact⟨_,by rw[dr,hs,ea];rfl,q⟩
theorem eQ(h:Wp (a5 Γ a ρ) λx=>bZ (d9 x.1 x.2.1)=NZ/\Wp (dr Γ r x.2.2) λp=>A (.val (d9 x.1 x.2.1) x.2.1::p.1,p.2)):Wp (dr Γ (.val a r) ρ) A:=by
 obtain⟨⟨kd,d,ρ1⟩,ea,hb,⟨ras,ρ2⟩,er,q⟩:=h;refine⟨_,?_,q⟩;rw[dr,ea]
 show(if bZ (d9 kd d)=NY then NX else _)=_
 dsimp only at hb er;rw[if_neg (by rw[hb];decide),er]
variable {S:List KD×Ro->Prop}
theorem aQ(h:Wp (a5 Γ a ρ) λx=>Wp (a7 Γ.fn r x.2.2) λxs=>S ((x.1,x.2.1)::xs,x.2.2)):Wp (aU Γ (.fin a r) ρ) S:=by
 obtain⟨⟨kd,d,ρ1⟩,ea,xs,ex,q⟩:=h;refine⟨_,?_,q⟩;rw[aU,ea]
 show(match a7 Γ.fn r ρ1 with|some kds=>NW ((kd,d)::kds,ρ1)|none=>NX)=_
 dsimp only at ex;rw[ex]
theorem aN(h:Wp (a5 Γ a ρ) λx=>bZ (d9 x.1 x.2.1)=NZ/\Wp (aU Γ r x.2.2) λp=>S ((d9 x.1 x.2.1,x.2.1)::p.1,p.2)):Wp (aU Γ (.cons a r) ρ) S:=by
 obtain⟨⟨kd,d,ρ1⟩,ea,hb,⟨kds,ρ2⟩,er,q⟩:=h;refine⟨_,?_,q⟩;rw[aU,ea]
 show(if bZ (d9 kd d)=NY then NX else _)=_
 dsimp only at hb er;rw[if_neg (by rw[hb];decide),er]
variable {T:Bool×Ro->Prop}
theorem rV(h:Wp (bp Γ.fn e ρ) λb=>T (b,ρ)):Wp (ce Γ (.p e) ρ) T:=by
 obtain⟨x,ex,q⟩:=h;exact⟨_,by rw[ce,ex];rfl,q⟩
theorem ir(h:Wp (aU Γ as ρ) λp=>∃x y,p.1=[x,y]/\Wp (bR op x.2 y.2) λb=>T (b,p.2)):Wp (ce Γ (.cmp op as) ρ) T:=by
 obtain⟨⟨kds,ρ1⟩,ea,x,y,e,b,eb,q⟩:=h;dsimp only at e;subst e
 exact⟨_,by rw[ce,ea];show(match bR op x.2 y.2 with|some b=>NW (b,ρ1)|none=>NX)=_;rw[eb],q⟩
variable {I:List Nat×List D×Ro->Prop}
theorem bU(h:Wp (d3 Γ.fn it ρ) λp=>I (p.1,p.2,ρ)):Wp (d4 Γ (.p it) ρ) I:=by
 obtain⟨x,ex,q⟩:=h;exact⟨_,by rw[d4,ex];rfl,q⟩
theorem De{g:Option KD->Option (List Nat×List D)}(h:Wp a λx=>Wp (g (NW (d9 x.1 x.2.1,x.2.1))) λp=>I (p.1,p.2,x.2.2)):Wp (DR g a) I:=by
 obtain⟨⟨kd,d,ρ1⟩,ea,p,ep,q⟩:=h;exact⟨_,by rw[ea];show Cv (g (NW (d9 kd d,d))) ρ1=_;dsimp only at ep;rw[ep];rfl,q⟩
theorem m6(h:Wp (a5 Γ a ρ) λx=>Wp (g9 (NW (.sh,.int 0)) (NW (d9 x.1 x.2.1,x.2.1))) λp=>I (p.1,p.2,x.2.2)):Wp (d4 Γ (.rng a) ρ) I:=by rw[d4];exact De h
end
theorem fA{i j:Int}{P:List Nat×List D->Prop}(h:eK i j=NY)(q:P ([],cY i j)):Wp (g9 (NW (k,.int i)) (NW (k',.int j))) P:=⟨_,if_pos h,q⟩
theorem cn{i j:Int}(h1:-100000<=i)(h2:i<=100000)(h3:-100000<=j)(h4:j<=100000)(h5:j-i<=100000):eK i j=NY:=by
 simp only[eK,Lj,decide_eq_true_eq]
 lia
theorem iu{i j:Int}{n:Nat}(h:(cY i j)[n]?=NW d):d=.int (i+n)/\i+n<j:=by
 unfold cY at h;rw[Ll] at h;obtain⟨m,hm,rfl⟩:=aZ h;have hl:=(Lk.mp hm).1;rw[Lz] at hl;rw[LQ hl] at hm;cases hm;exact⟨rfl,by lia⟩
theorem cw{P:List Nat×List D->Prop}(h:gm k ds=NY)(q:P (vk k,ds)):Wp (pJ (NW (k,.nd .lst ds))) P:=⟨_,if_pos h,q⟩
theorem wC{P:List Nat×List D->Prop}(h:gm k ds=NY)(q:P ([],ds)):Wp (pJ (NW (k,.nd .tup ds))) P:=⟨_,if_pos h,q⟩
noncomputable def Kt(Γ:GG)(N:Nat)(rest:bW)(pn:List Nat)(Q:Res->Prop):Res->Prop
 |.nx ρ=>Wp (aL Γ N rest pn ρ) Q
 |r=>Q r
section
variable {Γ:GG} {N:Nat} {pn:List Nat} {ρ:Ro} {Q:Res->Prop} {rest:bW}
theorem br(h:Wp (aL Γ N rest pn ρ) Q):Kt Γ N rest pn Q (.nx ρ):=h
theorem ge(h:Q (.rt k d ρ)):Kt Γ N rest pn Q (.rt k d ρ):=h
theorem aM(q:Q (.nx ρ)):Wp (aL Γ N .nil pn ρ) Q:=⟨_,by rw[aL],q⟩
theorem cx(h:Wp (eG Γ N s pn ρ) (Kt Γ N rest pn Q)):Wp (aL Γ N (.cons s rest) pn ρ) Q:=by
 obtain⟨r,er,q⟩:=h
 cases r with
 |nx ρ1=>obtain⟨z,ez,q⟩:=q;exact⟨z,by rw[aL,er];exact ez,q⟩
 |rt k d ρ1=>exact⟨_,by rw[aL,er];rfl,q⟩
 |ct ρ1=>exact⟨_,by rw[aL,er];rfl,q⟩
 |bk ρ1=>exact⟨_,by rw[aL,er];rfl,q⟩
theorem aI{i:Nat}(h:Wp (a5 Γ a ρ) λx=>(bZ (d9 x.1 x.2.1)=NZ/\i∉pn)/\Wp (aL Γ N rest pn (x.2.2.set i (NW ⟨NZ,FJ (d9 x.1 x.2.1),x.2.1⟩))) Q):Wp (aL Γ N (.cons (.asg i a) rest) pn ρ) Q:=by
 obtain⟨⟨kd,d,ρ1⟩,ea,hb,w⟩:=h;refine cx ⟨.nx _,?_,br w⟩;rw[y9,ea];exact if_neg (by dsimp only at hb;rw[hb.1];simpa using hb.2)
theorem eR{is:List Nat}(h:Wp (a5 Γ a ρ) λx=>∃ds es r,x.2.1=.nd .tup ds/\iR x.1 ds=NW (es,r)/\(is.length=ds.length/\(is.all λi=>!pn.contains i)=NY)/\Wp (aL Γ N rest pn (ou is ds es r x.2.2)) Q):Wp (aL Γ N (.cons (.unp is a) rest) pn ρ) Q:=by
 obtain⟨⟨kd,d,ρ1⟩,ea,ds,es,r,hd,hk,hl,w⟩:=h;dsimp only at hd hk;subst hd;refine cx ⟨.nx _,?_,br w⟩;rw[za,ea]
 show(match iR kd ds with|some (es,r)=>if is.length=ds.length/\(is.all λi=>!pn.contains i)=NY then NW (Res.nx (ou is ds es r ρ1)) else NX|none=>NX)=_
 rw[hk];exact if_pos hl
theorem Gg{i:Nat}{s:Sl}(hs:ρ[i]?=NW (NW s))(h:Wp (a5 Γ a ρ) λx=>i∉pn/\Wp (y4 op s.d x.2.1) λz=>Wp (aL Γ N rest pn (x.2.2.set i (NW (xv z)))) Q):Wp (aL Γ N (.cons (.aug i op a) rest) pn ρ) Q:=by
 obtain⟨⟨kd,d,ρ1⟩,ea,hb,z,ez,w⟩:=h;refine cx ⟨.nx _,?_,br w⟩;rw[zb,ea,hs]
 show(if i∈pn then NX else _)=_
 dsimp only at ez;rw[if_neg hb,ez]
theorem iw{b:BP}(h:Wp (a5 Γ a ρ) λx=>Wp (mU Γ.fn b x.2.2) λp=>Wp (ak Γ.fn k x.2.2) λy=>∃es r hd ds kk d0,p.1=.own es r/\p.2.1=.nd hd ds/\x.2.2[b.slot]?=NW (NW ⟨NZ,kk,d0⟩)/\Wp (fR es r hd ds y.2 (d9 x.1 x.2.1,x.2.1)) λz=>Wp (aL Γ N rest pn (x.2.2.set b.slot (NW ⟨NZ,kk,p.2.2 (.nd z.1 z.2)⟩))) Q):Wp (aL Γ N (.cons (.put b k a) rest) pn ρ) Q:=by
 obtain⟨⟨kd,d,ρ1⟩,ea,⟨pk,pd,up⟩,ep,⟨ky,dy⟩,ey,es,r,hd,ds,kk,d0,e1,e2,e3,⟨hd',ds'⟩,ez,w⟩:=h;dsimp only at e1 e2 e3 ep ey ez;subst e1 e2;refine cx ⟨.nx _,?_,br w⟩;rw[zc,ea];unfold tK;dsimp only;rw[ep,ey,e3];dsimp only;rw[ez]
theorem aW(h:Wp (a5 Γ a ρ) λx=>bZ (d9 x.1 x.2.1)=NZ/\Q (.rt (d9 x.1 x.2.1) x.2.1 x.2.2)):Wp (aL Γ N (.cons (.ret a) rest) pn ρ) Q:=by
 obtain⟨⟨kd,d,ρ1⟩,ea,hb,q⟩:=h;refine cx ⟨.rt _ _ _,?_,ge q⟩;rw[ze,ea];exact if_neg (by dsimp only at hb;rw[hb];decide)
theorem cG(h:Wp (a5 Γ a ρ) λx=>Wp (aL Γ N rest pn x.2.2) Q):Wp (aL Γ N (.cons (.exp a) rest) pn ρ) Q:=by
 obtain⟨⟨kd,d,ρ1⟩,ea,w⟩:=h;refine cx ⟨.nx _,?_,br w⟩;rw[zf,ea];rfl
theorem rW(h:Wp (ce Γ t ρ) λp=>(p.1=NY->Wp (aL Γ N a pn p.2) (Kt Γ N rest pn Q))/\(p.1=NZ->Wp (aL Γ N b pn p.2) (Kt Γ N rest pn Q))):Wp (aL Γ N (.cons (.ifs t a b) rest) pn ρ) Q:=by
 obtain⟨⟨r,ρ1⟩,er,q1,q2⟩:=h
 cases r with
 |true=>obtain⟨x,ex,q⟩:=q1 rfl;exact cx ⟨x,by rw[rL,er];exact ex,q⟩
 |false=>obtain⟨x,ex,q⟩:=q2 rfl;exact cx ⟨x,by rw[rL,er];exact ex,q⟩
theorem oG{fb:Ro->Option Res}(I:Nat->Ro->Prop):∀(ds:List D) (j:Nat) (ρ:Ro),I j ρ->(∀(i:Nat) d ρ,ds[i]?=NW d->I (j+i) ρ->∃ps,nY tg d=NW ps/\(ps.all λp=>!pn.contains p.1)=NY/\Wp (fb (setAll ps (clrN fg ρ))) λr=>∃ρ',(r=.nx ρ'\/r=.ct ρ')/\I (j+i+1) ρ')->
  ∃ρ',c5 pn fg tg fb ds ρ=NW (.nx (clrN fg ρ'))/\I (j+ds.length) ρ'
 |[],j,ρ,h0,_=>⟨ρ,rfl,h0⟩
 |d::ds,j,ρ,h0,hs=>by
  obtain⟨ps,e1,e2,r,er,ρ1,hr,h1⟩:=hs 0 d ρ rfl h0
  obtain⟨ρ2,e3,h2⟩:=oG I ds (j+1) ρ1 h1 λi d' ρ' e hI=>by
   have:=hs (i+1) d' ρ' (by simpa using e) (by rw[show j+(i+1)=j+1+i by lia];exact hI);rw[show j+(i+1)+1=j+1+i+1 by lia] at this;exact this
  refine⟨ρ2,?_,by rw[LW,show j+(ds.length+1)=j+1+ds.length by lia];exact h2⟩;unfold c5;rw[e1];dsimp only;rw[if_pos e2,er];rcases hr with rfl|rfl
  ·exact e3
  ·exact e3
theorem dN(h:Wp (d4 Γ it ρ) λp=>∃I:Nat->Ro->Prop,I 0 (clrN p.1 p.2.2)/\(∀(i:Nat) d ρ,p.2.1[i]?=NW d->I i ρ->∃ps,nY tg d=NW ps/\(ps.all λq=>!(pn++p.1).contains q.1)=NY/\Wp (aL Γ N b (pn++p.1) (setAll ps (clrN fg ρ))) λr=>∃ρ',(r=.nx ρ'\/r=.ct ρ')/\I (i+1) ρ')/\
  ∀ρ',I p.2.1.length ρ'->Wp (aL Γ N rest pn (uc p.1 p.2.2 (clrN fg ρ'))) Q):Wp (aL Γ N (.cons (.fo fg tg it b) rest) pn ρ) Q:=by
 obtain⟨⟨bs,ds,ρ0⟩,ep,I,h0,hs,hq⟩:=h
 obtain⟨ρ',e1,h1⟩:=oG (pn:=pn++bs) I ds 0 (clrN bs ρ0) h0 λi d ρ e hI=>by
  have:=hs i d ρ e (by simpa using hI);simpa using this
 refine cx ⟨.nx _,?_,br (hq ρ' (by simpa using h1))⟩;rw[p4,ep];show oz bs ρ0 (c5 (pn++bs) fg tg (aL Γ N b (pn++bs)) ds (clrN bs ρ0))=_;rw[e1];rfl
end
theorem oH{f:D->Ro->Option (Option KD×Ro)}{Q:List D×Ro->Prop}{ds:List D}{ρ:Ro}(I:Nat->List D->Ro->Prop)(h0:I 0 [] ρ)(hs:∀(i:Nat) d ys ρ,ds[i]?=NW d->I i ys ρ->Wp (f d ρ) λo=>∃kd,o.1=NW kd/\cy r kd=NY/\I (i+1) (ys++[kd.2]) o.2)(hq:∀ys ρ,I ds.length ys ρ->Q (ys,ρ)):Wp (aK r f ds ρ) Q:=by
 have key:∀n,n<=ds.length->∃ys ρ',aK r f (ds.take n) ρ=NW (ys,ρ')/\I n ys ρ':=by
  intro n
  induction n with
  |zero=>intro _;exact⟨[],ρ,by simp[aK],h0⟩
  |succ n ih=>
   intro hn;obtain⟨ys,ρ1,e1,h1⟩:=ih (by lia);have hd:ds[n]?=NW ds[n]:=Lm (by lia);obtain⟨⟨o,ρ2⟩,eo,kd,ek,hf,hI⟩:=hs n _ ys ρ1 hd h1;dsimp only at ek hI;subst ek;have ht:ds.take (n+1)=ds.take n++[ds[n]]:=by rw[L9,hd];rfl
   refine⟨ys++[kd.2],ρ2,?_,hI⟩;rw[ht];exact c4 e1 (by simp[aK,eo,hf])
 obtain⟨ys,ρ',e,h⟩:=key ds.length (Lo _);rw[Ma] at e;exact⟨_,e,hq ys ρ' h⟩
theorem IZ{f:D->Option (Option KD)}{Q:List D->Prop}{ds:List D}(P:Nat->D->Prop)(hs:∀(i:Nat) d,ds[i]?=NW d->Wp (f d) λo=>∃kd,o=NW kd/\cy r kd=NY/\P i kd.2)(hq:∀ys,ys.length=ds.length->(∀(i:Nat) y,ys[i]?=NW y->P i y)->Q ys):Wp (ba r f ds) Q:=by
 have key:∀(ds:List D) (j:Nat),(∀(i:Nat) d,ds[i]?=NW d->Wp (f d) λo=>∃kd,o=NW kd/\cy r kd=NY/\P (j+i) kd.2)->∃ys,ba r f ds=NW ys/\ys.length=ds.length/\∀(i:Nat) y,ys[i]?=NW y->P (j+i) y:=by
  intro ds
  induction ds with
  |nil=>intro j _;exact⟨[],rfl,rfl,λi y e=>by simp at e⟩
  |cons d ds ih=>
   intro j h;obtain⟨o,eo,kd,rfl,hf,hp⟩:=h 0 d rfl
   obtain⟨ys,e1,e2,e3⟩:=ih (j+1) λi d' e=>by
    have:=h (i+1) d' (by simpa using e);rw[show j+(i+1)=j+1+i by lia] at this;exact this
   refine⟨kd.2::ys,by simp[ba,eo,e1,hf],by simp[e2],λi y e=>?_⟩
   cases i with
   |zero=>simp at e;subst e;exact hp
   |succ i=>
    rw[show j+(i+1)=j+1+i by lia];exact e3 i y (by simpa using e)
 obtain⟨ys,e1,e2,e3⟩:=key ds 0 λi d e=>by simpa using hs i d e
 exact⟨ys,e1,hq ys e2 λi y e=>by simpa using e3 i y e⟩
theorem wD{ft:Ro->Option Bool}{fe:Ro->Option KD}{Q:Option KD->Prop}(h1:nY tg d=NW ps)(h2:dG ps ρ0=NY)(ht:ft (setAll ps ρ0)=NW NY)(h:Wp (fe (setAll ps ρ0)) λx=>Q (NW x)):Wp (eL tg ft fe ρ0 d) Q:=by
 obtain⟨x,ex,q⟩:=h;refine⟨_,?_,q⟩;unfold eL;rw[h1];dsimp only;rw[if_pos h2,ht];dsimp only;rw[ex];rfl
theorem wF{ft:Ro->Option (Bool×Ro)}{fe:Ro->MR}{Q:Option KD×Ro->Prop}(h1:nY tg d=NW ps)(h2:dG ps ρ0=NY/\vP cap ps=NY)(h:Wp (ft (setAll ps ρ0)) λb=>(b.1=NY->Wp (fe b.2) λx=>Q (NW (d9 x.1 x.2.1,x.2.1),clr ps x.2.2))/\(b.1=NZ->Q (NX,clr ps b.2))):Wp (fv cap tg ft fe d ρ0) Q:=by
 obtain⟨⟨b,ρt⟩,et,q1,q2⟩:=h
 cases b with
 |true=>
  obtain⟨⟨kd,d',ρ1⟩,ex,q⟩:=q1 rfl;refine⟨_,?_,q⟩;unfold fv;rw[h1];dsimp only;rw[if_pos h2,et];dsimp only at ex⊢;rw[ex]
 |false=>
  refine⟨_,?_,q2 rfl⟩;unfold fv;rw[h1];dsimp only;rw[if_pos h2,et]
theorem kH{ft:Ro->Option (Bool×Ro)}{fe:Ro->MR}{Q:Option KD×Ro->Prop}(h1:nY tg d=NW ps)(h2:dG ps ρ0=NY/\vP cap ps=NY)(ht:ft (setAll ps ρ0)=NW (NY,setAll ps ρ0))(h:Wp (fe (setAll ps ρ0)) λx=>Q (NW (d9 x.1 x.2.1,x.2.1),clr ps x.2.2)):Wp (fv cap tg ft fe d ρ0) Q:=
 wF h1 h2 ⟨_,ht,λ_=>h,λe=>by cases e⟩
theorem c9{N m k:Nat}{ds:List D}(hl:ds.length=m)(h:Wp (aL Γ N body [] (m3 k (ds.map Gf))) λr=>Wp (gC (NW r)) Q):Wp (bY Γ N m k body ds) Q:=by
 obtain⟨r,er,z,ez,q⟩:=h;exact⟨z,by unfold bY;rw[if_pos hl,er];exact ez,q⟩
theorem tN{N m k:Nat}{ks:List jv}(hl:ks.length=m)(h:Wp (aL Γ N body pn (m3 k ks)) λr=>Wp (kB m pn (NW r)) Q):Wp (jn Γ N m k pn body ks) Q:=by
 obtain⟨r,er,z,ez,q⟩:=h;exact⟨z,by unfold jn;rw[if_pos hl,er];exact ez,q⟩
theorem bw{Q:KD->Prop}(hb:bZ kd=NZ)(q:Q (kd,d)):Wp (gC (NW (.rt kd d ρ))) Q:=⟨_,if_neg (by rw[hb];decide),q⟩
theorem wH{Q:KD->Prop}(q:Q (.sh,.non)):Wp (gC (NW (.nx ρ))) Q:=⟨_,rfl,q⟩
theorem gf{m:Nat}{Q:Kd×D×List (Option jv)->Prop}(hb:bZ kd=NZ)(q:Q (kd,d,outs m pn ρ)):Wp (kB m pn (NW (.rt kd d ρ))) Q:=⟨_,if_neg (by rw[hb];decide),q⟩
end J
namespace J
open PySem PySem.Spec L2
theorem eS{p1:Ow}{p2:D}{o:Option (Option Sl)}{es:List Ow}{r:Ow}{hd:Hd}{ds:List D}{kk:Ow}{d0:D}{P:List Ow->Ow->Hd->List D->Ow->D->Prop}(e1:p1=.own es r)(e2:p2=.nd hd ds)(e3:o=NW (NW ⟨NZ,kk,d0⟩))(h:P es r hd ds kk d0):∃es r hd ds kk d0,p1=.own es r/\p2=.nd hd ds/\o=NW (NW ⟨NZ,kk,d0⟩)/\P es r hd ds kk d0:=⟨es,r,hd,ds,kk,d0,e1,e2,e3,h⟩
theorem m7{Q:Ow×D×(D->D)->Prop}(h:mU Γ b ρ=NW r)(q:Q r):Wp (mU Γ b ρ) Q:=⟨r,h,q⟩
theorem d7{Q:Hd×List D->Prop}(h:fR es k hd ds d x=NW r)(q:Q r):Wp (fR es k hd ds d x) Q:=⟨r,h,q⟩
theorem a8{Q:KD->Prop}(h:g6 k a=NW r)(q:Q r):Wp (g6 k a) Q:=⟨r,h,q⟩
theorem aR{Q:KD->Prop}(h:g7 k a=NW r)(q:Q r):Wp (g7 k a) Q:=⟨r,h,q⟩
theorem qk{r:Bool}{Q:Bool->Prop}(h:u5 d=NW r)(q:Q r):Wp (u5 d) Q:=⟨r,h,q⟩
theorem dw{Q:KD->Prop}{ds:List D}(q:Q (.sh,.int ds.length)):Wp (eW "len" [(k,.nd .lst ds)]) Q:=wx rfl q
end J
namespace J
open PySem PySem.Spec L2
mutual
theorem rX:∀{d:D} {n:Nat},ee n d=NY->(py d).canLay0=NY
 |.non,_,_=>by simp[py,PyData.canLay0]
 |.bl _,_,_=>by simp[py,PyData.canLay0]
 |.int _,_,_=>by simp[py,PyData.canLay0]
 |.str x,_,h=>by simpa[py,PyData.canLay0,ee] using h
 |.scr ns,_,_=>by simpa[py,PyData.canLay0] using(jq ns).1
 |.nd .lst ds,n,h=>by
  simp only[ee,Lj] at h;simpa[py,PyData.canLay0] using kI h.2
 |.nd .tup ds,n,h=>by
  simp only[ee,Lj] at h;simpa[py,PyData.canLay0] using kI h.2
 |.nd (.dic _ _) _,n,h=>by simp[ee] at h
 |.nd (.obj _ _) _,n,h=>by simp[ee] at h
theorem kI:∀{ds:List D} {n:Nat},jT n ds=NY->PyData.canLayAll0 (lB ds)=NY
 |[],_,_=>by simp[lB,PyData.canLayAll0]
 |d::ds,n,h=>by
  simp only[jT,Lj] at h;simp[lB,PyData.canLayAll0,rX h.1,kI h.2]
end
theorem oI{n:Nat}(h:ee n d=NY):nO d d=NY:=by unfold nO;exact PySem.SeqAt.eqv_refl _ (rX h)
theorem eT{n:Nat}:∀{ds:List D},(∀d∈ds,ee n d=NY)->jT n ds=NY
 |[],_=>rfl
 |d::ds,h=>by simp only[jT,Lj];exact⟨h d LC,eT λd hd=>h d (Lu _ hd)⟩
theorem lV{pn fg:List Nat}{fb:Ro->Option Res}(I:Nat->Ro->Prop)(R:Kd->D->Ro->Prop):∀(ds:List D) (j:Nat) (ρ:Ro),I j ρ->(∀(i:Nat) d ρ,ds[i]?=NW d->I (j+i) ρ->∃ps,nY tg d=NW ps/\(ps.all λp=>!pn.contains p.1)=NY/\Wp (fb (setAll ps (clrN fg ρ))) λr=>(∃ρ',(r=.nx ρ'\/r=.ct ρ')/\I (j+i+1) ρ')\/∃k d ρ',r=.rt k d ρ'/\R k d ρ')->
  (∃ρ',c5 pn fg tg fb ds ρ=NW (.nx (clrN fg ρ'))/\I (j+ds.length) ρ')\/∃k d ρ',c5 pn fg tg fb ds ρ=NW (.rt k d ρ')/\R k d ρ'
 |[],j,ρ,h0,_=>.inl ⟨ρ,rfl,h0⟩
 |d::ds,j,ρ,h0,hs=>by
  obtain⟨ps,e1,e2,r,er,hr⟩:=hs 0 d ρ rfl h0;rcases hr with⟨ρ1,hr,h1⟩|⟨k,d',ρ1,rfl,hR⟩
  ·rcases lV I R ds (j+1) ρ1 h1 λi d' ρ' e hI=>(by
    have:=hs (i+1) d' ρ' (by simpa using e) (by rw[show j+(i+1)=j+1+i by lia];exact hI);rw[show j+(i+1)+1=j+1+i+1 by lia] at this;exact this) with⟨ρ2,e3,h2⟩|⟨k,d',ρ2,e3,h2⟩
   ·refine .inl ⟨ρ2,?_,by rw[LW,show j+(ds.length+1)=j+1+ds.length by lia];exact h2⟩;unfold c5;rw[e1];dsimp only;rw[if_pos e2,er];rcases hr with rfl|rfl
    ·exact e3
    ·exact e3
   ·refine .inr ⟨k,d',ρ2,?_,h2⟩;unfold c5;rw[e1];dsimp only;rw[if_pos e2,er];rcases hr with rfl|rfl
    ·exact e3
    ·exact e3
  ·refine .inr ⟨k,d',ρ1,?_,hR⟩;unfold c5;rw[e1];dsimp only;rw[if_pos e2,er]
theorem wJ{Γ:GG}{N:Nat}{pn:List Nat}{ρ:Ro}{Q:Res->Prop}{rest:bW}{fg:List Nat}{tg:IT}{it:MI}{b:bW}(h:Wp (d4 Γ it ρ) λp=>∃(I:Nat->Ro->Prop) (R:Kd->D->Ro->Prop),I 0 (clrN p.1 p.2.2)/\(∀(i:Nat) d ρ,p.2.1[i]?=NW d->I i ρ->∃ps,nY tg d=NW ps/\(ps.all λq=>!(pn++p.1).contains q.1)=NY/\Wp (aL Γ N b (pn++p.1) (setAll ps (clrN fg ρ))) λr=>(∃ρ',(r=.nx ρ'\/r=.ct ρ')/\I (i+1) ρ')\/∃k d ρ',r=.rt k d ρ'/\R k d ρ')/\
  (∀ρ',I p.2.1.length ρ'->Wp (aL Γ N rest pn (uc p.1 p.2.2 (clrN fg ρ'))) Q)/\∀k d ρ',R k d ρ'->bZ k=NZ/\Q (.rt k d (uc p.1 p.2.2 ρ'))):Wp (aL Γ N (.cons (.fo fg tg it b) rest) pn ρ) Q:=by
 obtain⟨⟨bs,ds,ρ0⟩,ep,I,R,h0,hs,hq,hR⟩:=h
 rcases lV (pn:=pn++bs) I R ds 0 (clrN bs ρ0) h0 (λi d ρ e hI=>by
  have:=hs i d ρ e (by simpa using hI);simpa using this) with⟨ρ',e1,h1⟩|⟨k,d,ρ',e1,h1⟩
 ·refine cx ⟨.nx _,?_,br (hq ρ' (by simpa using h1))⟩;rw[p4,ep];show oz bs ρ0 (c5 (pn++bs) fg tg (aL Γ N b (pn++bs)) ds (clrN bs ρ0))=_;rw[e1];rfl
 ·obtain⟨hb,q⟩:=hR k d ρ' h1;refine cx ⟨.rt _ _ _,?_,ge q⟩;rw[p4,ep];show oz bs ρ0 (c5 (pn++bs) fg tg (aL Γ N b (pn++bs)) ds (clrN bs ρ0))=_;rw[e1];exact if_neg (by rw[hb];decide)
end J
section
open PySem L2 J
local macro_rules | `(tactic| walk_at "nm")=>`(tactic| simp only [sY,k4,pC,Ow.ch,List.getD_nil,List.getD_cons_zero,List.getD_cons_succ,LB,List.getElem?_nil,Nf,d9,jQ,qP,Hd.mu,FJ,bZ,m3,DP,DQ,Gf,xv,dL,setAll,clrN,uc,cC,ii,clr,List.foldl,LW,Nk,Mt,Nat.reduceSub,Nat.reduceAdd,MQ,Option.map_none,L1,Option.bind_none,Option.join,List.getElem?_cons_zero,List.getElem?_cons_succ,LJ,MN,List.set_cons_zero,NC,List.set_nil,List.replicate_succ,List.replicate_zero,Ms,List.nil_append,reduceIte,Ml,Int.reduceToNat,Int.reducePow,Int.reduceMul,Int.reduceAdd,Int.reduceSub,Int.reduceNeg,BP.slot,id,true_and])
local macro_rules | `(tactic| walk_at "fsc")=>`(tactic| exact ⟨rfl,rfl,rfl,by decide +kernel,rfl,by decide +kernel,by decide +kernel⟩)
namespace K52
open PySem L2 J
noncomputable def gg(i:Nat):N9:=PySem.Challenge.pw_gatepapers_k52_pairs_found.main.body.getD i (.Pass ⟨0,0,0,0⟩)
noncomputable def fns:Nms:=⟨["bits_of","first_of","all_trials","column_of","column_told","parted","pairs","search","refuse_unlike","refuse_many","key_of","rising_bits","pair_turns","all_turns","trial_bits","_law_next","_law_state","_law_gate","_law_circuit","_law_copied","_law_some","_law_otherwise","_law_changed","_law_values","_law_turn","_law_first","_law_choices","_law_graph","_law_is_bits","_law_due","_law_right","law"],[("MOST_INS",.int 6),("MOST_PAIRS",.int 300)],λl c=>match l,c with|125,21=>NW (.own [] .fz)|133,17=>NW (.own [] .fz)|181,17=>NW (.own [.fz,.fz,.fz,.fz] (.own [] .fz))|183,16=>NW (.own [.fz,.fz,.fz,.fz] .fz)|43,12=>NW (.own [.fz,.fz,.fz,.fz] .fz)|_,_=>NX,λl c=>match l,c with|120,22=>NW NY|120,37=>NW NY|120,49=>NW NY|147,22=>NW NY|147,34=>NW NY|172,11=>NW NY|196,12=>NW NY|196,24=>NW NY|49,24=>NW NY|49,29=>NW NY|54,28=>NW NY|56,18=>NW NY|73,11=>NW NY|82,24=>NW NZ|82,50=>NW NZ|_,_=>NX,λi=>match i with|15=>NW [NY,NZ]|17=>NW [NY,NZ]|18=>NW [NY,NZ]|20=>NW [NY,NZ]|21=>NW [NY,NZ,NZ]|22=>NW [NY,NZ]|_=>NX,λ_ _=>[],[]⟩
noncomputable def an:An:=⟨λl=>match l with|20=>[4]|45=>[6,7,8]|46=>[6,9,7,8]|71=>[4,5,6,7]|78=>[8,9]|105=>[4,5]|113=>[5]|134=>[11]|137=>[13,14,15]|167=>[4,5,6,7,8]|169=>[7,8]|185=>[7,8]|189=>[8,9,10,11,12]|200=>[2]|206=>[4]|217=>[4]|224=>[5,6]|240=>[7]|_=>[],λl=>match l with|136=>[1010]|146=>[16]|164=>[3,4,5]|_=>[],λ_=>NZ,λl=>match l with|59=>NY|61=>NY|64=>NY|_=>NZ⟩
noncomputable abbrev s0:N9:=gg 1
section
local macro_rules | `($a :: $b) => `(.cons $a $b)
noncomputable def b0:bW:=.ret (.p (.comp .fz [NX,NX,NW 0] (.nm 1) (.rng (.lit (.int 0)) (.var 1)) .non (.bin .BitAnd (.bin .RShift (.var 2) (.var 1)) (.lit (.int 1)))))::.nil
theorem KQ:bS fns an 60 ["number","width"] s0=NW b0:=by rfl
theorem KR:aw ["number","width"] ["number","width"] (ah s0):=by walk_at "fsc"
noncomputable abbrev s1:N9:=gg 3
noncomputable def b1:bW:=.ret (.p (.comp .fz [NX,NX,NX] (.tp [.nm 1,.nm 2]) (.e (.ix (.var 0) (.lit (.int 1)))) .non (.var 1)))::.nil
theorem KS:bS fns an 60 ["circuit"] s1=NW b1:=by rfl
theorem KU:aw ["circuit"] ["circuit"] (ah s1):=by walk_at "fsc"
noncomputable abbrev s2:N9:=gg 5
noncomputable def b2:bW:=.ret (.p (.bin .Sub (.bin .LShift (.lit (.int 1)) (.bin .LShift (.lit (.int 1)) (.var 0))) (.lit (.int 1))))::.nil
theorem KW:bS fns an 60 ["many"] s2=NW b2:=by rfl
theorem KY:aw ["many"] ["many"] (ah s2):=by walk_at "fsc"
noncomputable abbrev s3:N9:=gg 6
noncomputable def b3:bW:=.asg 2 (.p (.bin .LShift (.lit (.int 1)) (.var 0)))::.asg 3 (.p (.bin .LShift (.fn 2 (.var 0::.nil)) (.var 2)))::.asg 4 (.p (.bin .Add (.var 2) (.var 2)))::.wh [] (.p (.cmp .Lt (.var 4) (.bin .LShift (.lit (.int 1)) (.var 1)))) (.aug 3 .BitOr (.p (.bin .LShift (.var 3) (.var 4)))::.aug 4 .Add (.p (.var 4))::.nil)::.ret (.p (.var 3))::.nil
noncomputable abbrev Kr:List Str:=["k","many","half","column","wide"]
theorem KZ:bS fns an 60 Kr s3=NW b3:=by rfl
theorem K0:aw Kr ["k","many"] (ah s3):=by walk_at "fsc"
noncomputable abbrev s4:N9:=gg 7
noncomputable def b4:bW:=.asg 3 (.p (.comp .fz [NX,NX,NW 2] (.nm 1) (.e (.fn 0 (.var 0::.bin .LShift (.lit (.int 1)) (.blt "len" (.var 1::.nil))::.nil))) .non (.bin .Mult (.var 2) (.var 1))))::.fo [4] (.nm 4) (.p (.e (.var 1))) (.asg 3 (.p (.comp .fz [NX,NX,NX,NW 4] (.tp [.nm 1,.nm 2]) (.zp (.stp (.var 3) .non (.lit (.int 2))) (.stp (.var 3) (.som (.lit (.int 1))) (.lit (.int 2)))) .non (.bin .BitXor (.var 1) (.bin .BitAnd (.bin .BitXor (.var 1) (.var 2)) (.var 3)))))::.nil)::.ret (.p (.ix (.var 3) (.lit (.int 0))))::.nil
noncomputable abbrev Ks:List Str:=["table","columns","whole","found","column"]
theorem K1:bS fns an 60 Ks s4=NW b4:=by rfl
theorem K2:aw Ks ["table","columns","whole"] (ah s4):=by walk_at "fsc"
noncomputable abbrev s5:N9:=gg 15
noncomputable def b5:bW:=.unp [2,3] (.p (.fn 7 (.var 0::.var 1::.nil)))::.ret (.p (.var 2))::.nil
noncomputable abbrev Ku:List Str:=["one","other","row","found"]
theorem K3:bS fns an 60 Ku s5=NW b5:=by rfl
theorem K4:aw Ku ["one","other"] (ah s5):=by walk_at "fsc"
noncomputable abbrev s6:N9:=gg 16
noncomputable def b6:bW:=.unp [2,3] (.p (.fn 7 (.var 0::.var 1::.nil)))::.ret (.p (.ifx (.cmp .Is (.var 2) (.lit .non)) (.var 3) (.lit .non)))::.nil
noncomputable abbrev Kv:List Str:=["one","other","row","found"]
theorem K5:bS fns an 60 Kv s6=NW b6:=by rfl
theorem K6:aw Kv ["one","other"] (ah s6):=by walk_at "fsc"
noncomputable abbrev s7:N9:=gg 17
noncomputable def b7:bW:=.exp (.p (.fn 8 (.var 0::.var 1::.nil)))::.asg 2 (.p (.lst (.own [] .fz) (.tup .fz (.fn 1 (.var 0::.nil)::.fn 1 (.var 1::.nil)::.nil)::.nil)))::.asg 3 (.p (.lst (.own [] .fz) (.lst (.own [] .fz) .nil::.nil)))::.asg 4 (.p (.dspT 3 (.fn 10 (.ix (.var 2) (.lit (.int 0))::.nil)) (.lit (.bl NY))))::.asg 5 (.p (.lit (.int 0)))::.wh [6,7,8] (.p (.cmp .Lt (.var 5) (.blt "len" (.var 2::.nil)))) (.fo [6,9,7,8] (.tp [.nm 6,.tp [.nm 7,.nm 8]]) (.p (.enm (.fn 12 (.var 0::.var 1::.ix (.var 2) (.var 5)::.nil)))) (.asg 9 (.p (.bin .Add (.ix (.var 3) (.var 5)) (.lst (.own [] .fz) (.fn 11 (.var 6::.ix (.var 0) (.lit (.int 0))::.nil)::.nil))))::.ifs (.p (.not (.var 7))) (.ret (.tup .fz (.mv 9::.fin (.mv 2) .nil))::.nil) .nil::.ifs (.p (.cmp .NotIn (.fn 10 (.var 8::.nil)) (.var 4))) (.exp (.p (.fn 9 (.bin .Add (.blt "len" (.var 2::.nil)) (.lit (.int 1))::.nil)))::.put (.nm 4) (.fn 10 (.var 8::.nil)) (.p (.lit (.bl NY)))::.exp (.mut "append" (.nm 2) (.var 8::.nil))::.exp (.mutM "append" 3 (.mv 9))::.nil) .nil::.nil)::.aug 5 .Add (.p (.lit (.int 1)))::.nil)::.ret (.tup .fz (.p (.lit .non)::.fin (.mv 2) .nil))::.nil
noncomputable abbrev Kw:List Str:=["one","other","found","rows","known","at","number","alike","pair","row"]
theorem K7:bS fns an 60 Kw s7=NW b7:=by rfl
theorem K8:aw Kw ["one","other"] (ah s7):=by walk_at "fsc"
noncomputable abbrev s8:N9:=gg 18
noncomputable def b8:bW:=.ifs (.p (.bool .Or (.cmp .NotEq (.ix (.var 0) (.lit (.int 0))) (.ix (.var 1) (.lit (.int 0)))::.cmp .NotEq (.blt "len" (.ix (.var 0) (.lit (.int 3))::.nil)) (.blt "len" (.ix (.var 1) (.lit (.int 3))::.nil))::.nil))) (.stk::.nil) .nil::.ifs (.p (.cmp .Gt (.ix (.var 0) (.lit (.int 0))) (.lit (.int 6)))) (.stk::.nil) .nil::.nil
theorem K9:bS fns an 60 ["one","other"] s8=NW b8:=by rfl
theorem La:aw ["one","other"] ["one","other"] (ah s8):=by walk_at "fsc"
noncomputable abbrev s9:N9:=gg 19
noncomputable def b9:bW:=.ifs (.p (.cmp .Gt (.var 0) (.lit (.int 300)))) (.stk::.nil) .nil::.nil
theorem Lb:bS fns an 60 ["many"] s9=NW b9:=by rfl
theorem Lc:aw ["many"] ["many"] (ah s9):=by walk_at "fsc"
noncomputable abbrev Hb:N9:=gg 20
noncomputable def I0:bW:=.ret (.p (.tup .fz (.blt "tuple" (.ix (.var 0) (.lit (.int 0))::.nil)::.blt "tuple" (.ix (.var 0) (.lit (.int 1))::.nil)::.nil)))::.nil
theorem I9:bS fns an 60 ["pair"] Hb=NW I0:=by rfl
theorem Ja:aw ["pair"] ["pair"] (ah Hb):=by walk_at "fsc"
noncomputable abbrev Hc:N9:=gg 21
noncomputable def Jb:bW:=.ret (.p (.rev (.fn 0 (.var 0::.var 1::.nil)) (.neg (.lit (.int 1)))))::.nil
theorem Jc:bS fns an 60 ["number","many"] Hc=NW Jb:=by rfl
theorem Jd:aw ["number","many"] ["number","many"] (ah Hc):=by walk_at "fsc"
noncomputable abbrev He:N9:=gg 22
noncomputable def Je:bW:=.asg 3 (.p (.lst (.own [] .fz) .nil))::.fo [4,5,6,7] (.tp [.tp [.nm 4,.nm 5],.tp [.nm 6,.nm 7]]) (.p (.zp (.fn 13 (.var 0::.ix (.var 2) (.lit (.int 0))::.nil)) (.fn 13 (.var 1::.ix (.var 2) (.lit (.int 1))::.nil)))) (.exp (.mut "append" (.nm 3) (.tup .fz (.cmp .Eq (.var 4) (.var 6)::.tup .fz (.var 5::.var 7::.nil)::.nil)::.nil))::.nil)::.ret (.mv 3)::.nil
noncomputable abbrev Gi:List Str:=["one","other","pair","found","outs","after","others","later"]
theorem Jf:bS fns an 60 Gi He=NW Je:=by rfl
theorem Jg:aw Gi ["one","other","pair"] (ah He):=by walk_at "fsc"
noncomputable abbrev s13:N9:=gg 23
noncomputable def Gj:bW:=.unp [2,3,4,5] (.p (.var 0))::.asg 6 (.p (.fn 2 (.var 2::.nil)))::.asg 7 (.p (.bin .Add (.comp .fz [NX,NX,NX,NW 2] (.nm 1) (.rng (.lit (.int 0)) (.var 2)) .non (.fn 3 (.bin .Sub (.bin .Sub (.var 3) (.lit (.int 1))) (.var 1)::.var 3::.nil))) (.comp .fz [NX,NX,NW 6] (.nm 1) (.e (.var 1)) .non (.bin .Mult (.var 2) (.var 1)))))::.fo [8,9] (.tp [.nm 8,.nm 9]) (.p (.e (.var 4))) (.exp (.mut "append" (.nm 7) (.fn 4 (.var 8::.comp .fz [NX,NX,NW 7] (.nm 1) (.e (.var 9)) .non (.ix (.var 2) (.var 1))::.var 6::.nil)::.nil))::.nil)::.asg 10 (.p (.comp .fz [NX,NX,NW 7] (.nm 1) (.e (.var 5)) .non (.ix (.var 2) (.var 1))))::.asg 11 (.p (.comp .fz [NX,NX,NX,NW 7] (.tp [.nm 1,.nm 2]) (.e (.var 3)) .non (.ix (.var 3) (.var 2))))::.ret (.comp .fz [NX,NX,NX,NW 11,NW 10] (.nm 1) (.p (.rng (.lit (.int 0)) (.bin .LShift (.lit (.int 1)) (.var 2)))) .non (.tup .fz (.fn 14 (.fin (.fz 4) (.var 1::.nil))::.fin (.fn 14 (.fin (.fz 3) (.var 1::.nil))) .nil)))::.nil
noncomputable abbrev Gk:List Str:=["circuit","state","ins","memories","gates","outs","whole","columns","table","places","told","afters"]
theorem Jh:bS fns an 60 Gk s13=NW Gj:=by rfl
theorem Ji:aw Gk ["circuit","state"] (ah s13):=by walk_at "fsc"
noncomputable abbrev Hf:N9:=gg 24
noncomputable def Jj:bW:=.ret (.p (.comp .fz [NX,NX,NW 1] (.nm 1) (.e (.var 0)) .non (.bin .BitAnd (.bin .RShift (.var 1) (.var 2)) (.lit (.int 1)))))::.nil
theorem Jk:bS fns an 60 ["columns","number"] Hf=NW Jj:=by rfl
theorem Jl:aw ["columns","number"] ["columns","number"] (ah Hf):=by walk_at "fsc"
noncomputable abbrev Hg:N9:=gg 26
noncomputable def Jm:bW:=.ifs (.p (.cmp .Gt (.blt "len" (.var 0::.nil)) (.lit (.int 1)))) (.asg 2 (.p (.bin .Mod (.ix (.var 0) (.lit (.int 0))) (.var 1)))::.put (.nm 0) (.lit (.int 0)) (.p (.bin .FloorDiv (.ix (.var 0) (.lit (.int 0))) (.var 1)))::.ifs (.p (.cmp .Eq (.ix (.var 0) (.lit (.int 0))) (.lit (.int 0)))) (.exp (.mut "pop" (.nm 0) (.lit (.int 0)::.nil))::.nil) .nil::.ret (.p (.var 2))::.nil) .nil::.put (.nm 0) (.lit (.int 0)) (.p (.bin .Mod (.bin .Add (.bin .Mult (.ix (.var 0) (.lit (.int 0))) (.lit (.int 1181783497276652981))) (.lit (.int 12345678910987))) (.lit (.int 2305843009213693951))))::.ret (.p (.bin .Mod (.bin .FloorDiv (.ix (.var 0) (.lit (.int 0))) (.lit (.int 65537))) (.var 1)))::.nil
noncomputable abbrev Gm:List Str:=["_law_state_here","_law_many","_law_found"]
theorem Jn:bS fns an 60 Gm Hg=NW Jm:=by rfl
theorem Jo:aw Gm ["_law_state_here","_law_many"] (ah Hg):=by walk_at "fsc"
noncomputable abbrev Hh:N9:=gg 27
noncomputable def Jp:bW:=.asg 1 (.p (.lit (.int 1000003)))::.fo [] (.nm 2) (.p (.e (.sl (.var 0) .non (.som (.lit (.int 63)))))) (.asg 1 (.p (.bin .Mod (.bin .Add (.bin .Add (.bin .Mult (.var 1) (.lit (.int 7368787))) (.bin .Mod (.var 2) (.bin .Pow (.lit (.int 10)) (.lit (.int 30))))) (.lit (.int 11))) (.lit (.int 2305843009213693951))))::.nil)::.ret (.p (.bin .Add (.comp .fz [NX,NX,NX] (.nm 1) (.e (.sl (.var 0) .non (.som (.lit (.int 63))))) (.som (.cmp .GtE (.blt "abs" (.var 1::.nil)) (.bin .Pow (.lit (.int 10)) (.lit (.int 18))))) (.blt "abs" (.var 1::.nil))) (.lst (.own [] .fz) (.var 1::.nil))))::.nil
noncomputable abbrev Gn:List Str:=["_law_script","_law_seed","_law_cell"]
theorem Jq:bS fns an 60 Gn Hh=NW Jp:=by rfl
theorem Jr:aw Gn ["_law_script"] (ah Hh):=by walk_at "fsc"
noncomputable abbrev Hj:N9:=gg 28
noncomputable def Go:bW:=.asg 2 (.ix (.p (.lst (.own [] .fz) (.lit (.int 0)::.lit (.int 1)::.lit (.int 1)::.lit (.int 2)::.lit (.int 2)::.lit (.int 2)::.lit (.int 3)::.lit (.int 3)::.nil))::.fin (.io 15 (.ref 0 (.val (.p (.lit (.int 8))) .nil))) .nil))::.ifs (.p (.cmp .Eq (.var 1) (.lit (.int 0)))) (.asg 2 (.p (.lit (.int 0)))::.nil) .nil::.asg 3 (.p (.lst (.own [] .fz) .nil))::.fo [4,5] (.nm 4) (.p (.rng (.lit (.int 0)) (.var 2))) (.asg 5 (.blt "min" (.p (.var 1)::.fin (.ix (.p (.lst (.own [] .fz) (.var 1::.lit (.int 4)::.nil))::.fin (.io 15 (.ref 0 (.val (.p (.lit (.int 2))) .nil))) .nil)) .nil))::.exp (.mutM "append" 3 (.bin .Sub (.p (.bin .Sub (.var 1) (.lit (.int 1)))::.fin (.io 15 (.ref 0 (.val (.p (.var 5)) .nil))) .nil)))::.nil)::.ret (.tup .fz (.fin (.io 15 (.ref 0 (.val (.p (.ix (.lst (.own [] .fz) (.lit (.int 2)::.lit (.int 4)::.lit (.int 16)::.lit (.int 256)::.nil)) (.var 2))) .nil))) (.blt "tuple" (.var 3::.nil)::.nil)))::.nil
noncomputable abbrev Gp:List Str:=["_law_state_here","_law_below","_law_many","_law_places","_law_k","_law_near"]
theorem Js:bS fns an 60 Gp Hj=NW Go:=by rfl
theorem Jt:aw Gp ["_law_state_here","_law_below"] (ah Hj):=by walk_at "fsc"
noncomputable abbrev Hk:N9:=gg 29
noncomputable def Ju:bW:=.asg 2 (.io 15 (.ref 0 (.val (.p (.bin .Add (.ix (.var 1) (.lit (.int 0))) (.lit (.int 1)))) .nil)))::.asg 3 (.io 15 (.ref 0 (.val (.p (.bin .Add (.ix (.var 1) (.lit (.int 1))) (.lit (.int 1)))) .nil)))::.asg 4 (.p (.lst (.own [] .fz) .nil))::.fo [5] (.nm 5) (.rng (.io 15 (.ref 0 (.val (.p (.bin .Add (.ix (.var 1) (.lit (.int 2))) (.lit (.int 1)))) .nil)))) (.exp (.mutM "append" 4 (.io 17 (.ref 0 (.val (.p (.bin .Add (.bin .Add (.var 2) (.var 3)) (.var 5))) .nil))))::.nil)::.asg 6 (.p (.bin .Add (.bin .Add (.var 2) (.var 3)) (.blt "len" (.var 4::.nil))))::.asg 7 (.comp .fz [NX,NX,NX,NW 6,NW 0] (.nm 1) (.p (.rng (.lit (.int 0)) (.var 3))) .non (.tup .fz (.io 15 (.ref 4 (.val (.p (.lit (.int 2))) .nil))::.fin (.io 15 (.ref 4 (.val (.p (.var 3)) .nil))) .nil)))::.asg 8 (.p (.lst (.own [] .fz) .nil))::.ifs (.p (.cmp .Gt (.var 6) (.lit (.int 0)))) (.asg 8 (.comp .fz [NX,NX,NX,NW 6,NW 0] (.nm 1) (.rng (.io 15 (.ref 0 (.val (.p (.bin .Add (.ix (.var 1) (.lit (.int 3))) (.lit (.int 1)))) .nil)))) .non (.io 15 (.ref 4 (.val (.p (.var 3)) .nil))))::.nil) .nil::.ret (.tup .fz (.p (.var 2)::.mv 7::.mv 4::.fin (.mv 8) .nil))::.nil
noncomputable abbrev Gq:List Str:=["_law_state_here","_law_most","_law_ins","_law_many","_law_gates","_law_k","_law_places","_law_memories","_law_outs"]
theorem Jv:bS fns an 60 Gq Hk=NW Ju:=by rfl
theorem Jw:aw Gq ["_law_state_here","_law_most"] (ah Hk):=by walk_at "fsc"
noncomputable abbrev Hl:N9:=gg 30
noncomputable def ud:bW:=.ifs (.p (.isi "list" (.var 0))) (.ret (.p (.comp .fz [NX,NX,NX] (.nm 1) (.e (.var 0)) .non (.fn 19 (.var 1::.nil))))::.nil) .nil::.ifs (.p (.isi "tuple" (.var 0))) (.ret (.p (.blt "tuple" (.comp (.own [] .fz) [NX,NX,NX] (.nm 1) (.e (.var 0)) .non (.fn 19 (.var 1::.nil))::.nil)))::.nil) .nil::.ret (.p (.var 0))::.nil
theorem Jx:bS fns an 60 ["_law_thing"] Hl=NW ud:=by rfl
theorem Jy:aw ["_law_thing"] ["_law_thing"] (ah Hl):=by walk_at "fsc"
noncomputable abbrev Hm:N9:=gg 31
noncomputable def Jz:bW:=.ret (.ix (.p (.var 1)::.fin (.io 15 (.ref 0 (.val (.p (.blt "len" (.var 1::.nil))) .nil))) .nil))::.nil
noncomputable abbrev Gr:List Str:=["_law_state_here","_law_row"]
theorem JA:bS fns an 60 Gr Hm=NW Jz:=by rfl
theorem JB:aw Gr ["_law_state_here","_law_row"] (ah Hm):=by walk_at "fsc"
noncomputable abbrev Hn:N9:=gg 32
noncomputable def Df:bW:=.unp [3,4,5,6] (.p (.var 1))::.asg 8 (.slh (.fin (.comp .fz [NX,NX,NX,NW 0] (.nm 1) (.p (.rng (.lit (.int 0)) (.blt "len" (.var 4::.nil)))) (.som (.cmp .Eq (.fin (.io 15 (.ref 3 (.val (.p (.lit (.int 2))) .nil))) (.lit (.int 0)::.nil)))) (.p (.var 1))) (.var 2::.nil)))::.asg 9 (.p (.bin .Add (.bin .Add (.var 3) (.blt "len" (.var 4::.nil))) (.blt "len" (.var 8::.nil))))::.asg 10 (.p (.comp (.own [] .fz) [NX,NX] (.nm 1) (.rng (.lit (.int 0)) (.bin .Add (.var 3) (.blt "len" (.var 4::.nil)))) .non (.lst (.own [] .fz) (.var 1::.nil))))::.fo [11] (.tp [.nm 11,.nm 7]) (.p (.enm (.var 8))) (.exp (.mut "append" (.ix (.nm 10) (.bin .Add (.var 3) (.var 7))) (.bin .Add (.bin .Add (.var 3) (.blt "len" (.var 4::.nil))) (.var 11)::.nil))::.nil)::.pre [1010] (.asg 12 (.p (.lst (.own [] .fz) .nil)))::.fo [13,14,15] (.tp [.nm 13,.nm 14]) (.p (.e (.var 5))) (.asg 15 (.blt "tuple" (.fin (.comp .fz [NX,NX,NX,NW 10,NW 0] (.nm 1) (.p (.e (.var 14))) .non (.io 20 (.ref 4 (.val (.p (.ix (.var 3) (.var 1))) .nil)))) .nil))::.ifs (.cmp .Eq (.fin (.io 15 (.ref 0 (.val (.p (.lit (.int 3))) .nil))) (.lit (.int 0)::.nil))) (.exp (.mut "append" (.nm 12) (.tup .fz (.bin .Sub (.bin .Sub (.bin .LShift (.lit (.int 1)) (.bin .LShift (.lit (.int 1)) (.blt "len" (.var 14::.nil)))) (.lit (.int 1))) (.var 13)::.var 15::.nil)::.nil))::.exp (.mut "append" (.nm 12) (.tup .fz (.lit (.int 1)::.tup .fz (.bin .Sub (.bin .Add (.var 9) (.blt "len" (.var 12::.nil))) (.lit (.int 1))::.nil)::.nil)::.nil))::.nil) (.exp (.mut "append" (.nm 12) (.tup .fz (.var 13::.var 15::.nil)::.nil))::.nil)::.exp (.mut "append" (.nm 10) (.lst (.own [] .fz) (.bin .Sub (.bin .Add (.var 9) (.blt "len" (.var 12::.nil))) (.lit (.int 1))::.nil)::.nil))::.nil)::.asg 16 (.p (.bin .Add (.lrng (.blt "len" (.var 4::.nil))) (.var 8)))::.pre [16] (.asg 17 (.comp .fz [NX,NX,NX,NW 4,NW 10,NW 0] (.nm 1) (.p (.e (.var 16))) .non (.tup .fz (.p (.ix (.ix (.var 3) (.var 1)) (.lit (.int 0)))::.fin (.io 20 (.ref 5 (.val (.p (.ix (.var 4) (.ix (.ix (.var 3) (.var 1)) (.lit (.int 1))))) .nil))) .nil))))::.ret (.tup .fz (.p (.var 3)::.mv 17::.mv 12::.fin (.comp .fz [NX,NX,NX,NW 10,NW 0] (.nm 1) (.p (.e (.var 6))) .non (.io 20 (.ref 4 (.val (.p (.ix (.var 3) (.var 1))) .nil)))) .nil))::.nil
noncomputable abbrev Gs:List Str:=["_law_state_here","_law_circuit_here","_law_most","_law_ins","_law_memories","_law_gates","_law_outs","_law_k","_law_copies","_law_first_here","_law_spots","_law_at","_law_fresh","_law_table","_law_places","_law_chosen","_law_order","_law_twice"]
theorem JC:bS fns an 60 Gs Hn=NW Df:=by rfl
theorem JD:aw Gs ["_law_state_here","_law_circuit_here","_law_most"] (ah Hn):=by walk_at "fsc"
noncomputable abbrev Ho:N9:=gg 33
noncomputable def Gu:bW:=.unp [2,3,4,5] (.p (.fn 19 (.var 1::.nil)))::.asg 6 (.p (.bin .Add (.bin .Add (.var 2) (.blt "len" (.var 3::.nil))) (.blt "len" (.var 4::.nil))))::.asg 7 (.io 15 (.ref 0 (.val (.p (.lit (.int 4))) .nil)))::.ifs (.p (.bool .And (.cmp .Eq (.var 7) (.lit (.int 0))::.cmp .Gt (.blt "len" (.var 3::.nil)) (.lit (.int 0))::.nil))) (.asg 8 (.io 15 (.ref 0 (.val (.p (.blt "len" (.var 3::.nil))) .nil)))::.put (.nm 3) (.var 8) (.p (.tup .fz (.bin .Sub (.lit (.int 1)) (.ix (.ix (.var 3) (.var 8)) (.lit (.int 0)))::.ix (.ix (.var 3) (.var 8)) (.lit (.int 1))::.nil)))::.nil) (.ifs (.p (.bool .And (.cmp .Eq (.var 7) (.lit (.int 1))::.cmp .Gt (.blt "len" (.var 3::.nil)) (.lit (.int 0))::.nil))) (.asg 8 (.io 15 (.ref 0 (.val (.p (.blt "len" (.var 3::.nil))) .nil)))::.put (.nm 3) (.var 8) (.tup .fz (.p (.ix (.ix (.var 3) (.var 8)) (.lit (.int 0)))::.fin (.io 15 (.ref 0 (.val (.p (.var 6)) .nil))) .nil))::.nil) (.ifs (.p (.bool .And (.cmp .Eq (.var 7) (.lit (.int 2))::.cmp .Gt (.blt "len" (.var 5::.nil)) (.lit (.int 0))::.nil))) (.putM 5 (.io 15 (.ref 0 (.val (.p (.var 6)) .nil))::.fin (.io 15 (.ref 0 (.val (.p (.blt "len" (.var 5::.nil))) .nil))) .nil)::.nil) (.ifs (.p (.cmp .Gt (.blt "len" (.var 4::.nil)) (.lit (.int 0)))) (.asg 8 (.io 15 (.ref 0 (.val (.p (.blt "len" (.var 4::.nil))) .nil)))::.unp [9,10] (.p (.ix (.var 4) (.var 8)))::.put (.nm 4) (.var 8) (.tup .fz (.fin (.bin .BitXor (.p (.var 9)::.fin (.bin .LShift (.p (.lit (.int 1))::.fin (.io 15 (.ref 0 (.val (.p (.bin .LShift (.lit (.int 1)) (.blt "len" (.var 10::.nil)))) .nil))) .nil)) .nil)) (.var 10::.nil)))::.nil) .nil::.nil)::.nil)::.nil)::.pre [3,4,5] (.ret (.p (.tup .fz (.var 2::.var 3::.var 4::.var 5::.nil))))::.nil
noncomputable abbrev Gv:List Str:=["_law_state_here","_law_circuit_here","_law_ins","_law_memories","_law_gates","_law_outs","_law_places","_law_way","_law_k","_law_table","_law_some_here"]
theorem JE:bS fns an 60 Gv Ho=NW Gu:=by rfl
theorem JF:aw Gv ["_law_state_here","_law_circuit_here"] (ah Ho):=by walk_at "fsc"
noncomputable abbrev tz:N9:=gg 34
noncomputable def JG:bW:=.asg 3 (.p (.bin .Add (.blt "list" (.var 2::.nil)) (.blt "list" (.var 1::.nil))))::.fo [4,5,6,7,8] (.tp [.nm 4,.nm 5]) (.p (.e (.ix (.var 0) (.lit (.int 2))))) (.asg 6 (.p (.lit (.int 0)))::.fo [7,8] (.tp [.nm 7,.nm 8]) (.p (.enm (.var 5))) (.asg 6 (.p (.bin .Add (.var 6) (.bin .Mult (.ix (.var 3) (.var 8)) (.ix (.lst (.own [] .fz) (.lit (.int 1)::.lit (.int 2)::.lit (.int 4)::.nil)) (.var 7)))))::.nil)::.exp (.mut "append" (.nm 3) (.bin .BitAnd (.bin .RShift (.var 4) (.var 6)) (.lit (.int 1))::.nil))::.nil)::.ret (.mv 3)::.nil
noncomputable abbrev Gw:List Str:=["_law_circuit_here","_law_state_here","_law_ins","_law_found","_law_table","_law_places","_law_row","_law_k","_law_place"]
theorem JH:bS fns an 60 Gw tz=NW JG:=by rfl
theorem JI:aw Gw ["_law_circuit_here","_law_state_here","_law_ins"] (ah tz):=by walk_at "fsc"
noncomputable abbrev Aq:N9:=gg 35
noncomputable def JJ:bW:=.asg 3 (.p (.fn 23 (.var 0::.var 1::.var 2::.nil)))::.ret (.p (.tup .fz (.comp .fz [NX,NX,NW 3] (.nm 1) (.e (.ix (.var 0) (.lit (.int 3)))) .non (.ix (.var 2) (.var 1))::.blt "tuple" (.comp .fz [NX,NX,NX,NW 3] (.tp [.nm 1,.nm 2]) (.e (.ix (.var 0) (.lit (.int 1)))) .non (.ix (.var 3) (.var 2))::.nil)::.nil)))::.nil
noncomputable abbrev Gx:List Str:=["_law_circuit_here","_law_state_here","_law_ins","_law_found"]
theorem JK:bS fns an 60 Gx Aq=NW JJ:=by rfl
theorem JL:aw Gx ["_law_circuit_here","_law_state_here","_law_ins"] (ah Aq):=by walk_at "fsc"
noncomputable abbrev Hq:N9:=gg 36
noncomputable def JM:bW:=.ret (.p (.blt "tuple" (.comp .fz [NX,NX,NX] (.tp [.nm 1,.nm 2]) (.e (.ix (.var 0) (.lit (.int 1)))) .non (.var 1)::.nil)))::.nil
theorem JN:bS fns an 60 ["_law_circuit_here"] Hq=NW JM:=by rfl
theorem JO:aw ["_law_circuit_here"] ["_law_circuit_here"] (ah Hq):=by walk_at "fsc"
noncomputable abbrev Hr:N9:=gg 37
noncomputable def JP:bW:=.ret (.p (.comp .fz [NX,NX,NX,NW 0] (.nm 1) (.rng (.lit (.int 0)) (.bin .LShift (.lit (.int 1)) (.var 0))) .non (.comp .fz [NX,NX,NW 3,NW 1] (.nm 1) (.rng (.lit (.int 0)) (.var 3)) .non (.bin .BitAnd (.bin .RShift (.var 3) (.bin .Sub (.bin .Sub (.var 2) (.lit (.int 1))) (.var 1))) (.lit (.int 1))))))::.nil
theorem JQ:bS fns an 60 ["_law_many"] Hr=NW JP:=by rfl
theorem JR:aw ["_law_many"] ["_law_many"] (ah Hr):=by walk_at "fsc"
noncomputable abbrev Hs:N9:=gg 38
noncomputable def Gy:bW:=.asg 3 (.p (.dnew 4 (.own [] .fz)))::.asg 4 (.p (.lst (.own [] .fz) (.tup .fz (.fn 25 (.var 0::.nil)::.fn 25 (.var 1::.nil)::.nil)::.nil)))::.asg 5 (.p (.dspT 3 (.ix (.var 4) (.lit (.int 0))) (.lit (.bl NY))))::.asg 6 (.p (.lit (.int 0)))::.wh [7,8] (.p (.cmp .Lt (.var 6) (.blt "len" (.var 4::.nil)))) (.asg 7 (.p (.ix (.var 4) (.var 6)))::.asg 6 (.p (.bin .Add (.var 6) (.lit (.int 1))))::.put (.nm 3) (.var 7) (.p (.lst (.own [] .fz) .nil))::.fo [8,9,10,11,12] (.nm 8) (.p (.e (.var 2))) (.unp [9,10] (.p (.fn 24 (.var 0::.ix (.var 7) (.lit (.int 0))::.var 8::.nil)))::.unp [11,12] (.p (.fn 24 (.var 1::.ix (.var 7) (.lit (.int 1))::.var 8::.nil)))::.exp (.mut "append" (.ix (.nm 3) (.var 7)) (.tup .fz (.cmp .Eq (.var 9) (.var 11)::.tup .fz (.var 10::.var 12::.nil)::.nil)::.nil))::.ifs (.p (.bool .And (.cmp .Eq (.var 9) (.var 11)::.cmp .NotIn (.tup .fz (.var 10::.var 12::.nil)) (.var 5)::.nil))) (.put (.nm 5) (.tup .fz (.var 10::.var 12::.nil)) (.p (.lit (.bl NY)))::.exp (.mut "append" (.nm 4) (.tup .fz (.var 10::.var 12::.nil)::.nil))::.nil) .nil::.nil)::.nil)::.ret (.tup .fz (.mv 4::.fin (.mv 3) .nil))::.nil
noncomputable abbrev Gz:List Str:=["_law_one","_law_other","_law_choices_here","_law_found","_law_order","_law_seen","_law_at","_law_pair","_law_bits","_law_outs","_law_mine","_law_others","_law_theirs"]
theorem JS:bS fns an 60 Gz Hs=NW Gy:=by rfl
theorem JT:aw Gz ["_law_one","_law_other","_law_choices_here"] (ah Hs):=by walk_at "fsc"
noncomputable abbrev Ht:N9:=gg 39
noncomputable def JU:bW:=.ifs (.p (.bool .Or (.not (.isi "list" (.var 0))::.cmp .NotEq (.blt "len" (.var 0::.nil)) (.var 1)::.nil))) (.ret (.p (.lit (.bl NZ)))::.nil) .nil::.fo [2] (.nm 2) (.p (.e (.var 0))) (.ifs (.p (.bool .Or (.not (.isi "int" (.var 2))::.isi "bool" (.var 2)::.not (.chain .LtE .LtE (.lit (.int 0)) (.var 2) (.lit (.int 1)))::.nil))) (.ret (.p (.lit (.bl NZ)))::.nil) .nil::.nil)::.ret (.p (.lit (.bl NY)))::.nil
noncomputable abbrev GA:List Str:=["_law_row","_law_many","_law_bit"]
theorem JV:bS fns an 60 GA Ht=NW JU:=by rfl
theorem JW:aw GA ["_law_row","_law_many"] (ah Ht):=by walk_at "fsc"
noncomputable abbrev Hu:N9:=gg 40
noncomputable def Dg:bW:=.unp [2,3] (.p (.fn 27 (.var 0::.var 1::.fn 26 (.ix (.var 0) (.lit (.int 0))::.nil)::.nil)))::.fo [4] (.nm 4) (.p (.e (.var 2))) (.ifs (.p (.cmp .In (.lit (.bl NZ)) (.comp .fz [NX,NX,NX] (.tp [.nm 1,.nm 2]) (.e (.ix (.var 3) (.var 4))) .non (.var 1)))) (.ret (.p (.lit .non))::.nil) .nil::.nil)::.ret (.p (.comp .fz [NX,NX,NX,NX] (.tp [.nm 1,.nm 2]) (.e (.var 2)) .non (.tup .fz (.blt "list" (.var 1::.nil)::.blt "list" (.var 2::.nil)::.nil))))::.nil
noncomputable abbrev GB:List Str:=["_law_one","_law_other","_law_order","_law_graph_here","_law_pair"]
theorem JX:bS fns an 60 GB Hu=NW Dg:=by rfl
theorem JY:aw GB ["_law_one","_law_other"] (ah Hu):=by walk_at "fsc"
noncomputable abbrev DW:N9:=gg 41
noncomputable abbrev GC:List Str:=["_law_one","_law_other","_law_due_here","_law_found","_law_pair","_law_mine","_law_theirs"]
noncomputable abbrev Dh:Cz:=⟨ah DW,GC,λ_=>NY⟩
noncomputable abbrev t30:List N9:=bA DW
noncomputable abbrev Kx:List N0:=match t30 with|_::.Assign _ (.Call _ as _ _) _::_=>as|_=>[]
noncomputable def AI:bW:=.asg 2 (.p (.fn 29 (.var 0::.var 1::.nil)))::.nil
noncomputable def xx:gJ:=(.fin (.p (.fn 19 (.cons (.var 0) .nil))) (.cons (.fn 19 (.cons (.var 1) .nil)) .nil))
noncomputable def xy:bW:=.ifs (.p (.bool .Or (.cmp .Is (.var 2) (.lit .non)::.cmp .Is (.var 3) (.lit .non)::.nil))) (.ret (.p (.bool .And (.cmp .Is (.var 2) (.lit .non)::.cmp .Is (.var 3) (.lit .non)::.nil)))::.nil) .nil::.ifs (.p (.bool .Or (.not (.isi "list" (.var 3))::.cmp .NotEq (.blt "len" (.var 3::.nil)) (.blt "len" (.var 2::.nil))::.nil))) (.ret (.p (.lit (.bl NZ)))::.nil) .nil::.fo [4] (.nm 4) (.p (.e (.var 3))) (.ifs (.p (.bool .Or (.not (.isi "tuple" (.var 4))::.cmp .NotEq (.blt "len" (.var 4::.nil)) (.lit (.int 2))::.nil))) (.ret (.p (.lit (.bl NZ)))::.nil) .nil::.ifs (.p (.bool .Or (.not (.fn 28 (.ix (.var 4) (.lit (.int 0))::.blt "len" (.ix (.var 0) (.lit (.int 1))::.nil)::.nil))::.not (.fn 28 (.ix (.var 4) (.lit (.int 1))::.blt "len" (.ix (.var 1) (.lit (.int 1))::.nil)::.nil))::.nil))) (.ret (.p (.lit (.bl NZ)))::.nil) .nil::.nil)::.ifs (.p (.cmp .NotEq (.var 3) (.var 2))) (.ret (.p (.lit (.bl NZ)))::.nil) .nil::.nil
noncomputable def Di:bW:=.ret (.p (.cmp .Is (.fn 5 (.var 0::.var 1::.nil)) (.lit .non)))::.nil
theorem JZ:cB fns an 60 Dh 60 (t30.take 1)=NW AI:=by rfl
theorem J1:lK (cM fns 60 Dh) (cE fns 60 Dh) Kx=NW xx:=by rfl
theorem J2:cB fns an 60 Dh 60 ((t30.drop 2).take 4)=NW xy:=by rfl
theorem J3:cB fns an 60 Dh 60 (t30.drop 8)=NW Di:=by rfl
theorem J4:aw GC ["_law_one","_law_other"] (ah DW):=by walk_at "fsc"
noncomputable abbrev wK:N9:=gg 42
noncomputable def Dj:bW:=.asg 1 (.p (.fn 16 (.var 0::.nil)))::.asg 2 (.ix (.p (.lst (.own [] .fz) (.lst (.own [] .fz) (.lit (.int 2)::.lit (.int 2)::.lit (.int 5)::.lit (.int 2)::.nil)::.lst (.own [] .fz) (.lit (.int 5)::.lit (.int 1)::.lit (.int 4)::.lit (.int 3)::.nil)::.lst (.own [] .fz) (.lit (.int 1)::.lit (.int 3)::.lit (.int 5)::.lit (.int 4)::.nil)::.lst (.own [] .fz) (.lit (.int 2)::.lit (.int 2)::.lit (.int 9)::.lit (.int 9)::.nil)::.lst (.own [] .fz) (.lit (.int 6)::.lit (.int 1)::.lit (.int 4)::.lit (.int 8)::.nil)::.nil))::.fin (.io 15 (.ref 1 (.val (.p (.lit (.int 5))) .nil))) .nil))::.asg 3 (.io 18 (.ref 1 (.val (.p (.var 2)) .nil)))::.asg 4 (.ix (.lst (.own [] .fz) (.p (.var 3)::.io 21 (.ref 1 (.val (.p (.var 3)) (.val (.p (.lit (.int 1))) .nil)))::.fin (.io 21 (.ref 1 (.val (.p (.var 3)) (.val (.p (.lit (.int 1))) .nil)))) .nil)::.fin (.io 15 (.ref 1 (.val (.p (.lit (.int 3))) .nil))) .nil))::.ifs (.cmp .Eq (.fin (.io 15 (.ref 1 (.val (.p (.lit (.int 4))) .nil))) (.lit (.int 0)::.nil))) (.asg 4 (.io 22 (.ref 1 (.val (.p (.var 4)) .nil)))::.nil) .nil::.asg 5 (.io 18 (.ref 1 (.val (.p (.lst (.own [] .fz) (.lit (.int 1)::.lit (.int 2)::.lit (.int 4)::.lit (.int 1)::.nil))) .nil)))::.ifs (.cmp .Eq (.fin (.io 15 (.ref 1 (.val (.p (.lit (.int 2))) .nil))) (.lit (.int 0)::.nil))) (.par 3 4 (.var 4::.var 3::.nil)::.nil) .nil::.asg 6 (.p (.fn 19 (.tup .fz (.var 3::.var 4::.var 5::.nil)::.nil)))::.fo [7] (.nm 7) (.p (.rng (.lit (.int 0)) (.lit (.int 2)))) (.ifs (.p (.bool .Or (.not (.fn 30 (.var 3::.var 4::.nil))::.not (.fn 30 (.var 5::.var 5::.nil))::.nil))) (.ret (.p (.lit (.bl NZ)))::.nil) .nil::.nil)::.ret (.p (.cmp .Eq (.tup .fz (.var 3::.var 4::.var 5::.nil)) (.var 6)))::.nil
end
noncomputable abbrev GD:List Str:=["_law_script","_law_state_here","_law_sizes","_law_one","_law_other","_law_third","_law_kept","_law_again"]
theorem J5:bS fns an 60 GD wK=NW Dj:=by rfl
theorem J6:aw GD ["_law_script"] (ah wK):=by walk_at "fsc"
noncomputable def Γ0:GG:=⟨λ_=>NX,λ_=>NX⟩
noncomputable def ψ0:Fn:=bY Γ0 1000 2 2 b0
noncomputable def Γ_0:GG:=Γ0.addI 0 ψ0
noncomputable def ψ1:Fn:=bY Γ_0 1000 1 1 b1
noncomputable def Γ_1:GG:=Γ_0.addI 1 ψ1
noncomputable def ψ2:Fn:=bY Γ_1 1000 1 1 b2
noncomputable def Γ_2:GG:=Γ_1.addI 2 ψ2
noncomputable def ψ3:Fn:=bY Γ_2 1000 2 5 b3
noncomputable def Γ_3:GG:=Γ_2.addI 3 ψ3
noncomputable def ψ4:Fn:=bY Γ_3 1000 3 5 b4
noncomputable def Γ_4:GG:=Γ_3.addI 4 ψ4
noncomputable def ψ8:Fn:=bY Γ_4 1000 2 2 b8
noncomputable def Γ_8:GG:=Γ_4.addI 8 ψ8
noncomputable def ψ9:Fn:=bY Γ_8 1000 1 1 b9
noncomputable def Γ_9:GG:=Γ_8.addI 9 ψ9
noncomputable def Dk:Fn:=bY Γ_9 1000 1 1 I0
noncomputable def Γ_10:GG:=Γ_9.addI 10 Dk
noncomputable def GE:Fn:=bY Γ_10 1000 2 2 Jb
noncomputable def Γ_11:GG:=Γ_10.addI 11 GE
noncomputable def AJ:Fn:=bY Γ_11 1000 2 2 Jj
noncomputable def Γ_14:GG:=Γ_11.addI 14 AJ
noncomputable def DX:Fn:=bY Γ_14 1000 2 12 Gj
noncomputable def Γ_13:GG:=Γ_14.addI 13 DX
noncomputable def GF:Fn:=bY Γ_13 1000 3 8 Je
noncomputable def Γ_12:GG:=Γ_13.addI 12 GF
noncomputable def ψ7:Fn:=bY Γ_12 1000 2 10 b7
noncomputable def Γ_7:GG:=Γ_12.addI 7 ψ7
noncomputable def ψ5:Fn:=bY Γ_7 1000 2 4 b5
noncomputable def Γ_5:GG:=Γ_7.addI 5 ψ5
noncomputable def ψ6:Fn:=bY Γ_5 1000 2 4 b6
noncomputable def Γ_6:GG:=Γ_5.addI 6 ψ6
noncomputable def DY:Fm:=jn Γ_6 1000 2 3 [0] Jm
noncomputable def Γ_15:GG:=Γ_6.addM 15 DY
noncomputable def GH:Fn:=bY Γ_15 1000 1 3 Jp
noncomputable def Γ_16:GG:=Γ_15.addI 16 GH
noncomputable def GI:Fm:=jn Γ_16 1000 2 6 [0] Go
noncomputable def Γ_17:GG:=Γ_16.addM 17 GI
noncomputable def DZ:Fm:=jn Γ_17 1000 2 9 [0] Ju
noncomputable def Γ_18:GG:=Γ_17.addM 18 DZ
noncomputable def D0:Fn:=recI Γ_18 19 1000 1 1 ud 40
noncomputable def Γ_19:GG:=Γ_18.addI 19 D0
noncomputable def Dl:Fm:=jn Γ_19 1000 2 2 [0] Jz
noncomputable def Γ_20:GG:=Γ_19.addM 20 Dl
noncomputable def GJ:Fm:=jn Γ_20 1000 3 18 [0] Df
noncomputable def Γ_21:GG:=Γ_20.addM 21 GJ
noncomputable def GK:Fm:=jn Γ_21 1000 2 11 [0] Gu
noncomputable def Γ_22:GG:=Γ_21.addM 22 GK
noncomputable def GL:Fn:=bY Γ_22 1000 3 9 JG
noncomputable def Γ_23:GG:=Γ_22.addI 23 GL
noncomputable def D2:Fn:=bY Γ_23 1000 3 4 JJ
noncomputable def Γ_24:GG:=Γ_23.addI 24 D2
noncomputable def D3:Fn:=bY Γ_24 1000 1 1 JM
noncomputable def Γ_25:GG:=Γ_24.addI 25 D3
noncomputable def GM:Fn:=bY Γ_25 1000 1 1 JP
noncomputable def Γ_26:GG:=Γ_25.addI 26 GM
noncomputable def D4:Fn:=bY Γ_26 1000 3 13 Gy
noncomputable def Γ_27:GG:=Γ_26.addI 27 D4
noncomputable def D5:Fn:=bY Γ_27 1000 2 3 JU
noncomputable def Γ_28:GG:=Γ_27.addI 28 D5
noncomputable def AK:Fn:=bY Γ_28 1000 2 5 Dg
noncomputable def Γ_29:GG:=Γ_28.addI 29 AK
noncomputable def wL:Ro->Option Res:=λρ=>je (aL Γ_29 1000 AI [] ρ) λρ=>je (mW [] [0,1] 7 3 (NW ψ6) mX (aU Γ_29 xx ρ) (aL Γ_29 1000 xy [3,0,1])) (aL Γ_29 1000 Di [])
noncomputable def GN:Fn:=wn wL 2 7
noncomputable def zq:GG:=Γ_29.addI 30 GN
noncomputable def GO:Fn:=bY zq 1000 1 8 Dj
noncomputable abbrev k0:Ow:=.own [] .fz
structure Ci where
 ins:Nat
 mems:List (Bool×Nat)
 gates:List (Nat×List Nat)
 outs:List Nat
noncomputable abbrev iD(n:Nat):D:=.int (n:Int)
noncomputable abbrev bD(b:Bool):D:=.int (b.toNat:Int)
noncomputable def a6(m:Bool×Nat):D:=.tup [bD m.1,iD m.2]
noncomputable def aJ(g:Nat×List Nat):D:=.tup [iD g.1,.tup (g.2.map iD)]
noncomputable def cD(c:Ci):D:=.tup [iD c.ins,.lst (c.mems.map a6),.lst (c.gates.map aJ),.lst (c.outs.map iD)]
noncomputable def Ci.n(c:Ci):Nat:=c.ins+c.mems.length+c.gates.length
noncomputable def GOk(n:Nat)(gs:List (Nat×List Nat)):Prop:=∀(k:Nat) g,gs[k]?=NW g->g.2.length<=3/\g.1<2^2^g.2.length/\∀p∈g.2,p<n+k
structure Ok(c:Ci):Prop where
 g:GOk (c.ins+c.mems.length) c.gates
 m:∀m∈c.mems,m.2<c.n
 o:∀o∈c.outs,o<c.n
 bi:c.ins<=6
 bm:c.mems.length<=100
 bg:c.gates.length<=100
 bo:c.outs.length<=100
noncomputable def dA:List Bool->Nat
 |[]=>0
 |b::bs=>b.toNat+2*dA bs
noncomputable def dh(vs:List Bool)(g:Nat×List Nat):List Bool:=vs++[g.1.testBit (dA (g.2.map λp=>vs.getD p NZ))]
noncomputable def vals(c:Ci)(st ins:List Bool):List Bool:=c.gates.foldl dh (ins++st)
noncomputable def bI(c:Ci)(st ins:List Bool):List Bool:=c.outs.map λp=>(vals c st ins).getD p NZ
noncomputable def nextOf(c:Ci)(st ins:List Bool):List Bool:=c.mems.map λm=>(vals c st ins).getD m.2 NZ
noncomputable def fN(c:Ci):List Bool:=c.mems.map (·.1)
noncomputable def rb(n i:Nat):List Bool:=(Ln n).map λk=>i.testBit (n-1-k)
theorem ql:∀(gs:List (Nat×List Nat)) (vs:List Bool),(gs.foldl dh vs).length=vs.length+gs.length
 |[],vs=>rfl
 |g::gs,vs=>by rw[List.foldl_cons,ql gs];simp[dh];lia
theorem wM{c:Ci}{st ins:List Bool}(h1:st.length=c.mems.length)(h2:ins.length=c.ins):(vals c st ins).length=c.n:=by
 unfold vals Ci.n;rw[ql,LZ];lia
theorem wN{n i:Nat}:(rb n i).length=n:=by simp[rb]
theorem iW:∀(bs:List Bool) (b:Bool),dA (bs++[b])=dA bs+2^bs.length*b.toNat
 |[],b=>by simp[dA]
 |a::bs,b=>by
  simp only[Ms,dA,iW bs b,LW,MV,Nat.mul_add];rw[Nat.mul_comm (2^bs.length) 2,Ny];lia
theorem rY(a b:Nat):Builtin.bitAnd (a:Int) b=((a &&& b:Nat):Int):=by
 rw[PyProof.Rows.bitAnd_pp (by lia) (by lia)];rfl
theorem zr:∀a b:Nat,a+b=(a ^^^ b)+2*(a &&& b):=by
 intro a
 induction a using Nat.strongRecOn with
 |ind a ih=>
  intro b;by_cases h0:a=0
  ·subst h0;simp
  have:=ih (a / 2) (by lia) (b / 2);rw[<- Nat.xor_div_two,<- Nat.and_div_two] at this;have h1:(a &&& b)%2=1↔a%2=1/\b%2=1:=Nat.and_mod_two_eq_one;have h2:(a ^^^ b)%2=1↔¬(a%2=1↔b%2=1):=Nat.xor_mod_two_eq_one
  lia
theorem zt(a b:Nat):Builtin.bitXor (a:Int) b=((a ^^^ b:Nat):Int):=by
 rw[PyProof.Rows.bitXor_and,rY];have:=zr a b
 lia
theorem zu(a i:Nat):Builtin.bitAnd ((a:Int) / 2^i) 1=((a.testBit i).toNat:Int):=by
 rw[PyProof.Rows.bitAnd_m1,Nat.testBit_eq_decide_div_mod_eq];have:(a:Int) / 2^i=((a / 2^i:Nat):Int):=by simp
 rw[this];rcases Nat.mod_two_eq_zero_or_one (a / 2^i) with h|h
 ·rw[decide_eq_false (by lia)];show _=((0:Nat):Int);lia
 ·rw[decide_eq_true h];show _=((1:Nat):Int);lia
theorem zw(a b x i:Nat):(a ^^^ ((a ^^^ b) &&& x)).testBit i=if x.testBit i=NY then b.testBit i else a.testBit i:=by
 rw[Nat.testBit_xor,Nat.testBit_and,Nat.testBit_xor]
 cases a.testBit i<;>cases b.testBit i<;>cases x.testBit i<;>rfl
noncomputable abbrev W(n:Nat):Nat:=2^2^n-1
noncomputable def xz(n x:Nat)(b:Nat->Bool):Prop:=x<2^2^n/\∀i,i<2^n->x.testBit i=b i
theorem wP(n:Nat)(b:Bool):xz n (W n*b.toNat) λ_=>b:=by
 have hp:0<2^2^n:=MD _
 cases b with
 |false=>exact⟨by simpa using hp,λi _=>by simp⟩
 |true=>exact⟨by simp[W];lia,λi hi=>by simp[W,Nat.testBit_two_pow_sub_one,hi]⟩
noncomputable def tO(n t s m:Nat)(bs:Nat->List Bool)(L:List Nat):Prop:=L.length=2^m/\∀(j:Nat) x,L[j]?=NW x->xz n x λi=>t.testBit (dA (bs i)+2^s*j)
theorem GP(n t m:Nat):tO n t 0 m (λ_=>[]) ((Ln (2^m)).map λj=>W n*(t.testBit j).toNat):=by
 refine⟨by simp,λj x h=>?_⟩;rw[Ll] at h
 cases e:(Ln (2^m))[j]? with
 |none=>rw[e] at h;cases h
 |some k=>
  rw[e] at h;cases h;have hj:=(Lk.mp e).1;rw[Lz] at hj;rw[LQ hj] at e;cases e;have:=wP n (t.testBit j);refine⟨this.1,λi hi=>?_⟩;rw[this.2 i hi];simp[dA]
theorem tP{n t s m x:Nat}{bs:Nat->List Bool}{L:List Nat}(h:tO n t s (m+1) bs L)(hs:∀i,(bs i).length=s)(hx:xz n x b):tO n t (s+1) m (λi=>bs i++[b i]) ((Ln (2^m)).map λj=>L.getD (2*j) 0 ^^^ ((L.getD (2*j) 0 ^^^ L.getD (2*j+1) 0) &&& x)):=by
 refine⟨by simp,λj y hy=>?_⟩;rw[Ll] at hy
 cases e:(Ln (2^m))[j]? with
 |none=>rw[e] at hy;cases hy
 |some k=>
  rw[e] at hy;cases hy;have hj:=(Lk.mp e).1;rw[Lz] at hj;rw[LQ hj] at e;cases e;have hl:=h.1;rw[MV] at hl;have e0:L[2*j]?=NW (L.getD (2*j) 0):=by rw[LB,Lm (by lia)];rfl
  have e1:L[2*j+1]?=NW (L.getD (2*j+1) 0):=by rw[LB,Lm (by lia)];rfl
  have c0:=h.2 _ _ e0;have c1:=h.2 _ _ e1;refine⟨ND c0.1 (Nat.and_lt_two_pow _ hx.1),λi hi=>?_⟩;show _=t.testBit (dA (bs i++[b i])+2^(s+1)*j);rw[zw,hx.2 i hi,c0.2 i hi,c1.2 i hi,iW,hs i]
  cases b i with
  |true=>
   rw[if_pos rfl];refine congrArg t.testBit ?_;show _=dA (bs i)+2^s*1+2^(s+1)*j;rw[MV,Nat.mul_add,Ny];lia
  |false=>
   rw[if_neg (by decide)];refine congrArg t.testBit ?_;show _=dA (bs i)+2^s*0+2^(s+1)*j;rw[MV,Ny];lia
theorem wQ{n t s:Nat}{bs:Nat->List Bool}(h:tO n t s 0 bs L):∃x,L=[x]/\xz n x λi=>t.testBit (dA (bs i)):=by
 have hl:L.length=1:=h.1
 match L,hl with
 |[x],_=>exact⟨x,rfl,by simpa using h.2 0 x rfl⟩
noncomputable def qm(n:Nat)(vs:Nat->List Bool)(cs:List Nat):Prop:=(∀i,(vs i).length=cs.length)/\∀(p:Nat) x,cs[p]?=NW x->xz n x λi=>(vs i).getD p NZ
theorem tQ{n x:Nat}{vs:Nat->List Bool}{cs:List Nat}{g:Nat×List Nat}(h:qm n vs cs)(hx:xz n x λi=>g.1.testBit (dA (g.2.map λp=>(vs i).getD p NZ))):qm n (λi=>dh (vs i) g) (cs++[x]):=by
 refine⟨λi=>by simp[dh,h.1 i],λp y hy=>?_⟩;by_cases hp:p<cs.length
 ·rw[LP hp] at hy;have:=h.2 p y hy;refine⟨this.1,λi hi=>?_⟩;rw[this.2 i hi];simp only[dh,LB];rw[LP (by rw[h.1 i];exact hp)]
 ·have hp':p=cs.length:=by
   have:=(Lk.mp hy).1;simp at this;lia
  subst hp';rw[LS (Lo _),Mt] at hy;cases hy;refine⟨hx.1,λi hi=>?_⟩;rw[hx.2 i hi];simp only[dh,LB];rw[LS (by rw[h.1 i];exact Lo _),h.1 i,Mt];rfl
noncomputable def kJ(k n:Nat):Nat:=(Ln (2^n)).foldl (λa i=>if i.testBit k then a+2^i else a) 0
theorem zx:∀n,n<=6->∀k,k<n->kJ k n<2^2^n/\∀i,i<2^n->(kJ k n).testBit i=i.testBit k:=by decide +kernel
theorem GQ{n:Nat}(hn:n<=6)(st:List Bool):qm n (λi=>rb n i++st) ((Ln n).map (λk=>kJ (n-1-k) n)++st.map λb=>W n*b.toNat):=by
 refine⟨λi=>by simp[rb],λp x hx=>?_⟩;by_cases hp:p<n
 ·rw[LP (by simpa using hp),Ll,LQ hp] at hx;cases hx;have:=zx n hn (n-1-p) (by lia);refine⟨this.1,λi hi=>?_⟩;show _=(rb n i++st).getD p NZ;rw[this.2 i hi,LB,LP (by simpa[rb] using hp)];unfold rb;rw[Ll,LQ hp];rfl
 ·rw[LS (by simp;lia),Ll] at hx;simp only[Li,Lz] at hx
  cases e:st[p-n]? with
  |none=>rw[e] at hx;cases hx
  |some b=>
   rw[e] at hx;cases hx;have:=wP n b;refine⟨this.1,λi hi=>?_⟩;show _=(rb n i++st).getD p NZ;rw[this.2 i hi,LB,LS (by simp[rb];lia)];simp only[rb,Li,Lz];rw[e];rfl
theorem bQ(h:Wp φ λx=>x=r):φ=NW r:=by obtain⟨x,e,rfl⟩:=h;exact e
theorem iX{α:Type}{a:Option α}{r:α}{Q:α->Prop}(h:Wp a λx=>x=r)(q:Q r):Wp a Q:=h.mono λx e=>by subst e;exact q
section
variable {Γ:GG} {N:Nat} {pn:List Nat} {ρ:Ro} {Q:Res->Prop} {rest:bW}
theorem bE(h:Wp (aL Γ N rest pn ρ) Q):Wp (aL Γ N .nil pn ρ) (Kt Γ N rest pn Q):=aM (br h)
theorem bh{z:Bool}(h:Wp (bp Γ.fn t ρ) λr=>r=z)(h1:z=NY->Wp (aL Γ N a pn ρ) (Kt Γ N rest pn Q))(h2:z=NZ->Wp (aL Γ N b pn ρ) (Kt Γ N rest pn Q)):Wp (aL Γ N (.cons (.ifs (.p t) a b) rest) pn ρ) Q:=
 rW (rV (h.mono λx hx=>by subst hx;exact⟨h1,h2⟩))
end
section
variable {Γ:Nat->Option Fn} {ρ:Ro} {Q:KD->Prop} {k k':Kd}
theorem qo{a b:Nat}(q:Q (.sh,iD (a ^^^ b))):Wp (ef .BitXor (k,iD a) (k',iD b)) Q:=⟨(.sh,.int (Builtin.bitXor a b)),rfl,by rw[zt];exact q⟩
theorem Dm{a b:Nat}(q:Q (.sh,iD (a &&& b))):Wp (ef .BitAnd (k,iD a) (k',iD b)) Q:=⟨(.sh,.int (Builtin.bitAnd a b)),rfl,by rw[rY];exact q⟩
theorem m8{x i:Nat}(ha:Wp (ak Γ a ρ) λy=>y.2=iD x)(hb:Wp (ak Γ b ρ) λy=>y.2=iD i)(q:Q (.sh,bD (x.testBit i))):Wp (ak Γ (.bin .BitAnd (.bin .RShift a b) (.lit (.int 1))) ρ) Q:=by
 refine aj (aj (ha.mono λy hy=>hb.mono λz hz=>?_));obtain⟨ky,dy⟩:=y;obtain⟨kz,dz⟩:=z;cases(show dy=_ from hy);cases(show dz=_ from hz);refine Db (by lia) (af ⟨(.sh,.int (Builtin.bitAnd ((x:Int) / 2^((i:Int)).toNat) 1)),rfl,?_⟩);rw[show((i:Int)).toNat=i from LN i,zu];exact q
theorem Do{α:Type}{f:α->D}{l:List α}{ys:List D}(hl:ys.length=l.length)(h:∀(i:Nat) y,ys[i]?=NW y->∃a,l[i]?=NW a/\y=f a):ys=l.map f:=by
 refine NM λi=>?_;rw[Ll]
 cases e:ys[i]? with
 |none=>
  have:l[i]?=NX:=LY (by have:=List.getElem?_eq_none_iff.mp e;lia);rw[this];rfl
 |some y=>
  obtain⟨a,e1,rfl⟩:=h i y e;rw[e1];rfl
theorem rZ{α:Type}{l:List α}{f g:α->D}{r:Ow}{fe:D->Option (Option KD)}(h:∀a∈l,Wp (fe (f a)) λo=>∃kd,o=NW (kd,g a)/\cy r (kd,g a)=NY):Wp (ba r fe (l.map f)) λys=>ys=l.map g:=by
 refine IZ (λj y=>∃a,l[j]?=NW a/\y=g a) (λj d hd=>?_) λys hy hp=>Do (by rw[hy,Li]) hp;rw[Ll] at hd
 cases e:l[j]? with
 |none=>rw[e] at hd;cases hd
 |some a=>
  rw[e] at hd;cases hd;exact(h a (LD e)).mono λo ⟨kd,e1,e2⟩=>⟨_,e1,e2,a,rfl,rfl⟩
theorem cW(n:Nat):cY 0 n=(Ln n).map iD:=by
 unfold cY;rw[NB,LN];exact Mg λk _=>by rw[NE]
theorem iY{α:Type}{l:List α}{f g:α->D}{hd:Hd}{r:Ow}{cap:List (Option Nat)}{tg:IT}{a elt:IE}(hh:hd=.lst\/hd=.tup)(ha:Wp (ak Γ a ρ) λx=>gm x.1 (l.map f)=NY/\x.2=.nd hd (l.map f))(hl:l.length<=100000)
  (h:∀a∈l,Wp (eL tg (eC Γ .non) (ak Γ elt) (cC ρ cap) (f a)) λo=>∃kd,o=NW (kd,g a)/\cy r (kd,g a)=NY) (q:Q (.fr (.own [] r),.lst (l.map g))):Wp (ak Γ (.comp r cap tg (.e a) .non elt) ρ) Q:=by
 refine jB (fS (ha.mono λx hx=>?_));obtain⟨kx,dx⟩:=x;obtain⟨h1,h2⟩:=hx;cases(show dx=_ from h2);rcases hh with rfl|rfl
 ·exact cw h1 ⟨by simpa using hl,iX (rZ h) q⟩
 ·exact wC h1 ⟨by simpa using hl,iX (rZ h) q⟩
theorem wR{n:Nat}{g:Nat->D}{r:Ow}{cap:List (Option Nat)}{tg:IT}{a elt:IE}(ha:Wp (ak Γ a ρ) λx=>x.2=iD n)(hn:n<=100000)
  (h:∀i,i<n->Wp (eL tg (eC Γ .non) (ak Γ elt) (cC ρ cap) (iD i)) λo=>∃kd,o=NW (kd,g i)/\cy r (kd,g i)=NY) (q:Q (.fr (.own [] r),.lst ((Ln n).map g))):Wp (ak Γ (.comp r cap tg (.rng (.lit (.int 0)) a) .non elt) ρ) Q:=by
 refine jB (gG (af (ha.mono λx hx=>?_)));obtain⟨kx,dx⟩:=x;cases(show dx=_ from hx);refine fA (cn (by lia) (by lia) (by lia) (by lia) (by lia)) ⟨?_,?_⟩
 ·show(cY 0 (n:Int)).length<=_;rw[cW,Li,Lz];exact hn
 ·show Wp (ba r _ (cY 0 (n:Int))) _;rw[cW];exact iX (rZ λi hi=>h i (Mq.mp hi)) q
theorem ue{fe:Ro->Option KD}{Q:Option KD->Prop}(hn:dG [(1,d)] ρ0=NY)(h:Wp (fe (setAll [(1,d)] ρ0)) λx=>Q (NW x)):Wp (eL (.nm 1) (eC Γ .non) fe ρ0 d) Q:=wD (ps:=[(1,d)]) rfl hn rfl h
theorem Dp{a b:D}{fe:Ro->Option KD}{ρ0:Ro}{Q:Option KD->Prop}(hn:dG [(1,a),(2,b)] ρ0=NY)(h:Wp (fe (setAll [(1,a),(2,b)] ρ0)) λx=>Q (NW x)):Wp (eL (.tp [.nm 1,.nm 2]) (eC Γ .non) fe ρ0 (.tup [a,b])) Q:=wD (ps:=[(1,a),(2,b)]) rfl hn rfl h
theorem am{xs:List D}{n:Nat}{z:Int}(hh:hd=.lst\/hd=.tup)(hz:z=n)(hd':xs[n]?=NW d)(q:Q (pC k n,d)):Wp (qS (NW (k,.nd hd xs)) (NW (k',.int z))) Q:=by
 subst hz;have hl:=(Lk.mp hd').1;rcases hh with rfl|rfl
 ·exact Dc (n:=n) (by rw[iq (by lia) (by lia)];rfl) hd' q
 ·exact Dd (n:=n) (by rw[iq (by lia) (by lia)];rfl) hd' q
end
theorem r6(a:Nat){w:Nat}(hw:w<=1000):ψ0 [iD a,iD w]=NW (.fr k0,.lst ((Ln w).map λk=>bD (a.testBit k))):=by
 unfold ψ0;refine bQ (c9 rfl ?_);unfold b0
 walk_at "nm"
 exact aW (au (wR (n:=w) (ad rfl rfl) (by lia) (λi hi=>ue rfl (m8 (x:=a) (i:=i) (ad rfl rfl) (ad rfl rfl) ⟨_,rfl,rfl⟩)) ⟨rfl,bw rfl rfl⟩))
theorem kK{α:Type}(l:List α)(f:α->Bool):l.map (λx=>bD (f x))=(l.map f).map bD:=by rw[LO];rfl
theorem oJ{c:Ci}(h:Ok c):ψ1 [cD c]=NW (.fr k0,.lst ((fN c).map bD)):=by
 unfold ψ1;refine bQ (c9 rfl ?_);unfold b1
 walk_at "nm"
 have hm:=h.bm;refine aW (au (iY (l:=c.mems) (f:=a6) (g:=λm=>bD m.1) (.inl rfl) (aH (ad rfl (af (am (n:=1) (.inr rfl) rfl rfl ⟨rfl,rfl⟩)))) (by lia) (λm _=>Dp rfl (ad rfl ⟨_,rfl,rfl⟩)) ⟨rfl,bw rfl ?_⟩));rw[kK];rfl
theorem tR{n:Nat}(hn:n<=6):ψ2 [iD n]=NW (.sh,iD (W n)):=by
 unfold ψ2;refine bQ (c9 rfl ?_);unfold b2
 walk_at "nm"
 have h1:(1:Int)*2^((n:Int)).toNat=((2^n:Nat):Int):=by rw[LN];simp
 have h2:2^n<=64:=LR (n:=2) (by decide) hn;have h3:0<=(1:Int)*2^((n:Int)).toNat/\(1:Int)*2^((n:Int)).toNat<=1000000:=by rw[h1];clear h1;generalize 2^n=p at h2;lia
 refine aW (au (aj (aj (af (aj (af (ad rfl (eO ⟨by lia,by lia,by decide⟩ (eO ⟨h3.1,h3.2,by decide⟩ (af (cL ⟨rfl,bw rfl ?_⟩)))))))))));rw[h1,LN];have:0<2^2^n:=MD _;show(Kd.sh,D.int _)=(Kd.sh,D.int _);congr 2;rw[Int.one_mul,show((2:Int)^2^n)=((2^2^n:Nat):Int) by simp,Int.ofNat_sub (by lia)];rfl
noncomputable def qp:List (Nat×Nat):=[(0,1),(0,2),(1,2),(0,3),(1,3),(2,3),(0,4),(1,4),(2,4),(3,4),(0,5),(1,5),(2,5),(3,5),(4,5),(0,6),(1,6),(2,6),(3,6),(4,6),(5,6)]
theorem tS:∀n,n<=6->∀k,k<n->(k,n)∈qp:=by decide +kernel
theorem qr:∀p∈qp,ψ3 [iD p.1,iD p.2]=NW (.sh,iD (kJ p.1 p.2)):=by
 intro p hp;simp only[qp,Lq,L7,or_false] at hp
 rcases hp with rfl|rfl|rfl|rfl|rfl|rfl|rfl|rfl|rfl|rfl|rfl|rfl|rfl|rfl|rfl|rfl|rfl|rfl|rfl|rfl|rfl<;>kernel_rfl
theorem tT{k n:Nat}(hn:n<=6)(hk:k<n):ψ3 [iD k,iD n]=NW (.sh,iD (kJ k n)):=qr _ (tS n hn k hk)
theorem GR:G.i7 2 NX (NW 2)=[0]/\G.i7 2 (NW 1) (NW 2)=[1]:=by decide +kernel
theorem GS:G.i7 4 NX (NW 2)=[0,2]/\G.i7 4 (NW 1) (NW 2)=[1,3]:=by decide +kernel
theorem GU:G.i7 8 NX (NW 2)=[0,2,4,6]/\G.i7 8 (NW 1) (NW 2)=[1,3,5,7]:=by decide +kernel
theorem AL{z:Int}{Q:KD->Prop}(h:gm k xs=NY/\1<=z)(q:Q (.fr bv,.lst (G.cz xs l (NW z)))):Wp (tf (NW (k,.nd .lst xs)) (NW l) (NW (k',.int z))) Q:=⟨_,if_pos h,q⟩
theorem wS:∀{L:List Nat} {m:Nat},m<=2->L.length=2^(m+1)->nW (NW (.fr bv,.lst (G.cz (L.map iD) NX (NW 2)))) (NW (.fr bv,.lst (G.cz (L.map iD) (NW 1) (NW 2))))=NW ([],(Ln (2^m)).map λj=>D.tup [iD (L.getD (2*j) 0),iD (L.getD (2*j+1) 0)]):=by
 intro L m hm hl
 match m,hm with
 |0,_=>
  match L,hl with
  |[a,b],_=>
   unfold G.cz;rw[show(L4 iD [a,b]).length=2 from rfl,GR.1,GR.2];rfl
 |1,_=>
  match L,hl with
  |[a,b,c,d],_=>
   unfold G.cz;rw[show(L4 iD [a,b,c,d]).length=4 from rfl,GS.1,GS.2];rfl
 |2,_=>
  match L,hl with
  |[a,b,c,d,e,f,g,h],_=>
   unfold G.cz;rw[show(L4 iD [a,b,c,d,e,f,g,h]).length=8 from rfl,GU.1,GU.2];rfl
theorem AM{n:Nat}(hn:n<=6):((W n:Nat):Int).natAbs<lim:=by
 have:2^n<=64:=LR (n:=2) (by decide) hn;have:W n<2^64:=Lr (Nat.sub_lt (MD _) (by decide)) (LR (by decide) this);rw[NF];exact MG this (by unfold lim;decide)
theorem zy{n t:Nat}{xs:List Nat}{bs:Nat->List Bool}(hn:n<=6)(hl:xs.length<=3)(hb:∀i,(bs i).length=xs.length)(hx:∀(j:Nat) x,xs[j]?=NW x->xz n x λi=>(bs i).getD j NZ) :
  ∃y,ψ4 [iD t,.lst (xs.map iD),iD (W n)]=NW (.sh,iD y)/\xz n y λi=>t.testBit (dA (bs i)):=by
 suffices h:Wp (ψ4 [iD t,.lst (xs.map iD),iD (W n)]) λr=>∃y,r=(.sh,iD y)/\xz n y λi=>t.testBit (dA (bs i)) by
  obtain⟨r,e,y,rfl,hy⟩:=h;exact⟨y,e,hy⟩
 unfold ψ4;refine c9 rfl ?_;unfold b4
 walk_at "nm"
 have hp:2^xs.length<=8:=LR (n:=2) (by decide) hl;have h1:(1:Int)*2^(((xs.map iD).length:Int)).toNat=((2^xs.length:Nat):Int):=by rw[LN,Li];simp
 refine aI (au (iY (l:=Ln (2^xs.length)) (f:=λj=>bD (t.testBit j)) (g:=λj=>iD (W n*(t.testBit j).toNat)) (.inl rfl) (bX (φ:=ψ0) rfl (ae (ad rfl (ae (aj (af (bx (ae (ad rfl (ag (dw (eO ⟨by lia,by rw[Li];lia,by decide⟩ (ag (bP ?_)))))))))))))) (by simp;lia) (λj _=>ue rfl (aj (ad rfl (ad rfl (kC ⟨AM hn,?_⟩ ⟨.sh,?_,rfl⟩))))) ⟨⟨rfl,by decide⟩,?_⟩))
 ·show Wp (ψ0 [iD t,.int ((1:Int)*2^(((xs.map iD).length:Int)).toNat)]) _;rw[h1];exact⟨_,r6 t (by lia),rfl,.inl rfl,rfl,rfl⟩
 ·cases t.testBit j<;>decide
 ·show NW (Kd.sh,D.int _)=NW (Kd.sh,D.int _);rw[Int.natCast_mul]
 show Wp (aL _ _ _ _ [NW ⟨NZ,.fz,iD t⟩,NW ⟨NZ,.fz,.lst (xs.map iD)⟩,NW ⟨NZ,.fz,iD (W n)⟩,NW ⟨NZ,k0,.lst ((Ln (2^xs.length)).map λj=>iD (W n*(t.testBit j).toNat))⟩,NX]) _;refine dN (bU (fS (ad rfl (cw rfl ⟨λs ρ=>s<=xs.length/\∃L x4,ρ=[NW ⟨NZ,.fz,iD t⟩,NW ⟨NZ,.fz,.lst (xs.map iD)⟩,NW ⟨NZ,.fz,iD (W n)⟩,NW ⟨NZ,k0,.lst (L.map iD)⟩,x4]/\tO n t s (xs.length-s) (λi=>(bs i).take s) L,⟨LF _,_,NX,?_,GP n t xs.length⟩,λs d ρ hd hI=>?_,λρ hI=>?_⟩))))
 ·rw[LO];rfl
 ·obtain⟨hs,L,x4,rfl,hT⟩:=hI;have hd:(xs.map iD)[s]?=NW d:=hd;rw[Ll] at hd
  cases e:xs[s]? with
  |none=>rw[e] at hd;cases hd
  |some x=>
   rw[e] at hd;cases hd;have hs':=(Lk.mp e).1;obtain⟨m,hm⟩:∃m,xs.length-s=m+1:=⟨xs.length-s-1,by lia⟩;rw[hm] at hT;refine⟨[(4,iD x)],rfl,rfl,?_⟩;show Wp (aL _ _ _ [] [NW ⟨NZ,.fz,iD t⟩,NW ⟨NZ,.fz,.lst (xs.map iD)⟩,NW ⟨NZ,.fz,iD (W n)⟩,NW ⟨NZ,k0,.lst (L.map iD)⟩,NW ⟨NZ,.fz,iD x⟩]) _;have hz:=wS (L:=L) (m:=m) (by lia) hT.1;have hst:=tP hT (λi=>by rw[LU,hb i];lia) (hx s x e);refine aI (au (jB (wt (wo (ad rfl (qf (af (AL ⟨rfl,by decide⟩ (wo (ad rfl (wq (af ⟨1,rfl,af (AL ⟨rfl,by decide⟩ ⟨_,hz,?_⟩)⟩))))))))))));have h2m:2^m<=8:=LR (n:=2) (by decide) (show m<=3 by lia);refine⟨by simp;lia,iX (rZ (g:=λj=>iD (L.getD (2*j) 0 ^^^ ((L.getD (2*j) 0 ^^^ L.getD (2*j+1) 0) &&& x))) λj _=>Dp rfl (aj (ad rfl (aj (aj (ad rfl (ad rfl (qo (ad rfl (Dm (qo ⟨_,rfl,rfl⟩))))))))))) ⟨⟨rfl,by decide⟩,aM ⟨_,.inl rfl,by lia,(Ln (2^m)).map (λj=>L.getD (2*j) 0 ^^^ ((L.getD (2*j) 0 ^^^ L.getD (2*j+1) 0) &&& x)),NW ⟨NZ,.fz,iD x⟩,?_,?_⟩⟩⟩
   ·rw[LO];rfl
   ·rw[show xs.length-(s+1)=m by lia]
    have:∀i,(bs i).take (s+1)=(bs i).take s++[(bs i).getD s NZ]:=λi=>by
     rw[L9,LB,Lm (by rw[hb i];exact hs')];rfl
    simp only[this];exact hst
 ·obtain⟨hs,L,x4,rfl,hT⟩:=hI;have hlen:(xs.map iD).length=xs.length:=Li _;have hT:tO n t (xs.map iD).length (xs.length-(xs.map iD).length) (λi=>(bs i).take (xs.map iD).length) L:=hT;rw[hlen,Mt] at hT;obtain⟨y,rfl,hy⟩:=wQ hT;have:∀i,(bs i).take xs.length=bs i:=λi=>by rw[<- hb i];exact Ma
  simp only[this] at hy;refine aW (au (aH (ad rfl (af (am (n:=0) (.inl rfl) rfl rfl ⟨rfl,bw rfl ⟨y,rfl,hy⟩⟩)))))
theorem oK{cs:List Nat}(hl:cs.length<=1000)(i:Nat):AJ [.lst (cs.map iD),iD i]=NW (.fr k0,.lst (cs.map λx=>bD (x.testBit i))):=by
 unfold AJ;refine bQ (c9 rfl ?_);unfold Jj
 walk_at "nm"
 exact aW (au (iY (l:=cs) (f:=iD) (.inl rfl) (ad rfl ⟨rfl,rfl⟩) (by lia) (λx _=>ue rfl (m8 (x:=x) (i:=i) (ad rfl rfl) (ad rfl rfl) ⟨_,rfl,rfl⟩)) ⟨rfl,bw rfl rfl⟩))
theorem zA{n:Nat}{vs:Nat->List Bool}{cs:List Nat}(h:qm n vs cs){ps:List Nat}(hp:∀p∈ps,p<cs.length):(∀i,(ps.map λp=>(vs i).getD p NZ).length=(ps.map λp=>cs.getD p 0).length)/\∀(j:Nat) x,(ps.map λp=>cs.getD p 0)[j]?=NW x->xz n x λi=>(ps.map λp=>(vs i).getD p NZ).getD j NZ:=by
 refine⟨λi=>by simp,λj x hx=>?_⟩;rw[Ll] at hx
 cases e:ps[j]? with
 |none=>rw[e] at hx;cases hx
 |some p=>
  rw[e] at hx;cases hx;have hl:=hp p (LD e);have:=h.2 p (cs.getD p 0) (by rw[LB,Lm hl];rfl);refine⟨this.1,λi hi=>?_⟩;rw[this.2 i hi];simp[e]
theorem r8{cs:List Nat}{p:Nat}(h:p<cs.length):(cs.map iD)[p]?=NW (iD (cs.getD p 0)):=by
 rw[Ll,LB,Lm h];rfl
noncomputable def fB(c:Ci)(st:List Bool)(i:Nat):D:=.tup [.lst ((bI c st (rb c.ins i)).map bD),.lst ((nextOf c st (rb c.ins i)).map bD)]
theorem oM{c:Ci}{st:List Bool}(h:Ok c)(hs:st.length=c.mems.length):DX [cD c,.lst (st.map bD)]=NW (.fr k0,.lst ((Ln (2^c.ins)).map (fB c st))):=by
 have h2:2^c.ins<=64:=LR (n:=2) (by decide) h.bi;have hi:=h.bi;have hm:=h.bm;have hg:=h.bg;have ho:=h.bo
 have tail:∀(cs:List Nat) (x8 x9:Option Sl),qm c.ins (λi=>vals c st (rb c.ins i)) cs->cs.length=c.n->Wp (aL Γ_14 1000 (match Gj with|.cons _ (.cons _ (.cons _ (.cons _ r)))=>r|r=>r) [] [NW ⟨NZ,.fz,cD c⟩,NW ⟨NZ,.fz,.lst (st.map bD)⟩,NW ⟨NZ,.fz,iD c.ins⟩,NW ⟨NZ,.fz,.lst (c.mems.map a6)⟩,NW ⟨NZ,.fz,.lst (c.gates.map aJ)⟩,NW ⟨NZ,.fz,.lst (c.outs.map iD)⟩,NW ⟨NZ,.fz,iD (W c.ins)⟩,NW ⟨NZ,k0,.lst (cs.map iD)⟩,x8,x9,NX,NX]) λr=>Wp (gC (NW r)) λx=>x=(.fr k0,.lst ((Ln (2^c.ins)).map (fB c st))):=by
  intro cs x8 x9 hC hl;unfold Gj;have hn:c.n<=300:=by unfold Ci.n;lia
  have h1:(1:Int)*2^((c.ins:Int)).toNat=((2^c.ins:Nat):Int):=by rw[LN];simp
  refine aI (au (iY (l:=c.outs) (f:=iD) (g:=λo=>iD (cs.getD o 0)) (.inl rfl) (ad rfl ⟨rfl,rfl⟩) (by lia) (λo ho=>ue rfl (aH (ad rfl (ad rfl (am (n:=o) (.inl rfl) rfl (r8 (by rw[hl];exact h.o o ho)) ⟨_,rfl,rfl⟩))))) ⟨⟨rfl,by decide⟩,?_⟩));refine aI (au (iY (l:=c.mems) (f:=a6) (g:=λm=>iD (cs.getD m.2 0)) (.inl rfl) (ad rfl ⟨rfl,rfl⟩) (by lia) (λm hm=>Dp rfl (aH (ad rfl (ad rfl (am (n:=m.2) (.inl rfl) rfl (r8 (by rw[hl];exact h.m m hm)) ⟨_,rfl,rfl⟩))))) ⟨⟨rfl,by decide⟩,?_⟩));refine aW (eP (bU (gG (af (aj (af (ad rfl (eO ⟨by lia,by lia,by decide⟩ ?_))))))));rw[h1];have hlen:(cY 0 ((2^c.ins:Nat):Int)).length=2^c.ins:=by rw[cW,Li,Lz]
  generalize hp:2^c.ins=p at *;refine fA (cn (by lia) (by lia) (by lia) (by lia) (by lia)) ⟨rfl,by show(cY 0 (p:Int)).length<=100000;lia,?_⟩;show Wp (aK .fz _ (cY 0 (p:Int)) [NX,NX,NX,NW ⟨NZ,k0,.lst (c.mems.map λm=>iD (cs.getD m.2 0))⟩,NW ⟨NZ,k0,.lst (c.outs.map λo=>iD (cs.getD o 0))⟩]) _;refine oH (λj ys ρ=>ys=(Ln j).map (fB c st)/\∃k k',ρ=[NX,NX,NX,NW ⟨NZ,k,.lst (c.mems.map λm=>iD (cs.getD m.2 0))⟩,NW ⟨NZ,k',.lst (c.outs.map λo=>iD (cs.getD o 0))⟩]) ⟨rfl,_,_,rfl⟩ (λj d ys ρ hd hI=>?_) λys ρ hI=>?_
  ·obtain⟨rfl,hj⟩:=iu hd;obtain⟨rfl,k,k',rfl⟩:=hI;rw[NE] at hj⊢;have hj:j<2^c.ins:=by lia
   have e1:AJ [.lst (c.outs.map λo=>iD (cs.getD o 0)),iD j]=NW (.fr k0,.lst ((bI c st (rb c.ins j)).map bD)):=by
    have:=oK (cs:=c.outs.map λo=>cs.getD o 0) (by simp;lia) j;rw[LO] at this;refine this.trans ?_;unfold bI;rw[LO,LO];congr 3;refine Mg λo ho=>?_;show bD _=bD _;rw[(hC.2 o (cs.getD o 0) (by rw[LB,Lm (by rw[hl];exact h.o o ho)];rfl)).2 j hj]
   have e2:AJ [.lst (c.mems.map λm=>iD (cs.getD m.2 0)),iD j]=NW (.fr k0,.lst ((nextOf c st (rb c.ins j)).map bD)):=by
    have:=oK (cs:=c.mems.map λm=>cs.getD m.2 0) (by simp;lia) j;rw[LO] at this;refine this.trans ?_;unfold nextOf;rw[LO,LO];congr 3;refine Mg λm hm=>?_;show bD _=bD _;rw[(hC.2 m.2 (cs.getD m.2 0) (by rw[LB,Lm (by rw[hl];exact h.m m hm)];rfl)).2 j hj]
   refine kH (ps:=[(1,iD j)]) rfl ⟨rfl,rfl⟩ rfl (cN (aN (AH (φ:=AJ) rfl (aQ (wz rfl (ae (ad rfl (ag (bP ⟨_,e1,rfl,.inl rfl,rfl,aQ (AH (φ:=AJ) rfl (aQ (wz rfl (ae (ad rfl (ag (bP ⟨_,e2,rfl,.inl rfl,ag (aR rfl ⟨_,rfl,rfl,?_,_,_,rfl⟩)⟩)))))))⟩)))))))));rw[MB,Lw];rfl
  ·obtain⟨rfl,k,k',rfl⟩:=hI;refine⟨rfl,rfl,bw rfl ?_⟩;show(_,D.lst ((Ln (cY 0 (p:Int)).length).map _))=_;rw[hlen];rfl
 unfold DX;refine bQ (c9 rfl ?_);unfold Gj at tail⊢
 walk_at "nm"
 refine eR (au (ad rfl ⟨_,_,_,rfl,rfl,⟨rfl,rfl⟩,?_⟩));show Wp (aL _ _ _ _ [NW ⟨NZ,.fz,cD c⟩,NW ⟨NZ,.fz,.lst (st.map bD)⟩,NW ⟨NZ,.fz,iD c.ins⟩,NW ⟨NZ,.fz,.lst (c.mems.map a6)⟩,NW ⟨NZ,.fz,.lst (c.gates.map aJ)⟩,NW ⟨NZ,.fz,.lst (c.outs.map iD)⟩,NX,NX,NX,NX,NX,NX]) _;refine aI (au (bX (φ:=ψ2) rfl (ae (ad rfl (ag (bP ⟨_,tR hi,rfl,.inl rfl,⟨rfl,by decide⟩,?_⟩))))));refine aI (au (aj (wR (n:=c.ins) (g:=λk=>iD (kJ (c.ins-1-k) c.ins)) (ad rfl rfl) (by lia) (λk hk=>ue rfl (bX (φ:=ψ3) rfl (ae (aj (aj (ad rfl (af (cL (ad rfl (cL (ae (ad rfl (ag (bP ?_)))))))))))))) (iY (l:=st) (f:=bD) (g:=λb=>iD (W c.ins*b.toNat)) (.inl rfl) (ad rfl ⟨rfl,rfl⟩) (by lia) (λb _=>ue rfl (aj (ad rfl (ad rfl (kC ⟨AM hi,?_⟩ ⟨.sh,?_,rfl⟩))))) (kF ⟨rfl,rfl,by simp;lia⟩ ⟨⟨rfl,by decide⟩,?_⟩)))))
 ·refine⟨(.sh,iD (kJ (c.ins-1-k) c.ins)),?_,rfl,.inl rfl,.sh,rfl,rfl⟩;show ψ3 [.int ((c.ins:Int)-1-k),iD c.ins]=_;rw[show(c.ins:Int)-1-k=((c.ins-1-k:Nat):Int) by lia];exact tT hi (by lia)
 ·cases b<;>decide
 ·show NW (Kd.sh,D.int _)=NW (Kd.sh,D.int _);rw[Int.natCast_mul]
 have hC0:=GQ hi st;have hl0:((Ln c.ins).map (λk=>kJ (c.ins-1-k) c.ins)++st.map λb=>W c.ins*b.toNat).length=c.ins+c.mems.length:=by simp[hs]
 have he0:((Ln c.ins).map λk=>iD (kJ (c.ins-1-k) c.ins))++(st.map λb=>iD (W c.ins*b.toNat))=((Ln c.ins).map (λk=>kJ (c.ins-1-k) c.ins)++st.map λb=>W c.ins*b.toNat).map iD:=by rw[Lw,LO,LO];rfl
 rw[he0];generalize (Ln c.ins).map (λk=>kJ (c.ins-1-k) c.ins)++(st.map λb=>W c.ins*b.toNat)=cs0 at *;show Wp (aL _ _ _ _ [NW ⟨NZ,.fz,cD c⟩,NW ⟨NZ,.fz,.lst (st.map bD)⟩,NW ⟨NZ,.fz,iD c.ins⟩,NW ⟨NZ,.fz,.lst (c.mems.map a6)⟩,NW ⟨NZ,.fz,.lst (c.gates.map aJ)⟩,NW ⟨NZ,.fz,.lst (c.outs.map iD)⟩,NW ⟨NZ,.fz,iD (W c.ins)⟩,NW ⟨NZ,k0,.lst (cs0.map iD)⟩,NX,NX,NX,NX]) _;refine dN (bU (fS (ad rfl (cw rfl ⟨λs ρ=>∃cs x8 x9,ρ=[NW ⟨NZ,.fz,cD c⟩,NW ⟨NZ,.fz,.lst (st.map bD)⟩,NW ⟨NZ,.fz,iD c.ins⟩,NW ⟨NZ,.fz,.lst (c.mems.map a6)⟩,NW ⟨NZ,.fz,.lst (c.gates.map aJ)⟩,NW ⟨NZ,.fz,.lst (c.outs.map iD)⟩,NW ⟨NZ,.fz,iD (W c.ins)⟩,NW ⟨NZ,k0,.lst (cs.map iD)⟩,x8,x9,NX,NX]/\cs.length=c.ins+c.mems.length+s/\qm c.ins (λi=>(c.gates.take s).foldl dh (rb c.ins i++st)) cs,⟨cs0,NX,NX,rfl,hl0,hC0⟩,λs d ρ hd hI=>?_,λρ hI=>?_⟩))))
 ·obtain⟨cs,x8,x9,rfl,hl,hC⟩:=hI;have hd:(c.gates.map aJ)[s]?=NW d:=hd;rw[Ll] at hd
  cases e:c.gates[s]? with
  |none=>rw[e] at hd;cases hd
  |some g=>
   rw[e] at hd;cases hd;obtain⟨g1,g2,g3⟩:=h.g s g e;have hs':=(Lk.mp e).1;have hpk:=zA hC (ps:=g.2) λp hp=>by rw[hl];exact g3 p hp
   obtain⟨y,ey,hy⟩:=zy (t:=g.1) hi (by simpa using g1) hpk.1 hpk.2;refine⟨[(8,iD g.1),(9,.tup (g.2.map iD))],rfl,rfl,?_⟩;show Wp (aL _ _ _ [] [NW ⟨NZ,.fz,cD c⟩,NW ⟨NZ,.fz,.lst (st.map bD)⟩,NW ⟨NZ,.fz,iD c.ins⟩,NW ⟨NZ,.fz,.lst (c.mems.map a6)⟩,NW ⟨NZ,.fz,.lst (c.gates.map aJ)⟩,NW ⟨NZ,.fz,.lst (c.outs.map iD)⟩,NW ⟨NZ,.fz,iD (W c.ins)⟩,NW ⟨NZ,k0,.lst (cs.map iD)⟩,NW ⟨NZ,.fz,iD g.1⟩,NW ⟨NZ,.fz,.tup (g.2.map iD)⟩,NX,NX]) _;rw[LO] at ey;refine cG (cV (bX (φ:=ψ4) rfl (ae (ad rfl (ae (iY (l:=g.2) (f:=iD) (g:=λp=>iD (cs.getD p 0)) (.inr rfl) (ad rfl ⟨rfl,rfl⟩) (by lia) (λp hp=>ue rfl (aH (ad rfl (ad rfl (am (n:=p) (.inl rfl) rfl (r8 (by rw[hl];exact g3 p hp)) ⟨_,rfl,rfl⟩))))) (ae (ad rfl (ag (bP ⟨_,ey,rfl,.inl rfl,[],.fz,_,rfl,⟨by simp,rfl,by rw[Li];lia⟩,aM ⟨_,.inl rfl,cs++[y],NW ⟨NZ,.fz,iD g.1⟩,NW ⟨NZ,.fz,.tup (g.2.map iD)⟩,?_,by simp;lia,?_⟩⟩))))))))))
   ·rw[Lw];rfl
   ·have:∀vs,(c.gates.take (s+1)).foldl dh vs=dh ((c.gates.take s).foldl dh vs) g:=λvs=>by
     rw[L9,e,Nc];rfl
    simp only[this];exact tQ hC hy
 ·obtain⟨cs,x8,x9,rfl,hl,hC⟩:=hI;have hl:cs.length=c.ins+c.mems.length+(c.gates.map aJ).length:=hl;have hC:qm c.ins (λi=>(c.gates.take (c.gates.map aJ).length).foldl dh (rb c.ins i++st)) cs:=hC;rw[Li] at hl hC;rw[Ma] at hC;exact tail cs NX NX hC hl
section
variable {Γ:Nat->Option Fn} {ρ:Ro} {Q:KD->Prop}
theorem Dq(h:Wp (ak Γ a ρ) λx=>Wp (ak Γ b ρ) λy=>Wp (pG (NW x) (NW y)) Q):Wp (ak Γ (.rev a b) ρ) Q:=by
 obtain⟨x,ex,y,ey,z,ez,q⟩:=h;exact⟨z,by rw[yD,ex,ey];exact ez,q⟩
theorem J7{xs:List D}(h:gm k xs=NY)(q:Q (.fr bv,.lst xs.reverse)):Wp (pG (NW (k,.nd .lst xs)) (NW (k',.int (-1)))) Q:=⟨_,if_pos ⟨rfl,h⟩,q⟩
theorem Dr{i:Int}(h:Wp (ak Γ a ρ) λx=>x.2=.int i)(q:Q (.sh,.int (-i))):Wp (ak Γ (.neg a) ρ) Q:=by
 obtain⟨⟨k,d⟩,e,hd⟩:=h;cases(show d=_ from hd);exact⟨_,by rw[yA,e];rfl,q⟩
theorem r9{m:Nat}(h:Wp (ak Γ k ρ) λx=>Wp (ak Γ a ρ) λy=>Wp (i8 m (NW x) (NW y)) Q):Wp (ak Γ (.dspT m k a) ρ) Q:=by
 obtain⟨x,ex,y,ey,z,ez,q⟩:=h;exact⟨z,by rw[vA,ex,ey];exact ez,q⟩
end
theorem AN:∀x y:List Bool,PyData.eqvAll (lB (x.map bD)) (lB (y.map bD))=decide (x=y)
 |[],[]=>by simp[lB,PyData.eqvAll]
 |[],_::_=>by simp[lB,PyData.eqvAll]
 |_::_,[]=>by simp[lB,PyData.eqvAll]
 |a::x,b::y=>by
  have:=AN x y;simp only[LJ,lB,PyData.eqvAll,this,py,PyData.eqv]
  cases a<;>cases b<;>simp
theorem GV(x y:List Bool):nO (.lst (x.map bD)) (.lst (y.map bD))=decide (x=y):=by
 unfold nO;simp only[py,PyData.eqv];exact AN x y
theorem sd(n:Nat)(x:List Bool):ee (n+1) (.lst (x.map bD))=NY:=by
 simp only[ee,Lj,decide_eq_true_eq];refine⟨by lia,eT λd hd=>?_⟩;obtain⟨b,_,rfl⟩:=LX.mp hd;rfl
theorem qt{x y:List Bool}{T:Bool->Prop}(q:T (decide (x=y))):Wp (bR .Eq (.lst (x.map bD)) (.lst (y.map bD))) T:=qh ⟨sd _ _,sd _ _⟩ (by rw[GV];exact q)
noncomputable abbrev P:=List Bool×List Bool
noncomputable def aF(p:P):D:=.tup [.lst (p.1.map bD),.lst (p.2.map bD)]
noncomputable def aT(p:P):D:=.tup [.tup (p.1.map bD),.tup (p.2.map bD)]
noncomputable def bK(b:Bool):aV:=.inl (b.toNat:Int)
noncomputable def pk(p:P):DK:=.inr [.inr (p.1.map bK),.inr (p.2.map bK)]
noncomputable def AO(a b:Ci)(p:P)(x:List Bool):Bool:=decide (bI a p.1 x=bI b p.2 x)
noncomputable def sg(a b:Ci)(p:P)(x:List Bool):P:=(nextOf a p.1 x,nextOf b p.2 x)
theorem qu:∀{x y:List Bool},x.map bK=y.map bK->x=y
 |[],[],_=>rfl
 |a::x,b::y,h=>by
  simp only[LJ,List.cons.injEq] at h
  have:a=b:=by
   have:=h.1;simp only[bK,Sum.inl.injEq] at this
   cases a<;>cases b<;>first|rfl|exact absurd this (by decide)
  rw[this,qu h.2]
 |[],_::_,h=>by simp at h
 |_::_,[],h=>by simp at h
theorem wU(h:pk p=pk q):p=q:=by
 unfold pk at h;simp only[Sum.inr.injEq,List.cons.injEq] at h;exact Prod.ext (qu h.1) (qu h.2.1)
theorem wV:∀x:List Bool,ff (x.map bD)=NW (x.map bK)
 |[]=>rfl
 |a::x=>by simp only[LJ,ff,wV x];rfl
theorem gH(p:P):gp (aT p)=NW (pk p):=by
 show(jU [.tup (p.1.map bD),.tup (p.2.map bD)]).map Sum.inr=_;simp only[jU,yb,wV,MQ];rfl
theorem kM(fs:List P)(p:P):(a9 (fs.map pk) (pk p)).isSome=decide (p∈fs):=by
 unfold a9;rw[Nx,List.any_map,Bool.eq_iff_iff];simp only[List.any_eq_true,Function.comp,decide_eq_true_eq];exact⟨λ⟨q,hq,e⟩=>wU e▸hq,λh=>⟨p,h,rfl⟩⟩
theorem Ds(n i:Nat):((Ln n).map λk=>bD (i.testBit k)).reverse=(rb n i).map bD:=by
 refine NM λj=>?_;by_cases hj:j<n
 ·rw[List.getElem?_reverse (by simpa using hj)];simp only[Li,Lz,rb,LO];rw[Ll,Ll,LQ hj,LQ (by lia)];rfl
 ·rw[LY (by simp;lia),LY (by simp[rb];lia)]
theorem tU{n:Nat}(hn:n<=6)(i:Nat):GE [iD i,iD n]=NW (.fr k0,.lst ((rb n i).map bD)):=by
 unfold GE;refine bQ (c9 rfl ?_);unfold Jb
 walk_at "nm"
 refine aW (au (Dq (bX (φ:=ψ0) rfl (ae (ad rfl (ae (ad rfl (ag (bP ⟨_,r6 i (w:=n) (by lia),rfl,.inl rfl,Dr (i:=1) (af rfl) (J7 rfl ⟨rfl,bw rfl ?_⟩)⟩)))))))));rw[Ds];rfl
theorem wX(p:P):Dk [aF p]=NW (.sh,aT p):=by
 unfold Dk;refine bQ (c9 rfl ?_);unfold I0
 walk_at "nm"
 exact aW (au (bC (ae (bx (ae (aH (ad rfl (af (am (n:=0) (.inr rfl) rfl rfl (ag (c7 rfl (ae (bx (ae (aH (ad rfl (af (am (n:=1) (.inr rfl) rfl rfl (ag (c7 rfl (ag (aR rfl ⟨rfl,bw rfl rfl⟩))))))))))))))))))))))
theorem zB{n:Nat}(hn:n<=300):ψ9 [iD n]=NW (.sh,.non):=by
 unfold ψ9;refine bQ (c9 rfl ?_);unfold b9
 walk_at "nm"
 refine bh (z:=NZ) (aP (ad rfl (af (f8 (decide_eq_false (by lia)))))) (λe=>by cases e) λ_=>bE (aM (wH rfl))
theorem tV{a b:Ci}(ha:Ok a)(hi:a.ins=b.ins)(ho:a.outs.length=b.outs.length):ψ8 [cD a,cD b]=NW (.sh,.non):=by
 unfold ψ8;refine bQ (c9 rfl ?_);unfold b8
 walk_at "nm"
 have:=ha.bi;refine bh (z:=NZ) (fw (aP (aH (ad rfl (af (am (n:=0) (.inr rfl) rfl rfl (aH (ad rfl (af (am (n:=0) (.inr rfl) rfl rfl (lS ?_))))))))))) (λe=>by cases e) λ_=>bE ?_
 ·rw[hi,decide_eq_true rfl];refine⟨λ_=>ci (aP (bx (ae (aH (ad rfl (af (am (n:=3) (.inr rfl) rfl rfl (ag (dw (bx (ae (aH (ad rfl (af (am (n:=3) (.inr rfl) rfl rfl (ag (dw (lS ?_)))))))))))))))))),λh=>rfl⟩;rw[Li,Li,ho,decide_eq_true rfl];rfl
 ·exact bh (z:=NZ) (aP (aH (ad rfl (af (am (n:=0) (.inr rfl) rfl rfl (af (f8 (decide_eq_false (by lia))))))))) (λe=>by cases e) λ_=>bE (aM (wH rfl))
noncomputable def AQ(a b:Ci)(p:P)(i:Nat):D:=.tup [.bl (AO a b p (rb a.ins i)),aF (sg a b p (rb a.ins i))]
theorem zC{α:Type}(l:List α)(f g:α->D):tj (l.map f) (l.map g)=l.map λi=>.tup [f i,g i]:=by
 unfold tj;rw[List.zipWith_map,List.zipWith_self]
theorem zD{a b:Ci}{p:P}(ha:Ok a)(hb:Ok b)(hi:a.ins=b.ins)(h1:p.1.length=a.mems.length)(h2:p.2.length=b.mems.length):GF [cD a,cD b,aF p]=NW (.fr k0,.lst ((Ln (2^a.ins)).map (AQ a b p))):=by
 unfold GF;refine bQ (c9 rfl ?_);unfold Je
 walk_at "nm"
 have hp:2^a.ins<=64:=LR (n:=2) (by decide) ha.bi;refine aI (au (bc (ag (a8 rfl ⟨⟨rfl,by decide⟩,?_⟩))));show Wp (aL _ _ _ _ [NW ⟨NZ,.fz,cD a⟩,NW ⟨NZ,.fz,cD b⟩,NW ⟨NZ,.fz,aF p⟩,NW ⟨NZ,k0,.lst []⟩,NX,NX,NX,NX]) _
 have hz:nW (NW (.fr k0,.lst ((Ln (2^a.ins)).map (fB a p.1)))) (NW (.fr k0,.lst ((Ln (2^b.ins)).map (fB b p.2))))=NW ([],(Ln (2^a.ins)).map λi=>.tup [fB a p.1 i,fB b p.2 i]):=by
  rw[<- hi,<- zC];rfl
 refine dN (bU (wt (bX (φ:=DX) rfl (ae (ad rfl (ae (aH (ad rfl (af (am (n:=0) (.inr rfl) rfl rfl (ag (bP ⟨_,oM ha h1,rfl,.inl rfl,bX (φ:=DX) rfl (ae (ad rfl (ae (aH (ad rfl (af (am (n:=1) (.inr rfl) rfl rfl (ag (bP ⟨_,oM hb h2,rfl,.inl rfl,⟨_,hz,λs ρ=>∃x4 x5 x6 x7,ρ=[NW ⟨NZ,.fz,cD a⟩,NW ⟨NZ,.fz,cD b⟩,NW ⟨NZ,.fz,aF p⟩,NW ⟨NZ,k0,.lst ((Ln s).map (AQ a b p))⟩,x4,x5,x6,x7],⟨NX,NX,NX,NX,rfl⟩,λs d ρ hd hI=>?_,λρ hI=>?_⟩⟩)))))))))⟩))))))))))))
 ·obtain⟨x4,x5,x6,x7,rfl⟩:=hI;have hd:((Ln (2^a.ins)).map λi=>D.tup [fB a p.1 i,fB b p.2 i])[s]?=NW d:=hd;rw[Ll] at hd
  cases e:(Ln (2^a.ins))[s]? with
  |none=>rw[e] at hd;cases hd
  |some s'=>
   have hs:=(Lk.mp e).1;rw[Lz] at hs;rw[LQ hs] at e;cases e;rw[LQ hs] at hd;cases hd;refine⟨[(4,.lst ((bI a p.1 (rb a.ins s)).map bD)),(5,.lst ((nextOf a p.1 (rb a.ins s)).map bD)),(6,.lst ((bI b p.2 (rb b.ins s)).map bD)),(7,.lst ((nextOf b p.2 (rb b.ins s)).map bD))],rfl,rfl,?_⟩;show Wp (aL _ _ _ [] [NW ⟨NZ,.fz,cD a⟩,NW ⟨NZ,.fz,cD b⟩,NW ⟨NZ,.fz,aF p⟩,NW ⟨NZ,k0,.lst ((Ln s).map (AQ a b p))⟩,NW ⟨NZ,.fz,.lst ((bI a p.1 (rb a.ins s)).map bD)⟩,NW ⟨NZ,.fz,.lst ((nextOf a p.1 (rb a.ins s)).map bD)⟩,NW ⟨NZ,.fz,.lst ((bI b p.2 (rb b.ins s)).map bD)⟩,NW ⟨NZ,.fz,.lst ((nextOf b p.2 (rb b.ins s)).map bD)⟩]) _;refine cG (cV (bC (ae (gE (ad rfl (ad rfl (qt (ae (bC (ae (ad rfl (ae (ad rfl (ag (aR rfl (ag (aR rfl ⟨[],.fz,_,rfl,⟨LF _,rfl,by simp;lia⟩,aM ⟨_,.inl rfl,NW ⟨NZ,.fz,.lst ((bI a p.1 (rb a.ins s)).map bD)⟩,NW ⟨NZ,.fz,.lst ((nextOf a p.1 (rb a.ins s)).map bD)⟩,NW ⟨NZ,.fz,.lst ((bI b p.2 (rb b.ins s)).map bD)⟩,NW ⟨NZ,.fz,.lst ((nextOf b p.2 (rb b.ins s)).map bD)⟩,?_⟩⟩)))))))))))))))));rw[MB,Lw,<- hi];rfl
 ·obtain⟨x4,x5,x6,x7,rfl⟩:=hI;refine aW (c8 rfl ⟨rfl,bw rfl ?_⟩);show(_,D.lst ((Ln ((Ln (2^a.ins)).map λi=>D.tup [fB a p.1 i,fB b p.2 i]).length).map _))=_;rw[Li,Lz];rfl
theorem lW{ft:Ro->Option (Bool×Ro)}{fb:Ro->Option Res}{Q:Res->Prop}(I:Nat->Ro->Prop)(hs:∀m ρ,I m ρ->Wp (ft (clrN fg ρ)) λp=>(p.1=NZ->Q (.nx p.2))/\(p.1=NY->Wp (fb p.2) λr=>(∃ρ' m',(r=.nx ρ'\/r=.ct ρ')/\m'<m/\I m' ρ')\/∃k d ρ',r=.rt k d ρ'/\Q (.rt k d ρ'))):∀n m ρ,m<n->I m ρ->Wp (iT fg ft fb n ρ) Q
 |0,m,ρ,h,_=>absurd h (MW _)
 |n+1,m,ρ,h,hI=>by
  obtain⟨⟨b,ρ1⟩,e1,q1,q2⟩:=hs m ρ hI
  cases b with
  |false=>exact⟨.nx ρ1,by unfold iT;rw[e1],q1 rfl⟩
  |true=>
   obtain⟨r,e2,hr⟩:=q2 rfl;rcases hr with⟨ρ',m',hr,hm,hI'⟩|⟨k,d,ρ',rfl,q⟩
   ·obtain⟨x,e3,q3⟩:=lW I hs n m' ρ' (by lia) hI';refine⟨x,?_,q3⟩;unfold iT;rw[e1];dsimp only at e2⊢;rw[e2]
    rcases hr with rfl|rfl<;>exact e3
   ·refine⟨_,?_,q⟩;unfold iT;rw[e1];dsimp only at e2⊢;rw[e2]
theorem AR{Γ:GG}{N:Nat}{pn:List Nat}{ρ:Ro}{Q:Res->Prop}{rest:bW}{fg:List Nat}{t:MT}{b:bW}(I:Nat->Ro->Prop){m0:Nat}(hm:m0<N)(h0:I m0 ρ)
  (hs:∀m ρ,I m ρ->Wp (ce Γ t (clrN fg ρ)) λp=>(p.1=NZ->Wp (aL Γ N rest pn p.2) Q)/\(p.1=NY->Wp (aL Γ N b pn p.2) λr=>(∃ρ' m',(r=.nx ρ'\/r=.ct ρ')/\m'<m/\I m' ρ')\/∃k d ρ',r=.rt k d ρ'/\Q (.rt k d ρ'))):Wp (aL Γ N (.cons (.wh fg t b) rest) pn ρ) Q:=by
 obtain⟨r,e,q⟩:=lW (fg:=fg) (ft:=ce Γ t) (fb:=aL Γ N b pn) (Q:=Kt Γ N rest pn Q) I (λm ρ hI=>(hs m ρ hI).mono λp hp=>⟨hp.1,λe=>(hp.2 e).mono λr hr=>hr.imp id λ⟨k,d,ρ',e,q⟩=>⟨k,d,ρ',e,q⟩⟩) N m0 ρ hm h0;exact cx ⟨r,by rw[C6];exact e,q⟩
noncomputable def iZ:Nat->List (List Bool)
 |0=>[[]]
 |m+1=>(iZ m).map (NZ::·)++(iZ m).map (NY::·)
theorem kN:∀m,(iZ m).length=2^m
 |0=>rfl
 |m+1=>by rw[iZ,LZ,Li,Li,kN m,MV];lia
theorem kO:∀{m:Nat} {l:List Bool},l.length=m->l∈iZ m
 |0,[],_=>by simp[iZ]
 |m+1,b::l,h=>by
  have:=kO (m:=m) (l:=l) (by simpa using h);rw[iZ,Md]
  cases b with
  |false=>exact .inl (MY this)
  |true=>exact .inr (MY this)
noncomputable def Dt(m n:Nat):List P:=(iZ m).flatMap λx=>(iZ n).map λy=>(x,y)
theorem wY(m n:Nat):(Dt m n).length=2^m*2^n:=by
 unfold Dt;rw[List.length_flatMap,<- kN m];have:((iZ m).map λx=>((iZ n).map λy=>((x,y):P)).length)=(iZ m).map λ_=>2^n:=Mg λx _=>by rw[Li,kN]
 rw[this];generalize iZ m=l
 induction l with
 |nil=>simp
 |cons a l ih=>rw[LJ,List.sum_cons,ih,LW,Nat.add_mul];lia
theorem wZ{fs:List P}{m n:Nat}(hn:fs.Nodup)(h:∀p∈fs,p.1.length=m/\p.2.length=n):fs.length<=2^m*2^n:=by
 rw[<- wY];refine hn.length_le_of_subset λp hp=>?_;unfold Dt;rw[List.mem_flatMap];exact⟨p.1,kO (h p hp).1,LX.mpr ⟨p.2,kO (h p hp).2,rfl⟩⟩
noncomputable abbrev tW(a b:Ci):P:=(fN a,fN b)
noncomputable abbrev iz(a b:Ci)(p:P)(i:Nat):P:=sg a b p (rb a.ins i)
noncomputable abbrev i0(a b:Ci)(p:P)(i:Nat):Bool:=AO a b p (rb a.ins i)
noncomputable def qw(a b:Ci)(p:P)(fs:List P)(i:Nat):List P:=if i0 a b p i=NY/\iz a b p i∉fs then fs++[iz a b p i] else fs
noncomputable def m9(a b:Ci)(p:P)(s:Nat)(fs:List P):List P:=(Ln s).foldl (qw a b p) fs
noncomputable def bT(a b:Ci):Nat->List P
 |0=>[tW a b]
 |k+1=>match (bT a b k)[k]? with
  |some p=>m9 a b p (2^a.ins) (bT a b k)
  |none=>bT a b k
structure Wf(a b:Ci)(fs:List P):Prop where
 nd:fs.Nodup
 ok:∀p∈fs,p.1.length=a.mems.length/\p.2.length=b.mems.length
section
variable {a b:Ci} {p x:P} {fs:List P} {s i j k:Nat}
theorem nc(h1:i0 a b p i=NY)(h2:iz a b p i∉fs):qw a b p fs i=fs++[iz a b p i]:=if_pos ⟨h1,h2⟩
theorem si(h:i0 a b p i=NY->iz a b p i∈fs):qw a b p fs i=fs:=if_neg λz=>z.2 (h z.1)
theorem zE(h:fs[j]?=NW x):(qw a b p fs i)[j]?=NW x:=by
 unfold qw;split
 ·rw[LP (Lk.mp h).1];exact h
 ·exact h
theorem Wf.step(h:Wf a b fs):Wf a b (qw a b p fs i):=by
 unfold qw;split
 ·rename_i hc;refine⟨?_,λq hq=>?_⟩
  ·rw[NN];exact⟨h.nd,by simp,λx hx y hy e=>hc.2 (by simp at hy;rw[<- hy,<- e];exact hx)⟩
  ·rcases Md.mp hq with h1|h1
   ·exact h.ok q h1
   ·cases L6.mp h1;exact⟨by simp[sg,nextOf],by simp[sg,nextOf]⟩
 ·exact h
theorem eE:m9 a b p (s+1) fs=qw a b p (m9 a b p s fs) s:=by
 unfold m9;rw[MB,Nc];rfl
theorem sj(h:fs[j]?=NW x):∀s,(m9 a b p s fs)[j]?=NW x
 |0=>h
 |s+1=>by rw[eE];exact zE (sj h s)
theorem Wf.turn(h:Wf a b fs):∀s,Wf a b (m9 a b p s fs)
 |0=>h
 |s+1=>by rw[eE];exact(Wf.turn h s).step
theorem kP(h:(bT a b k)[k]?=NW p):bT a b (k+1)=m9 a b p (2^a.ins) (bT a b k):=by
 show(match (bT a b k)[k]? with|some p=>_|none=>_)=_
 rw[h]
theorem zG(h:(bT a b k).length<=k):bT a b (k+1)=bT a b k:=by
 show(match (bT a b k)[k]? with|some p=>_|none=>_)=_
 rw[LY h]
theorem kQ(h:(bT a b k)[j]?=NW x):(bT a b (k+1))[j]?=NW x:=by
 show(match (bT a b k)[k]? with|some p=>m9 a b p (2^a.ins) (bT a b k)|none=>bT a b k)[j]?=_
 split
 ·exact sj h _
 ·exact h
theorem sn(h:(bT a b k)[j]?=NW x):∀d,(bT a b (k+d))[j]?=NW x
 |0=>h
 |d+1=>kQ (sn h d)
theorem kR:∀k,Wf a b (bT a b k)
 |0=>⟨by simp[bT],λp hp=>by
  cases L6.mp hp;exact⟨by simp[fN],by simp[fN]⟩⟩
 |k+1=>by
  show Wf a b (match (bT a b k)[k]? with|some p=>m9 a b p (2^a.ins) (bT a b k)|none=>bT a b k)
  split
  ·exact(kR k).turn _
  ·exact kR k
theorem oN(h:(bT a b k).length<=k):∀d,bT a b (k+d)=bT a b k
 |0=>rfl
 |d+1=>by
  have e:=oN h d;have h2:(bT a b (k+d)).length<=k+d:=by rw[e];lia
  exact(zG h2).trans e
theorem Wf.len(h:Wf a b fs)(hm:a.mems.length+b.mems.length<=8):fs.length<=256:=by
 have h1:=wZ h.nd h.ok;rw[<- Nat.pow_add] at h1;exact LM h1 (LR (n:=2) (by decide) hm)
end
noncomputable def jo(a b:Ci):List P:=bT a b 300
noncomputable def zH(a b:Ci):Prop:=∀p∈jo a b,∀i,i<2^a.ins->i0 a b p i=NY
theorem w4{k:Nat}(hk:k<=300)(h:(bT a b k).length<=k):jo a b=bT a b k:=by
 have:=oN h (300-k);rw[show k+(300-k)=300 by lia] at this;exact this
theorem zI{k j:Nat}(hk:k<=300)(h:(bT a b k)[j]?=NW p):p∈jo a b:=by
 have:=sn h (300-k);rw[show k+(300-k)=300 by lia] at this;exact LD this
noncomputable def Ky(a b:Ci)(row:Option (List (List Bool)))(fs:List P):Prop:=match row with
 |none=>fs=jo a b/\zH a b
 |some _=>¬zH a b
noncomputable def lc(r:List (List Bool)):D:=.lst (r.map λx=>.lst (x.map bD))
noncomputable def tX:Option (List (List Bool))->D
 |none=>.non
 |some r=>lc r
noncomputable def D6(fs:List P):D:=.nd (.dic 4 (fs.map pk)) (fs.map λ_=>.bl NY)
theorem AS{fs:List P}{T:Bool->Prop}(q:T (!decide (p∈fs))):Wp (bR .NotIn (aT p) (D6 fs)) T:=by
 refine⟨!decide (p∈fs),?_,q⟩
 show(match gp (aT p) with|some k=>if jW 4 k=NY then NW (!(a9 (fs.map pk) k).isSome) else NX|none=>NX)=_
 rw[gH,<- kM];rfl
theorem w5{es:List Ow}{fs:List P}{p:P}(hp:p∉fs)(hl:fs.length<1000)(he:es.length<=fs.length):fR es .fz (.dic 4 (fs.map pk)) (fs.map λ_=>.bl NY) (aT p) (.sh,.bl NY)=NW (.dic 4 ((fs++[p]).map pk),(fs++[p]).map λ_=>.bl NY):=by
 have hf:a9 (fs.map pk) (pk p)=NX:=by
  have:=kM fs p;rw[decide_eq_false hp] at this
  cases e:a9 (fs.map pk) (pk p) with
  |none=>rfl
  |some j=>rw[e] at this;cases this
 unfold fR;rw[gH];dsimp only;rw[if_pos ⟨rfl,by rw[Li];lia⟩,hf];dsimp only;rw[if_pos ⟨by rw[Li];exact he,rfl⟩,Lw,Lw];rfl
theorem w6{ds:List D}{P:List Nat×List D->Prop}(h:gm k ds=NY)(q:P (vk k,ds.mapIdx λi d=>D.tup [.int i,d])):Wp (pK (NW (k,.nd .lst ds))) P:=by
 refine⟨_,?_,q⟩
 show(if gm k ds=NY then NW (vk k,ds) else NX).map _=_
 rw[if_pos h];rfl
theorem oO{α:Type}{l:List α}{x y:α}{j:Nat}(h:(l++[x])[j]?=NW y):l[j]?=NW y\/(j=l.length/\y=x):=by
 by_cases hj:j<l.length
 ·rw[LP hj] at h;exact .inl h
 ·have hl:=(Lk.mp h).1;simp at hl;have:j=l.length:=by lia
  subst this;rw[LS (Lo _),Mt] at h;cases h;exact .inr ⟨rfl,rfl⟩
noncomputable abbrev GW:=List (List (List Bool))
structure SI(a b:Ci)(fs:List P)(rows:GW):Prop where
 len:rows.length=fs.length
 wf:Wf a b fs
 rl:∀(j:Nat) r,rows[j]?=NW r->r.length<=j
theorem SI.add{a b:Ci}{at_:Nat}{fs:List P}{rows:GW}{r:List (List Bool)}{s:Nat}(h:SI a b fs rows)(hr:rows[at_]?=NW r)(ha:i0 a b p s=NY)(hq:iz a b p s∉fs):SI a b (qw a b p fs s) (rows++[r++[rb a.ins s]]):=by
 refine⟨by rw[nc ha hq];simp[h.len],h.wf.step,λj x hx=>?_⟩;rcases oO hx with h1|⟨rfl,rfl⟩
 ·exact h.rl j x h1
 ·have:=h.rl at_ r hr;have:=(Lk.mp hr).1;simp;lia
noncomputable abbrev RS(a b:Ci)(at_:Nat)(fs:List P)(rows:GW)(x6 x7 x8 x9:Option Sl):Ro:=[NW ⟨NZ,.fz,cD a⟩,NW ⟨NZ,.fz,cD b⟩,NW ⟨NZ,k0,.lst (fs.map aF)⟩,NW ⟨NZ,k0,.lst (rows.map lc)⟩,NW ⟨NZ,k0,D6 fs⟩,NW ⟨NZ,.fz,iD at_⟩,x6,x7,x8,x9]
noncomputable abbrev ai(d:D):Option Sl:=NW ⟨NZ,.fz,d⟩
theorem zJ{a b:Ci}{at_:Nat}{fs:List P}{rows:GW}{p:P}{r:List (List Bool)}{s:Nat}(ha:Ok a)(hm:a.mems.length+b.mems.length<=8)(h:SI a b fs rows)(hr:rows[at_]?=NW r){Q:Res->Prop}
  (q1:i0 a b p s=NZ->∀ρ,Q (.rt .sh (.tup [lc (r++[rb a.ins s]),.lst (fs.map aF)]) ρ)) (q2:i0 a b p s=NY->∀rows' x9,SI a b (qw a b p fs s) rows'->(∀(j:Nat) x,rows[j]?=NW x->rows'[j]?=NW x)->Q (.nx (RS a b at_ (qw a b p fs s) rows' (ai (iD s)) (ai (.bl NY)) (ai (aF (iz a b p s))) x9))) :
  Wp (aL Γ_12 1000 (match b7 with|.cons _ (.cons _ (.cons _ (.cons _ (.cons _ (.cons (.wh _ _ (.cons (.fo _ _ _ c) _)) _)))))=>c|c=>c) [] (RS a b at_ fs rows (ai (iD s)) (ai (.bl (i0 a b p s))) (ai (aF (iz a b p s))) NX)) Q:=by
 unfold b7;have hfs:fs.length<=256:=h.wf.len hm;have hat:=(Lk.mp hr).1;have hrl:=h.rl at_ r hr;have hlen:=h.len;refine aI (au (aj (aH (ad rfl (ad rfl (am (n:=at_) (d:=lc r) (.inl rfl) rfl (by rw[Ll,hr];rfl) (bc (ae (bX (φ:=GE) rfl (ae (ad rfl (ae (aH (ad rfl (af (am (n:=0) (.inr rfl) rfl rfl (ag (bP ⟨_,tU ha.bi s,rfl,.inl rfl,ag (a8 rfl (kF ⟨rfl,rfl,by simp;lia⟩ ⟨⟨rfl,by decide⟩,?_⟩))⟩))))))))))))))))));have e9:(r.map λx=>D.lst (x.map bD))++[D.lst ((rb a.ins s).map bD)]=(r++[rb a.ins s]).map λx=>D.lst (x.map bD):=by rw[Lw];rfl
 show Wp (aL _ _ _ [] (RS a b at_ fs rows (ai (iD s)) (ai (.bl (i0 a b p s))) (ai (aF (iz a b p s))) (NW ⟨NZ,k0,.lst ((r.map λx=>D.lst (x.map bD))++[D.lst ((rb a.ins s).map bD)])⟩))) _;rw[e9]
 cases hal:i0 a b p s with
 |false=>
  refine bh (z:=NY) (iV (df rfl (ad rfl (qk rfl rfl)))) (λ_=>?_) λe=>by cases e
  exact aW (cN (aN (c8 rfl ⟨rfl,aQ (c8 rfl (ag (aR rfl ⟨rfl,ge (q1 hal _)⟩)))⟩)))
 |true=>
  refine bh (z:=NZ) (iV (df rfl (ad rfl (qk rfl rfl)))) (λe=>by cases e) λ_=>bE ?_;have hke:=wX (iz a b p s);refine bh (z:=!decide (iz a b p s∈fs)) (aP (bX (φ:=Dk) rfl (ae (ad rfl (ag (bP ⟨_,hke,rfl,.inl rfl,ad rfl (AS rfl)⟩)))))) (λe=>?_) λe=>bE (aM ?_)
  ·have hq:iz a b p s∉fs:=by simpa using e
   refine cG (au (bX (φ:=ψ9) rfl (ae (aj (bx (ae (ad rfl (ag (dw (af (bn (ag (bP ⟨(.sh,.non),?_,rfl,.inl rfl,?_⟩)))))))))))))
   ·show ψ9 [.int (((fs.map aF).length:Int)+1)]=_;rw[Li];exact zB (n:=fs.length+1) (by lia)
   refine iw (au (af (m7 rfl (bX (φ:=Dk) rfl (ae (ad rfl (ag (bP ⟨_,hke,rfl,.inl rfl,eS rfl rfl rfl (d7 (w5 hq (by lia) (LF _)) ?_)⟩))))))));refine cG (cV (ad rfl ⟨[],.fz,_,rfl,⟨LF _,rfl,by rw[Li];lia⟩,?_⟩));refine cG (qj rfl (c8 rfl ⟨[],.fz,_,rfl,⟨LF _,rfl,by rw[Li];lia⟩,aM (br (aM ?_))⟩));have e1:fs.map aF++[aF (iz a b p s)]=(fs++[iz a b p s]).map aF:=by rw[Lw];rfl
   have e2:rows.map lc++[D.lst ((r++[rb a.ins s]).map λx=>D.lst (x.map bD))]=(rows++[r++[rb a.ins s]]).map lc:=(Lw (f:=lc) (l₁:=rows) (l₂:=[r++[rb a.ins s]])).symm;show Q (.nx [NW ⟨NZ,.fz,cD a⟩,NW ⟨NZ,.fz,cD b⟩,NW ⟨NZ,k0,.lst (fs.map aF++[aF (iz a b p s)])⟩,NW ⟨NZ,k0,.lst (rows.map lc++[D.lst ((r++[rb a.ins s]).map λx=>D.lst (x.map bD))])⟩,NW ⟨NZ,k0,D6 (fs++[iz a b p s])⟩,NW ⟨NZ,.fz,iD at_⟩,ai (iD s),ai (.bl NY),ai (aF (iz a b p s)),NX]);rw[e1,e2,<- nc hal hq];exact q2 hal _ _ (h.add hr hal hq) λj x hx=>by rw[LP (Lk.mp hx).1];exact hx
  ·have hq:decide (iz a b p s∈fs)=NY:=by simpa using e
   have es:qw a b p fs s=fs:=si λ_=>of_decide_eq_true hq;rw[es] at q2;exact q2 hal rows _ h λ_ _ h=>h
theorem zK{a b:Ci}{at_:Nat}{fs:List P}{rows:GW}{p:P}{x9:Option Sl}(ha:Ok a)(hb:Ok b)(hi:a.ins=b.ins)(hm:a.mems.length+b.mems.length<=8)(h:SI a b fs rows)(hp:fs[at_]?=NW p){Q:Res->Prop}
  (q1:∀row (fs':List P) ρ s,s<2^a.ins->i0 a b p s=NZ->Q (.rt .sh (.tup [lc row,.lst (fs'.map aF)]) ρ)) (q2:∀rows' x6 x7 x8 x9,SI a b (m9 a b p (2^a.ins) fs) rows'->(∀i,i<2^a.ins->i0 a b p i=NY)->Q (.nx (RS a b (at_+1) (m9 a b p (2^a.ins) fs) rows' x6 x7 x8 x9))) :
  Wp (aL Γ_12 1000 (match b7 with|.cons _ (.cons _ (.cons _ (.cons _ (.cons _ (.cons (.wh _ _ c) _)))))=>c|c=>c) [] (RS a b at_ fs rows NX NX NX x9)) Q:=by
 have hat:=(Lk.mp hp).1;have hr:rows[at_]?=NW (rows[at_]'(by rw[h.len];exact hat)):=Lm _;generalize (rows[at_]'(by rw[h.len];exact hat))=r at hr;have hpo:=h.wf.ok p (LD hp);have body:=@zJ a b at_;unfold b7 at body⊢;refine wJ (bU (m4 (bX (φ:=GF) rfl (ae (ad rfl (ae (ad rfl (ae (aH (ad rfl (ad rfl (am (n:=at_) (d:=aF p) (.inl rfl) rfl (by rw[Ll,hp];rfl) (ag (bP ⟨_,zD ha hb hi hpo.1 hpo.2,rfl,.inl rfl,w6 rfl ⟨λs ρ=>∃rows' x6 x7 x8 x9,ρ=RS a b at_ (m9 a b p s fs) rows' x6 x7 x8 x9/\SI a b (m9 a b p s fs) rows'/\rows'[at_]?=NW r/\∀i,i<s->i0 a b p i=NY,λk d ρ=>k=.sh/\∃row fs' s,d=.tup [lc row,.lst (L4 aF fs')]/\s<2^a.ins/\i0 a b p s=NZ,⟨rows,NX,NX,NX,x9,rfl,h,hr,λi hi=>absurd hi (MW _)⟩,λs d ρ hd hI=>?_,λρ hI=>?_,λk d ρ hR=>?_⟩⟩))))))))))))))
 ·obtain⟨rows',x6,x7,x8,x9,rfl,h',hr',hA⟩:=hI;have hd:(((Ln (2^a.ins)).map (AQ a b p)).mapIdx λi d=>D.tup [.int i,d])[s]?=NW d:=hd;rw[Me,Ll] at hd
  cases e:(Ln (2^a.ins))[s]? with
  |none=>rw[e] at hd;cases hd
  |some s'=>
   have hs:=(Lk.mp e).1;rw[Lz] at hs;rw[LQ hs] at hd;cases hd;refine⟨[(6,iD s),(7,.bl (i0 a b p s)),(8,aF (iz a b p s))],rfl,rfl,?_⟩;refine body ha hm h' hr' (λhal ρ=>.inr ⟨.sh,_,ρ,rfl,rfl,_,_,s,rfl,hs,hal⟩) λhal rows2 x9' h2 k2=>.inl ⟨_,.inl rfl,rows2,ai (iD s),ai (.bl NY),ai (aF (iz a b p s)),x9',by rw[eE],by rw[eE];exact h2,k2 _ _ hr',λi hi=>?_⟩;by_cases e:i=s
   ·subst e;exact hal
   ·exact hA i (by lia)
 ·obtain⟨rows',x6,x7,x8,x9,rfl,h',hr',hA⟩:=hI;have hl:(((Ln (2^a.ins)).map (AQ a b p)).mapIdx λi d=>D.tup [.int i,d]).length=2^a.ins:=by rw[M4,Li,Lz]
  have h':SI a b (m9 a b p (((Ln (2^a.ins)).map (AQ a b p)).mapIdx λi d=>D.tup [.int i,d]).length fs) rows':=h';have hA:∀i,i<(((Ln (2^a.ins)).map (AQ a b p)).mapIdx λi d=>D.tup [.int i,d]).length->i0 a b p i=NY:=hA;show Wp (aL _ _ _ [] (RS a b at_ (m9 a b p (((Ln (2^a.ins)).map (AQ a b p)).mapIdx λi d=>D.tup [.int i,d]).length fs) rows' NX NX NX NX)) _;rw[hl] at h' hA⊢;exact Gg rfl (au (af ⟨by decide,⟨.int ((at_:Int)+1),rfl,aM (q2 rows' NX NX NX NX h' hA)⟩⟩))
 ·obtain⟨rfl,row,fs',s,rfl,hs,hF⟩:=hR;exact⟨rfl,q1 row fs' _ s hs hF⟩
theorem tY{a b:Ci}(ha:Ok a)(hb:Ok b)(hi:a.ins=b.ins)(ho:a.outs.length=b.outs.length)(hm:a.mems.length+b.mems.length<=8):∃row fs,ψ7 [cD a,cD b]=NW (.sh,.tup [tX row,.lst (fs.map aF)])/\Ky a b row fs:=by
 suffices h:Wp (ψ7 [cD a,cD b]) λx=>∃row fs,x=(.sh,.tup [tX row,.lst (fs.map aF)])/\Ky a b row fs by
  obtain⟨x,e,row,fs,rfl,hF⟩:=h;exact⟨row,fs,e,hF⟩
 unfold ψ7;refine c9 rfl ?_;have turn:=@zK a b;unfold b7 at turn⊢
 walk_at "nm"
 refine cG (au (bX (φ:=ψ8) rfl (ae (ad rfl (ae (ad rfl (ag (bP ⟨_,tV ha hi ho,rfl,.inl rfl,?_⟩))))))));refine aI (au (bc (ae (bC (ae (bX (φ:=ψ1) rfl (ae (ad rfl (ag (bP ⟨_,oJ ha,rfl,.inl rfl,ae (bX (φ:=ψ1) rfl (ae (ad rfl (ag (bP ⟨_,oJ hb,rfl,.inl rfl,ag (aR rfl (ag (a8 rfl ⟨⟨rfl,by decide⟩,?_⟩)))⟩)))))⟩))))))))));refine aI (au (bc (ae (bc (ag (a8 rfl (ag (a8 rfl ⟨⟨rfl,by decide⟩,?_⟩))))))));refine aI (au (r9 (bX (φ:=Dk) rfl (ae (aH (ad rfl (af (am (n:=0) (d:=aF (tW a b)) (.inl rfl) rfl rfl (ag (bP ⟨_,wX (tW a b),rfl,.inl rfl,af ⟨(.fr bv,D6 [tW a b]),?_,⟨rfl,by decide⟩,?_⟩⟩))))))))))
 ·unfold i8;dsimp only;rw[gH];rfl
 refine aI (au (af ⟨⟨rfl,by decide⟩,?_⟩));show Wp (aL _ _ _ [] (RS a b 0 (bT a b 0) [[]] NX NX NX NX)) _
 have h0:SI a b (bT a b 0) [[]]:=by
  refine⟨rfl,kR 0,λj r hr=>?_⟩
  cases j with
  |zero=>cases hr;exact Lo _
  |succ j=>cases hr
 refine AR (λm ρ=>∃at_ rows x6 x7 x8 x9,ρ=RS a b at_ (bT a b at_) rows x6 x7 x8 x9/\SI a b (bT a b at_) rows/\m+at_=300/\∀(j:Nat) p,j<at_->(bT a b at_)[j]?=NW p->∀i,i<2^a.ins->i0 a b p i=NY) (m0:=300) (by decide) ⟨0,_,NX,NX,NX,NX,rfl,h0,rfl,λj p hj=>absurd hj (MW _)⟩ λm ρ hI=>?_;obtain⟨at_,rows,x6,x7,x8,x9,rfl,h,hme,hA⟩:=hI;have hfs:=h.wf.len hm;show Wp (ce _ _ (RS a b at_ (bT a b at_) rows NX NX NX x9)) _;refine rV (aP (ad rfl (bx (ae (ad rfl (ag (dw (wu ⟨λe=>?_,λe=>?_⟩))))))))
 ·have hat:¬(at_:Int)<(((bT a b at_).map aF).length:Int):=of_decide_eq_false e;rw[Li] at hat;have hall:=w4 (a:=a) (b:=b) (k:=at_) (by lia) (by lia);refine aW (cN (aN (au (af ⟨rfl,aQ (c8 rfl (ag (aR rfl ⟨rfl,bw rfl ⟨NX,bT a b at_,rfl,hall.symm,λp hp i hi=>?_⟩⟩)))⟩))));rw[hall] at hp;obtain⟨j,hj⟩:=Mx.mp hp;have:=(Lk.mp hj).1;exact hA j p (by lia) hj i hi
 ·have hat:(at_:Int)<(((bT a b at_).map aF).length:Int):=of_decide_eq_true e;rw[Li] at hat;have hp:(bT a b at_)[at_]?=NW ((bT a b at_)[at_]'(by lia)):=Lm _;generalize ((bT a b at_)[at_]'(by lia))=p at hp;refine turn ha hb hi hm h hp (λrow fs' ρ s hs hal=>.inr ⟨_,_,_,rfl,bw rfl ⟨NW row,fs',rfl,λz=>?_⟩⟩) λrows' x6 x7 x8 x9 h' hA'=>?_
  ·have:=z p (zI (by lia) hp) s hs;rw[hal] at this;cases this
  ·rw[<- kP hp] at h'⊢;refine .inl ⟨_,m-1,.inl rfl,by lia,at_+1,rows',x6,x7,x8,x9,rfl,h',by lia,λj q hj hq=>?_⟩;by_cases ej:j<at_
   ·have hjq:(bT a b at_)[j]?=NW ((bT a b at_)[j]'(by lia)):=Lm _;have:=kQ hjq;rw[hq] at this;rw[Option.some.inj this];exact hA j _ ej hjq
   ·have:j=at_:=by lia
    subst this;have:=kQ hp;rw[hq] at this;rw[Option.some.inj this];exact hA'
theorem tZ{fs:List P}(h:ψ7 [cD a,cD b]=NW (.sh,.tup [tX row,.lst (fs.map aF)])):ψ5 [cD a,cD b]=NW (.sh,tX row):=by
 unfold ψ5;refine bQ (c9 rfl ?_);unfold b5
 walk_at "nm"
 refine eR (au (bX (φ:=ψ7) rfl (ae (ad rfl (ae (ad rfl (ag (bP ⟨_,h,rfl,.inl rfl,_,_,_,rfl,rfl,⟨rfl,rfl⟩,?_⟩))))))))
 exact aW (au (ad rfl ⟨by cases row<;>rfl,by cases row<;>exact bw rfl rfl⟩))
noncomputable def ng(row:Option (List (List Bool)))(fs:List P):D:=match row with
 |none=>.lst (fs.map aF)
 |some _=>.non
theorem w8{fs:List P}(h:ψ7 [cD a,cD b]=NW (.sh,.tup [tX row,.lst (fs.map aF)])):ψ6 [cD a,cD b]=NW (.sh,ng row fs):=by
 unfold ψ6;refine bQ (c9 rfl ?_);unfold b6
 walk_at "nm"
 refine eR (au (bX (φ:=ψ7) rfl (ae (ad rfl (ae (ad rfl (ag (bP ⟨_,h,rfl,.inl rfl,_,_,_,rfl,rfl,⟨rfl,rfl⟩,?_⟩))))))))
 cases row with
 |none=>exact aW (au (qe (aP (ad rfl (af (dW ⟨λ_=>ad rfl ⟨rfl,bw rfl rfl⟩,λe=>by cases e⟩))))))
 |some r=>exact aW (au (qe (aP (ad rfl (af (dW ⟨λe=>(by cases e),λ_=>af ⟨rfl,bw rfl rfl⟩⟩))))))
theorem kS{Q:KD->Prop}(h:gm k ds=NY)(q:Q (.fr bv,.lst ds)):Wp (eW "list" [(k,.nd .tup ds)]) Q:=⟨_,if_pos h,q⟩
theorem zL{ds:List D}{P:List Nat×List D->Prop}(h:gm k ds=NY)(q:P ([],ds.mapIdx λi d=>D.tup [.int i,d])):Wp (pK (NW (k,.nd .tup ds))) P:=by
 refine⟨_,?_,q⟩
 show(if gm k ds=NY then NW ([],ds) else NX).map _=_
 rw[if_pos h];rfl
theorem w9{vs:List Bool}{p:Nat}(h:p<vs.length):(vs.map bD)[p]?=NW (bD (vs.getD p NZ)):=by
 rw[Ll,LB,Lm h];rfl
theorem GX{k:Nat}(h:k<3):[iD 1,iD 2,iD 4][k]?=NW (iD (2^k)):=by
 match k,h with
 |0,_=>rfl
 |1,_=>rfl
 |2,_=>rfl
noncomputable abbrev RV(c:Ci)(st x vs:List Bool)(x4 x5 x6 x7 x8:Option Sl):Ro:=[NW ⟨NZ,.fz,cD c⟩,NW ⟨NZ,.fz,.tup (st.map bD)⟩,NW ⟨NZ,.fz,.lst (x.map bD)⟩,NW ⟨NZ,k0,.lst (vs.map bD)⟩,x4,x5,x6,x7,x8]
theorem t0{c:Ci}{st x:List Bool}(h:Ok c)(hs:st.length=c.mems.length)(hx:x.length=c.ins):GL [cD c,.tup (st.map bD),.lst (x.map bD)]=NW (.fr k0,.lst ((vals c st x).map bD)):=by
 have hi:=h.bi;have hm:=h.bm;have hg:=h.bg;unfold GL;refine bQ (c9 rfl ?_);unfold JG
 walk_at "nm"
 refine aI (au (aj (bx (ae (ad rfl (ag (rT rfl (bx (ae (ad rfl (ag (kS rfl (kF ⟨rfl,rfl,by simp;lia⟩ ⟨⟨rfl,by decide⟩,?_⟩)))))))))))));show Wp (aL _ _ _ _ [NW ⟨NZ,.fz,cD c⟩,NW ⟨NZ,.fz,.tup (st.map bD)⟩,NW ⟨NZ,.fz,.lst (x.map bD)⟩,NW ⟨NZ,k0,.lst (x.map bD++st.map bD)⟩,NX,NX,NX,NX,NX]) _;rw[<- Lw];refine dN (bU (fS (aH (ad rfl (af (am (n:=2) (.inr rfl) rfl rfl (cw rfl ⟨λs ρ=>∃vs x4 x5 x6 x7 x8,ρ=RV c st x vs x4 x5 x6 x7 x8/\vs=(c.gates.take s).foldl dh (x++st),⟨_,NX,NX,NX,NX,NX,rfl,rfl⟩,λs d ρ hd hI=>?_,λρ hI=>?_⟩)))))))
 ·obtain⟨vs,x4,x5,x6,x7,x8,rfl,hv⟩:=hI;have hd:(c.gates.map aJ)[s]?=NW d:=hd;rw[Ll] at hd
  cases e:c.gates[s]? with
  |none=>rw[e] at hd;cases hd
  |some g=>
   rw[e] at hd;cases hd;obtain⟨g1,g2,g3⟩:=h.g s g e;have hs':=(Lk.mp e).1;have hl:vs.length=c.ins+c.mems.length+s:=by rw[hv,ql,LZ,LU];lia
   refine⟨[(4,iD g.1),(5,.tup (g.2.map iD))],rfl,rfl,?_⟩;show Wp (aL _ _ _ [] (RV c st x vs (ai (iD g.1)) (ai (.tup (g.2.map iD))) NX NX NX)) _;refine aI (au (af ⟨⟨rfl,by decide⟩,?_⟩));refine dN (bU (m4 (ad rfl (zL rfl ⟨λk ρ=>∃x7 x8,ρ=RV c st x vs (ai (iD g.1)) (ai (.tup (g.2.map iD))) (ai (iD (dA ((g.2.take k).map λp=>vs.getD p NZ)))) x7 x8,⟨NX,NX,rfl⟩,λk d ρ hd hI=>?_,λρ hI=>?_⟩))))
   ·obtain⟨x7,x8,rfl⟩:=hI;have hd:((g.2.map iD).mapIdx λi d=>D.tup [.int i,d])[k]?=NW d:=hd;rw[Me,Ll] at hd
    cases e2:g.2[k]? with
    |none=>rw[e2] at hd;cases hd
    |some p=>
     rw[e2] at hd;cases hd;have hk:=(Lk.mp e2).1;have hp:=g3 p (LD e2);refine⟨[(7,iD k),(8,iD p)],rfl,rfl,?_⟩;show Wp (aL _ _ _ [] (RV c st x vs (ai (iD g.1)) (ai (.tup (g.2.map iD))) (ai (iD (dA ((g.2.take k).map λp=>vs.getD p NZ)))) (ai (iD k)) (ai (iD p)))) _
     have hb:((vs.getD p NZ).toNat:Int).natAbs<lim:=by cases vs.getD p NZ<;>decide
     have hc:((2^k:Nat):Int).natAbs<lim:=by
      have:k<3:=by lia
      match k,this with
      |0,_=>decide
      |1,_=>decide
      |2,_=>decide
     refine aI (au (aj (ad rfl (aj (aH (ad rfl (ad rfl (am (n:=p) (.inl rfl) rfl (w9 (by rw[hl];exact hp)) (aH (bc (ae (af (ae (af (ae (af (ag (a8 rfl (ad rfl (am (n:=k) (.inl rfl) rfl (GX (by lia)) (kC ⟨hb,hc⟩ (bn ⟨⟨rfl,by decide⟩,aM ⟨_,.inl rfl,ai (iD k),ai (iD p),?_⟩⟩))))))))))))))))))))))
     have:(dA ((g.2.take k).map λp=>vs.getD p NZ):Int)+((vs.getD p NZ).toNat:Int)*((2^k:Nat):Int)=(dA ((g.2.take (k+1)).map λp=>vs.getD p NZ):Int):=by
      rw[L9,e2,Lw];show _=((dA (_++[vs.getD p NZ]):Nat):Int);rw[iW,Li,LU,Nat.min_eq_left (by lia),Nat.mul_comm];simp
     show RV c st x vs (ai (iD g.1)) (ai (.tup (g.2.map iD))) (ai (.int ((dA ((g.2.take k).map λp=>vs.getD p NZ):Int)+((vs.getD p NZ).toNat:Int)*((2^k:Nat):Int)))) (ai (iD k)) (ai (iD p))=_;rw[this]
   ·obtain⟨x7,x8,rfl⟩:=hI;show Wp (aL _ _ _ [] (RV c st x vs (ai (iD g.1)) (ai (.tup (g.2.map iD))) (ai (iD (dA ((g.2.take ((g.2.map iD).mapIdx λi d=>D.tup [.int i,d]).length).map λp=>vs.getD p NZ)))) NX NX)) _;rw[M4,Li,Ma];refine cG (cV (m8 (x:=g.1) (i:=dA (g.2.map λp=>vs.getD p NZ)) (ad rfl rfl) (ad rfl rfl) ⟨[],.fz,_,rfl,⟨LF _,rfl,by rw[Li];lia⟩,aM ⟨_,.inl rfl,dh vs g,ai (iD g.1),ai (.tup (g.2.map iD)),ai (iD (dA (g.2.map λp=>vs.getD p NZ))),NX,NX,?_,?_⟩⟩))
    ·simp only[RV,dh,Lw];rfl
    ·rw[L9,e,Nc,<- hv];rfl
 ·obtain⟨vs,x4,x5,x6,x7,x8,rfl,hv⟩:=hI;have hv:vs=(c.gates.take (c.gates.map aJ).length).foldl dh (x++st):=hv;rw[Li,Ma] at hv;subst hv;exact aW (c8 rfl ⟨rfl,bw rfl rfl⟩)
noncomputable def Kz(c:Ci)(st x:List Bool):D:=.tup [.lst ((bI c st x).map bD),.tup ((nextOf c st x).map bD)]
theorem oP{c:Ci}{st x:List Bool}(h:Ok c)(hs:st.length=c.mems.length)(hx:x.length=c.ins):D2 [cD c,.tup (st.map bD),.lst (x.map bD)]=NW (.sh,Kz c st x):=by
 have hm:=h.bm;have ho:=h.bo;have hl:=wM (c:=c) hs hx;unfold D2;refine bQ (c9 rfl ?_);unfold JJ
 walk_at "nm"
 refine aI (au (bX (φ:=GL) rfl (ae (ad rfl (ae (ad rfl (ae (ad rfl (ag (bP ⟨_,t0 h hs hx,rfl,.inl rfl,⟨rfl,by decide⟩,?_⟩))))))))));refine aW (au (bC (ae (iY (l:=c.outs) (f:=iD) (g:=λo=>bD ((vals c st x).getD o NZ)) (.inl rfl) (aH (ad rfl (af (am (n:=3) (.inr rfl) rfl rfl ⟨rfl,rfl⟩)))) (by lia) (λo ho=>ue rfl (aH (ad rfl (ad rfl (am (n:=o) (.inl rfl) rfl (w9 (by rw[hl];exact h.o o ho)) ⟨_,rfl,rfl⟩))))) (ae (bx (ae (iY (l:=c.mems) (f:=a6) (g:=λm=>bD ((vals c st x).getD m.2 NZ)) (.inl rfl) (aH (ad rfl (af (am (n:=1) (.inr rfl) rfl rfl ⟨rfl,rfl⟩)))) (by lia) (λm hm=>Dp rfl (aH (ad rfl (ad rfl (am (n:=m.2) (.inl rfl) rfl (w9 (by rw[hl];exact h.m m hm)) ⟨_,rfl,rfl⟩))))) (ag (c7 rfl (ag (aR rfl ⟨rfl,bw rfl ?_⟩))))))))))));unfold Kz bI nextOf;rw[<- kK,<- kK];rfl
theorem lX(h:Ok c):D3 [cD c]=NW (.sh,.tup ((fN c).map bD)):=by
 have hm:=h.bm;unfold D3;refine bQ (c9 rfl ?_);unfold JM
 walk_at "nm"
 refine aW (au (bx (ae (iY (l:=c.mems) (f:=a6) (g:=λm=>bD m.1) (.inl rfl) (aH (ad rfl (af (am (n:=1) (.inr rfl) rfl rfl ⟨rfl,rfl⟩)))) (by lia) (λm _=>Dp rfl (ad rfl ⟨_,rfl,rfl⟩)) (ag (c7 rfl ⟨rfl,bw rfl ?_⟩))))));rw[kK];rfl
theorem qx{n:Nat}(hn:n<=6):GM [iD n]=NW (.fr k0,.lst ((Ln (2^n)).map λi=>.lst ((rb n i).map bD))):=by
 have h2:2^n<=64:=LR (n:=2) (by decide) hn;have h1:(1:Int)*2^((n:Int)).toNat=((2^n:Nat):Int):=by rw[LN];simp
 unfold GM;refine bQ (c9 rfl ?_);unfold JP
 walk_at "nm"
 refine aW (au (wR (n:=2^n) (g:=λi=>.lst ((rb n i).map bD)) (aj (af (ad rfl (eO ⟨by lia,by lia,by decide⟩ (congrArg D.int h1))))) (by lia) (λi hi=>ue rfl (wR (n:=n) (g:=λk=>bD (i.testBit (n-1-k))) (ad rfl rfl) (by lia) (λk hk=>ue rfl (m8 (x:=i) (i:=n-1-k) (ad rfl rfl) (aj (aj (ad rfl (af (cL (ad rfl (cL ?_))))))) ⟨_,rfl,rfl⟩)) ⟨.fr k0,?_,rfl⟩)) ⟨rfl,bw rfl rfl⟩))
 ·exact congrArg D.int (by lia)
 ·unfold rb;rw[<- kK]
theorem xa{Γ:GG}{N:Nat}{pn:List Nat}{ρ:Ro}{Q:Res->Prop}{rest:bW}{is:List Nat}{s:IS}(h:Wp (aL Γ N (.cons s rest) pn (frzN is ρ)) Q):Wp (aL Γ N (.cons (.pre is s) rest) pn ρ) Q:=by
 obtain⟨r,e,q⟩:=h;refine⟨r,?_,q⟩;rw[aL] at e⊢;rw[show eG Γ N (.pre is s) pn ρ=eG Γ N s pn (frzN is ρ) by rw[zg]];exact e
section
variable {Γ:Nat->Option Fn} {ρ:Ro} {a b:IE} {r:gu} {T:Bool->Prop}
theorem jh(ha:Wp (bp Γ a ρ) λz=>z=NZ)(hb:Wp (bp Γ (.bool .Or (.cons b r)) ρ) T):Wp (bp Γ (.bool .Or (.cons a (.cons b r))) ρ) T:=fw (ha.mono λz e=>by subst e;exact⟨λ_=>hb,λh=>absurd rfl h⟩)
theorem jC{S:Str}(h:nX S d=NW NY)(ha:Wp (ak Γ a ρ) λx=>x.2=d):Wp (bp Γ (.not (.isi S a)) ρ) λz=>z=NZ:=iV (df rfl (d6 (ha.mono λx hx=>⟨NY,by rw[hx];exact h,NY,rfl,rfl⟩)))
theorem zM{S:Str}(h:nX S d=NW NZ)(ha:Wp (ak Γ a ρ) λx=>x.2=d):Wp (bp Γ (.isi S a) ρ) λz=>z=NZ:=df rfl (d6 (ha.mono λx hx=>⟨NZ,by rw[hx];exact h,NZ,rfl,rfl⟩))
theorem t5{Q:Bool->Prop}(h:Wp (ak Γ a ρ) λx=>Wp (ak Γ b ρ) λy=>Wp (bR op x.2 y.2) λr=>(r=NY->Wp (ak Γ d ρ) λz=>Wp (bR op' y.2 z.2) Q)/\(r=NZ->Q NZ)):Wp (bp Γ (.chain op op' a b d) ρ) Q:=by
 obtain⟨x,ex,y,ey,r,er,q1,q2⟩:=h
 cases r with
 |true=>
  obtain⟨z,ez,w,ew,q⟩:=q1 rfl;refine⟨w,?_,q⟩;rw[j6,ex,ey,ez];unfold fj;dsimp only;rw[er];dsimp only;rw[ew]
 |false=>
  refine⟨NZ,?_,q2 rfl⟩;rw[j6,ex,ey];unfold fj;dsimp only;rw[er]
theorem nh{i:Nat}{φ:Fn}(hΓ:Γ i=NW φ)(he:Wp (a7 Γ es ρ) λkds=>kds.map (·.2)=ds)(hφ:φ ds=NW (.sh,.bl NY)):Wp (bp Γ (.not (.fn i es)) ρ) λz=>z=NZ:=by
 refine iV (df rfl (bX hΓ (he.mono λkds hk=>bP ⟨(.sh,.bl NY),?_,rfl,.inr rfl,NY,rfl,rfl⟩)));rw[hk];exact hφ
theorem sr{i:Nat}{φ:Fn}{x:KD}{Q:KD->Prop}(hΓ:Γ i=NW φ)(he:Wp (a7 Γ es ρ) λkds=>kds.map (·.2)=ds/\(kds.all λp=>mC p.1 p.2)=NY)(hφ:φ ds=NW x)(hb:bZ x.1=NZ)(q:Q x):Wp (ak Γ (.fn i es) ρ) Q:=
 bX hΓ (he.mono λkds hk=>bP ⟨x,by rw[hk.1];exact hφ,hb,.inl hk.2,q⟩)
theorem zN{t:Nat}{r:Ow}{Q:KD->Prop}(q:Q (.fr (.own [] r),.dic t [] [])):Wp (ak Γ (.dnew t r) ρ) Q:=⟨_,by rw[vq];rfl,q⟩
theorem GY{n:Nat}(hh:yn (.nd hd ds)=NW n)(ha:Wp (ak Γ a ρ) λx=>x.2=.nd hd ds):Wp (ak Γ (.blt "len" (.cons a .nil)) ρ) λx=>x=(.sh,.int n):=by
 refine bx (ae (ha.mono λx hx=>ag ?_));obtain⟨kx,dx⟩:=x;cases(show dx=_ from hx);exact wx hh rfl
theorem cP{α:Type}{l:List α}{f:α->D}{hd:Hd}(hh:hd=.lst\/hd=.tup)(ha:Wp (ak Γ a ρ) λx=>x.2=.nd hd (l.map f)):Wp (ak Γ (.blt "len" (.cons a .nil)) ρ) λx=>x=(.sh,iD l.length):=
 GY (by rcases hh with rfl|rfl<;>exact congrArg NW (Li _)) ha
end
theorem lY{x:List Bool}{n:Nat}(h:x.length=n):D5 [.lst (x.map bD),iD n]=NW (.sh,.bl NY):=by
 unfold D5;refine bQ (c9 rfl ?_);unfold JU
 walk_at "nm"
 refine bh (z:=NZ) (jh (jC rfl (ad rfl rfl)) (ci (aP (iX (cP (l:=x) (.inl rfl) (ad rfl rfl)) (ad rfl (lS ?_)))))) (λe=>by cases e) λ_=>bE ?_
 ·rw[h,decide_eq_true rfl];rfl
 refine dN (bU (fS (ad rfl (cw rfl ⟨λs ρ=>∃x2,ρ=[NW ⟨NZ,.fz,.lst (x.map bD)⟩,NW ⟨NZ,.fz,iD n⟩,x2],⟨NX,rfl⟩,λs d ρ hd hI=>?_,λρ hI=>?_⟩))))
 ·obtain⟨x2,rfl⟩:=hI;have hd:(x.map bD)[s]?=NW d:=hd;rw[Ll] at hd
  cases e:x[s]? with
  |none=>rw[e] at hd;cases hd
  |some b=>
   rw[e] at hd;cases hd;refine⟨[(2,bD b)],rfl,rfl,?_⟩;show Wp (aL _ _ _ [] [NW ⟨NZ,.fz,.lst (x.map bD)⟩,NW ⟨NZ,.fz,iD n⟩,NW ⟨NZ,.fz,bD b⟩]) _;refine bh (z:=NZ) (jh (jC rfl (ad rfl rfl)) (jh (zM rfl (ad rfl rfl)) (ci (iV (t5 (af (ad rfl (wv ⟨λ_=>af (wv ?_),λe=>?_⟩)))))))) (λe=>by cases e) λ_=>bE (aM ⟨_,.inl rfl,_,rfl⟩)
   ·cases b<;>rfl
   ·cases b<;>exact absurd e (by decide)
 ·obtain⟨x2,rfl⟩:=hI;exact aW (au (af ⟨rfl,bw rfl rfl⟩))
theorem zO{i:Int}:(!decide (i=i))=NZ:=by simp
theorem Du{n:Nat}{s:Nat}(hd:((Ln (2^n)).map λi=>D.lst ((rb n i).map bD))[s]?=NW d):s<2^n/\d=.lst ((rb n s).map bD):=by
 rw[Ll] at hd
 cases e:(Ln (2^n))[s]? with
 |none=>rw[e] at hd;cases hd
 |some s'=>
  have hs:=(Lk.mp e).1;rw[Lz] at hs;rw[LQ hs] at hd;cases hd;exact⟨hs,rfl⟩
noncomputable def d8(d:D):Prop:=∃(xs:List Int) (s:Int),d=.lst ((xs++[s]).map D.int)/\(∀x∈xs,0<=x)/\0<=s/\s<2305843009213693951
theorem zP{ρ:Ro}{i:Nat}{Q:Kd×D×Ro->Prop}(h:ρ[i]?=NW (NW ⟨NZ,k0,.nd .lst (d::ds)⟩))(q:Q (.sh,d,ρ.set i (NW ⟨NZ,k0,.lst ds⟩))):Wp (a5 Γ (.mut "pop" (.nm i) (.cons (.lit (.int 0)) .nil)) ρ) Q:=by
 refine⟨_,?_,q⟩;rw[ik,a7,a7,qZ];show jm "pop" i (mU Γ.fn (.nm i) ρ) (NW [(.sh,.int 0)]) ρ=_;rw[mU,h]
 show(match jl "pop" [] .fz (d::ds) [(.sh,.int 0)],ρ[i]? with|some (d',ds'),NW (NW ⟨NZ,k,_⟩)=>NW (Kd.sh,d',ρ.set i (NW ⟨NZ,k,id (.lst ds')⟩))|_,_=>NX)=_
 have e0:seqIndex? 0 (d::ds).length=NW 0:=by unfold seqIndex?;simp
 have:jl "pop" [] .fz (d::ds) [(.sh,.int 0)]=NW (d,ds):=by
  show(if lC (.own [] .fz)=NY/\-(2^63)<=(0:Int)/\(0:Int)<2^63 then(match seqIndex? 0 (d::ds).length with|some j=>((d::ds)[j]?).map λx=>(x,(d::ds).eraseIdx j)|none=>NX) else NX)=_
  rw[if_pos ⟨rfl,by decide,by decide⟩,e0];rfl
 rw[this,h];rfl
theorem zQ{m:Nat}{Q:Kd×D×List (Option jv)->Prop}(h:d8 d)(hm:0<m)(hm2:m<2^64)(q:∀(r:Nat) d',r<m->d8 d'->Q (.sh,iD r,[NW (k0,d'),NX])):Wp (DY [(k0,d),(.fz,iD m)]) Q:=by
 have ml:((m:Nat):Int).natAbs<lim:=by
  rw[NF];exact MG hm2 (by unfold lim;decide)
 have rr:∀z:Int,∃r:Nat,z%(m:Int)=(r:Int)/\r<m:=λz=>by
  have h1:=Nl z (show(m:Int)≠0 by lia);have h2:=M5 z (show(0:Int)<(m:Int) by lia);exact⟨(z%(m:Int)).toNat,by lia,by lia⟩
 obtain⟨xs,s,rfl,hx,hs0,hs1⟩:=h;unfold DY;refine tN rfl ?_;unfold Jm
 walk_at "nm"
 cases xs with
 |nil=>
  refine bh (z:=NZ) (aP (bx (ae (ad rfl (ag (dw (af (f8 rfl)))))))) (λe=>by cases e) λ_=>bE ?_
  have hl1:s.natAbs<lim:=by
   have h1:s.natAbs<2^64:=by lia
   exact MG h1 (by unfold lim;decide)
  refine iw (au (aj (aj (aj (aH (ad rfl (af (am (n:=0) (d:=.int s) (.inl rfl) rfl rfl (af (kC ⟨hl1,by decide⟩ (af (bn (af (kE (by decide) (m7 rfl (af (eS rfl rfl rfl (d7 rfl ?_))))))))))))))))));have h1:=Nl (s*1181783497276652981+12345678910987) (show(2305843009213693951:Int)≠0 by decide);have h2:=M5 (s*1181783497276652981+12345678910987) (show(0:Int)<2305843009213693951 by decide);generalize (s*1181783497276652981+12345678910987)%2305843009213693951=t at h1 h2⊢;obtain⟨r,e,hr⟩:=rr (t / 65537);show Wp (aL _ _ _ _ [NW ⟨NZ,k0,.lst [.int t]⟩,ai (iD m),NX]) _;refine aW (au (aj (aj (aH (ad rfl (af (am (n:=0) (d:=.int t) (.inl rfl) rfl rfl (af (rR ⟨by decide,by decide⟩ (ad rfl (kE (by lia) ⟨rfl,gf rfl ?_⟩)))))))))));show Q (.sh,.int (t / 65537%(m:Int)),_);rw[e];exact q r (.lst [.int t]) hr ⟨[],t,rfl,λx hx=>by simp at hx,h1,h2⟩
 |cons x xs=>
  have hx0:=hx x LC;refine bh (z:=NY) (aP (bx (ae (ad rfl (ag (dw (af (f8 (decide_eq_true ?_))))))))) (λ_=>?_) λe=>by cases e
  ·rw[Li];simp;lia
  obtain⟨r,e,hr⟩:=rr x;refine aI (au (aj (aH (ad rfl (af (am (n:=0) (d:=.int x) (.inl rfl) rfl rfl (ad rfl (kE (by lia) ⟨⟨rfl,by decide⟩,?_⟩))))))));rw[e];refine iw (au (aj (aH (ad rfl (af (am (n:=0) (d:=.int x) (.inl rfl) rfl rfl (ad rfl (rR ⟨by lia,ml⟩ (m7 rfl (af (eS rfl rfl rfl (d7 (r:=(.lst,.int (x / (m:Int))::(xs++[s]).map D.int)) ?_ ?_))))))))))))
  ·show(match i4 ((x::xs++[s]).map D.int).length 0 with|some j=>if cy .fz (.sh,.int (x / (m:Int)))=NY then NW (Hd.lst,((x::xs++[s]).map D.int).set j (.int (x / (m:Int)))) else NX|none=>NX)=_
   rw[iq (by decide) (by simp;lia)];rfl
  have hq0:0<=x / (m:Int):=Int.ediv_nonneg hx0 (by lia);have hxs:∀y∈xs,0<=y:=λy hy=>hx y (Lu _ hy);show Wp (aL _ _ _ _ [NW ⟨NZ,k0,.lst (.int (x / (m:Int))::(xs++[s]).map D.int)⟩,ai (iD m),ai (iD r)]) _;refine bh (z:=decide (x / (m:Int)=0)) (aP (aH (ad rfl (af (am (n:=0) (d:=.int (x / (m:Int))) (.inl rfl) rfl rfl (af (f9 rfl))))))) (λ_=>?_) λ_=>bE ?_
  ·refine cG (zP rfl (aM (br (aW (au (ad rfl ⟨rfl,ge (gf rfl (q r _ hr ⟨xs,s,rfl,hxs,hs0,hs1⟩))⟩))))))
  ·refine aW (au (ad rfl ⟨rfl,ge (gf rfl (q r _ hr ⟨x / (m:Int)::xs,s,rfl,λy hy=>?_,hs0,hs1⟩))⟩));rcases Lq.mp hy with rfl|hy
   ·exact hq0
   ·exact hxs y hy
theorem dc{Γ:GG}{ρ:Ro}{i m:Nat}{Q:Kd×D×Ro->Prop}(hΓ:Γ.fm 15=NW DY)(hρ:ρ[i]?=NW (NW ⟨NZ,k0,d⟩))(h:d8 d)(he:Wp (ak Γ.fn e ρ) λx=>x=(.sh,iD m))(hm:0<m)(hm2:m<2^64)(q:∀(r:Nat) d',r<m->d8 d'->Q (.sh,iD r,ρ.set i (NW ⟨NZ,k0,d'⟩))):Wp (a5 Γ (.io 15 (.ref i (.val (.p e) .nil))) ρ) Q:=by
 refine kG hΓ (fy hρ (eQ (au (he.mono λx hx=>?_))));subst hx;refine⟨rfl,fx ⟨by simp[cK],[(k0,d),(.fz,iD m)],?_,zQ h hm hm2 λr d' hr hs=>⟨rfl,rfl,q r d' hr hs⟩⟩⟩
 show(match ρ[i]?,NW [((.fz:Ow),iD m)] with|some (NW ⟨NZ,k,d⟩),NW ks=>NW ((k,d)::ks)|_,_=>NX)=_
 rw[hρ]
theorem AT{f:D->Option (Option KD)}(P:D->Prop):∀{ds:List D},(∀d∈ds,Wp (f d) λo=>o=NX\/∃kd,o=NW kd/\cy r kd=NY/\P kd.2)->Wp (ba r f ds) λys=>ys.length<=ds.length/\∀y∈ys,P y
 |[],_=>⟨[],rfl,Lo _,λy hy=>by simp at hy⟩
 |d::ds,h=>by
  obtain⟨ys,e1,l1,p1⟩:=AT P (ds:=ds) λx hx=>h x (Lu _ hx);obtain⟨o,e2,ho⟩:=h d LC;rcases ho with rfl|⟨kd,rfl,hf,hp⟩
  ·exact⟨ys,by simp[ba,e1,e2],by simp;lia,p1⟩
  ·refine⟨kd.2::ys,by simp[ba,e1,e2,hf],by simp;lia,λy hy=>?_⟩;rcases Lq.mp hy with rfl|hy
   ·exact hp
   ·exact p1 y hy
theorem Dv{ft:Ro->Option Bool}{fe:Ro->Option KD}{Q:Option KD->Prop}(h1:nY tg d=NW ps)(h2:dG ps ρ0=NY)(h:Wp (ft (setAll ps ρ0)) λb=>(b=NY->Wp (fe (setAll ps ρ0)) λx=>Q (NW x))/\(b=NZ->Q NX)):Wp (eL tg ft fe ρ0 d) Q:=by
 obtain⟨b,eb,q1,q2⟩:=h
 cases b with
 |true=>exact wD h1 h2 eb (q1 rfl)
 |false=>exact⟨NX,by unfold eL;rw[h1];dsimp only;rw[if_pos h2,eb],q2 rfl⟩
theorem xb{Q:KD->Prop}{i:Int}(q:Q (.sh,.int (if i<0 then -i else i))):Wp (eW "abs" [(k,.int i)]) Q:=⟨_,rfl,q⟩
theorem ip:∀{ys:List D},(∀y∈ys,∃z:Int,y=.int z/\0<=z)->∃zs:List Int,ys=zs.map D.int/\∀z∈zs,0<=z
 |[],_=>⟨[],rfl,λz hz=>by simp at hz⟩
 |y::ys,h=>by
  obtain⟨zs,rfl,hz⟩:=ip (ys:=ys) λx hx=>h x (Lu _ hx);obtain⟨z,rfl,h0⟩:=h y LC;exact⟨z::zs,rfl,λx hx=>(Lq.mp hx).elim (λe=>e▸h0) (hz x)⟩
theorem xc{ns:List Int}(hl:ns.length<=63){Q:KD->Prop}(q:∀d,d8 d->Q (.fr k0,d)):Wp (GH [.scr ns]) Q:=by
 obtain⟨ms,em,lm⟩:∃ms:List Int,k6 (ns.map D.int) NX (NW 63)=ms.map D.int/\ms.length<=63:=by
  refine⟨(ns.drop (HT.jI (ns.map D.int).length 0 NX)).take (HT.jI (ns.map D.int).length (ns.map D.int).length (NW 63)-HT.jI (ns.map D.int).length 0 NX),?_,?_⟩
  ·unfold k6;rw[List.map_take,List.map_drop]
  ·rw[LU,NQ];lia
 have hsl:∀{Γ:Nat->Option Fn} {ρ:Ro} {R:KD->Prop},ρ[0]?=NW (NW ⟨NZ,.fz,.scr ns⟩)->R (.fr bv,.lst (ms.map D.int))->Wp (ak Γ (.sl (.var 0) .non (.som (.lit (.int 63)))) ρ) R:=λh q=>AF (ad h (qf (wq (af ⟨63,rfl,⟨(.fr bv,.lst (k6 (ns.map D.int) NX (NW 63))),rfl,by rw[em];exact q⟩⟩))));unfold GH;refine c9 rfl ?_;unfold Jp
 walk_at "nm"
 refine aI (au (af ⟨⟨rfl,by decide⟩,?_⟩));refine dN (bU (fS (hsl rfl (cw rfl ⟨λs ρ=>∃(t:Int) (x2:Option Sl),ρ=[ai (.scr ns),ai (.int t),x2]/\0<=t/\t<2305843009213693951,⟨1000003,NX,rfl,by decide,by decide⟩,λs d ρ hd hI=>?_,λρ hI=>?_⟩))))
 ·obtain⟨t,x2,rfl,h0,h1⟩:=hI;have hd:(ms.map D.int)[s]?=NW d:=hd;rw[Ll] at hd
  cases e:ms[s]? with
  |none=>rw[e] at hd;cases hd
  |some z=>
   rw[e] at hd;cases hd;refine⟨[(2,.int z)],rfl,rfl,?_⟩;show Wp (aL _ _ _ [] [ai (.scr ns),ai (.int t),ai (.int z)]) _;have hl1:t.natAbs<lim:=MG (show t.natAbs<2^64 by lia) (by unfold lim;decide);refine aI (au (aj (aj (aj (aj (ad rfl (af (kC ⟨hl1,by decide⟩ (aj (ad rfl (aj (af (af (qg (by decide) (kE (by decide) (bn (af (bn (af (kE (by decide) ⟨⟨rfl,by decide⟩,aM ⟨_,.inl rfl,_,_,rfl,Nl _ (by decide),M5 _ (by decide)⟩⟩))))))))))))))))))))
 ·obtain⟨t,x2,rfl,h0,h1⟩:=hI;refine aW (au (aj (jB (fS (hsl rfl (cw rfl ⟨by rw[Li];lia,(AT (λy=>∃z:Int,y=.int z/\0<=z) λd hd=>?_).mono λys hy=>?_⟩))))))
  ·obtain⟨z,_,rfl⟩:=LX.mp hd;refine Dv (ps:=[(1,.int z)]) rfl rfl (aP (bx (ae (ad rfl (ag (xb (aj (af (af (qg (by decide) (AG ⟨λ_=>bx (ae (ad rfl (ag (xb (.inr ⟨_,rfl,rfl,_,rfl,?_⟩))))),λ_=>.inl rfl⟩)))))))))))
   split<;>lia
  ·obtain⟨zs,rfl,hz⟩:=ip hy.2;rw[Li,Li] at hy;refine bc (ae (ad rfl (ag (a8 rfl (kF ⟨rfl,rfl,by simp;lia⟩ ⟨rfl,bw rfl (q _ ⟨zs,t,?_,hz,h0,h1⟩)⟩)))));rw[Lw];rfl
theorem zR{xs:List Nat}{Q:Kd×D×List (Option jv)->Prop}(h:d8 d)(hl:0<xs.length)(hl2:xs.length<1000)(q:∀(x:Nat) d',x∈xs->d8 d'->Q (.sh,iD x,[NW (k0,d'),NX])):Wp (Dl [(k0,d),(.fz,.lst (xs.map iD))]) Q:=by
 unfold Dl;refine tN rfl ?_;unfold Jz
 walk_at "nm"
 refine aW (lU (aN (au (ad rfl ⟨rfl,aQ (dc (m:=xs.length) rfl rfl h (cP (l:=xs) (.inl rfl) (ad rfl rfl)) hl (by lia) λr d' hr hs=>ag ⟨_,_,rfl,am (n:=r) (d:=iD (xs.getD r 0)) (.inl rfl) rfl (r8 hr) ⟨rfl,gf rfl (q _ _ ?_ hs)⟩⟩)⟩))));rw[LB,Lm hr];exact Mi hr
theorem pick{Γ:GG}{ρ:Ro}{i:Nat}{xs:List Nat}{Q:Kd×D×Ro->Prop}(hΓ:Γ.fm 20=NW Dl)(hρ:ρ[i]?=NW (NW ⟨NZ,k0,d⟩))(h:d8 d)(he:Wp (ak Γ.fn e ρ) λx=>x=(.sh,.lst (xs.map iD)))(hl:0<xs.length)(hl2:xs.length<1000)(q:∀(x:Nat) d',x∈xs->d8 d'->Q (.sh,iD x,ρ.set i (NW ⟨NZ,k0,d'⟩))):Wp (a5 Γ (.io 20 (.ref i (.val (.p e) .nil))) ρ) Q:=by
 refine kG hΓ (fy hρ (eQ (au (he.mono λx hx=>?_))));subst hx;refine⟨rfl,fx ⟨by simp[cK],[(k0,d),(.fz,.lst (xs.map iD))],?_,zR h hl hl2 λr d' hr hs=>⟨rfl,rfl,q r d' hr hs⟩⟩⟩
 show(match ρ[i]?,NW [((.fz:Ow),D.lst (xs.map iD))] with|some (NW ⟨NZ,k,d⟩),NW ks=>NW ((k,d)::ks)|_,_=>NX)=_
 rw[hρ]
theorem J8:∀r,r<8->∃n,n<=3/\[iD 0,iD 1,iD 1,iD 2,iD 2,iD 2,iD 3,iD 3][r]?=NW (iD n)
 |0,_=>⟨0,by decide,rfl⟩
 |1,_=>⟨1,by decide,rfl⟩
 |2,_=>⟨1,by decide,rfl⟩
 |3,_=>⟨2,by decide,rfl⟩
 |4,_=>⟨2,by decide,rfl⟩
 |5,_=>⟨2,by decide,rfl⟩
 |6,_=>⟨3,by decide,rfl⟩
 |7,_=>⟨3,by decide,rfl⟩
 |n+8,h=>by lia
theorem J9:∀n,n<=3->[iD 2,iD 4,iD 16,iD 256][n]?=NW (iD (2^2^n))/\2^2^n<=256
 |0,_=>⟨rfl,by decide⟩
 |1,_=>⟨rfl,by decide⟩
 |2,_=>⟨rfl,by decide⟩
 |3,_=>⟨rfl,by decide⟩
 |n+4,h=>by lia
noncomputable def zS(below:Nat)(g:Nat×List Nat):Prop:=g.2.length<=3/\g.1<2^2^g.2.length/\∀p∈g.2,p<below
theorem zT{below:Nat}{Q:Kd×D×List (Option jv)->Prop}(h:d8 d)(hb:below<1000)(q:∀g d',zS below g->d8 d'->Q (.sh,aJ g,[NW (k0,d'),NX])):Wp (GI [(k0,d),(.fz,iD below)]) Q:=by
 have tail:∀(n:Nat) (d:D),n<=3->(below=0->n=0)->d8 d->Wp (aL Γ_16 1000 (match Go with|.cons _ (.cons _ r)=>r|r=>r) [0] [NW ⟨NZ,k0,d⟩,ai (iD below),ai (iD n),NX,NX,NX]) λr=>Wp (kB 2 [0] (NW r)) Q:=by
  intro n d hn hn0 h;unfold Go;refine aI (au (bc (ag (a8 rfl ⟨⟨rfl,by decide⟩,?_⟩))));refine dN (bU (gG (af (ad rfl (fA (cn (by lia) (by lia) (by lia) (by lia) (by lia)) ⟨λs ρ=>∃d ps x4 x5,ρ=[NW ⟨NZ,k0,d⟩,ai (iD below),ai (iD n),NW ⟨NZ,k0,.lst (L4 iD ps)⟩,x4,x5]/\d8 d/\ps.length=s/\s<=n/\∀p∈ps,p<below,⟨d,[],NX,NX,rfl,h,rfl,LF _,λp hp=>by simp at hp⟩,λs x ρ hd hI=>?_,λρ hI=>?_⟩)))))
  ·obtain⟨d,ps,x4,x5,rfl,hS,hl,hs,hp⟩:=hI;obtain⟨rfl,hj⟩:=iu hd
   have hb0:0<below:=by
    rcases Nat.eq_zero_or_pos below with e|e
    ·have:=hn0 e;lia
    ·exact e
   refine⟨[(4,.int (0+s))],rfl,rfl,?_⟩;show Wp (aL _ _ _ [0] [NW ⟨NZ,k0,d⟩,ai (iD below),ai (iD n),NW ⟨NZ,k0,.lst (L4 iD ps)⟩,ai (.int (0+s)),NX]) _;refine aI (qi (aN (au (ad rfl ⟨rfl,aQ (lU (aN (au (bc (ae (ad rfl (ae (af (ag (a8 rfl ⟨rfl,aQ (dc (m:=2) rfl rfl hS (af rfl) (by decide) (by decide) λr d' hr hS'=>ag ⟨_,_,rfl,?_⟩)⟩))))))))))⟩))))
   obtain⟨z,hz,hz0,hz1⟩:∃z:Nat,[iD below,iD 4][r]?=NW (iD z)/\0<z/\(z=below\/z=4):=by
    match r,hr with
    |0,_=>exact⟨below,rfl,hb0,.inl rfl⟩
    |1,_=>exact⟨4,rfl,by decide,.inr rfl⟩
   refine am (n:=r) (d:=iD z) (.inl rfl) rfl hz (ag (wy ⟨⟨rfl,by decide⟩,?_⟩))
   obtain⟨w,hw,hw0,hw1⟩:∃w:Nat,(if(z:Int)<(below:Int) then(z:Int) else(below:Int))=(w:Int)/\0<w/\w<=below:=by
    by_cases hzb:(z:Int)<(below:Int)
    ·exact⟨z,if_pos hzb,hz0,by lia⟩
    ·exact⟨below,if_neg hzb,hb0,Lo _⟩
   show Wp (aL _ _ _ [0] [NW ⟨NZ,k0,d'⟩,ai (iD below),ai (iD n),NW ⟨NZ,k0,.lst (L4 iD ps)⟩,ai (.int (0+s)),ai (.int (if(z:Int)<(below:Int) then(z:Int) else(below:Int)))]) _
   rw[hw];refine cG (qj rfl (m5 (aN (au (aj (ad rfl (af (cL ⟨rfl,aQ (dc (m:=w) rfl rfl hS' (ad rfl rfl) hw0 (by lia) λr2 d2 hr2 hS2=>ag ⟨_,_,rfl,cL ⟨[],.fz,_,rfl,⟨LF _,rfl,by rw[Li];lia⟩,aM ⟨_,.inl rfl,d2,ps++[below-1-r2],ai (.int (0+s)),ai (iD w),?_,hS2,by simp;lia,by lia,λp hp'=>?_⟩⟩⟩)⟩))))))))
   ·have e1:((below:Int)-1-(r2:Int))=((below-1-r2:Nat):Int):=by lia
    show [NW ⟨NZ,k0,d2⟩,ai (iD below),ai (iD n),NW ⟨NZ,k0,.lst (L4 iD ps++[.int ((below:Int)-1-(r2:Int))])⟩,ai (.int (0+s)),ai (iD w)]=_;rw[e1,Lw];rfl
   ·rcases Md.mp hp' with h1|h1
    ·exact hp p h1
    ·cases L6.mp h1;lia
  ·obtain⟨d,ps,x4,x5,rfl,hS,hl,hs,hp⟩:=hI;have hl:ps.length=(cY 0 (n:Int)).length:=hl;rw[cW,Li,Lz] at hl;obtain⟨t1,t2⟩:=J9 n hn;refine aW (cN (aQ (dc (m:=2^2^n) rfl rfl hS (aH (bc (ae (af (ae (af (ae (af (ae (af (ag (a8 rfl (ad rfl (am (n:=n) (.inl rfl) rfl t1 rfl)))))))))))))) (MD _) (by lia) λr d' hr hS'=>ae (bx (ae (ad rfl (ag (c7 rfl (ag (aR rfl ⟨rfl,gf rfl (q (r,ps) d' ⟨by show ps.length<=3;lia,by show r<2^2^ps.length;rw[hl];exact hr,hp⟩ hS')⟩))))))))))
 unfold GI;refine tN rfl ?_;unfold Go at tail⊢
 walk_at "nm"
 refine aI (lU (aN (au (bc (ae (af (ae (af (ae (af (ae (af (ae (af (ae (af (ae (af (ae (af (ag (a8 rfl ⟨rfl,aQ (dc (m:=8) rfl rfl h (af rfl) (by decide) (by decide) λr d' hr hS=>ag ⟨_,_,rfl,?_⟩)⟩))))))))))))))))))))));obtain⟨n,hn,en⟩:=J8 r hr;refine am (n:=r) (d:=iD n) (.inl rfl) rfl en ⟨⟨rfl,by decide⟩,?_⟩;show Wp (aL _ _ _ [0] [NW ⟨NZ,k0,d'⟩,ai (iD below),ai (iD n),NX,NX,NX]) _;refine bh (z:=decide ((below:Int)=0)) (aP (ad rfl (af (f9 rfl)))) (λe=>?_) λe=>bE (tail n d' hn (λe0=>?_) hS)
 ·exact aI (au (af ⟨⟨rfl,by decide⟩,aM (br (tail 0 d' (by lia) (λ_=>rfl) hS))⟩))
 ·have:=of_decide_eq_false e;lia
theorem zU{r p:Nat}(h:r<2):D.tup [iD r,iD p]=a6 (decide (r=1),p):=by
 match r,h with
 |0,_=>rfl
 |1,_=>rfl
theorem fP{α:Type}{P:α->Prop}{l:List α}{x:α}(h:∀y∈l,P y)(hx:P x):∀y∈l++[x],P y:=λy hy=>(Md.mp hy).elim (h y) λz=>by cases L6.mp z;exact hx
theorem GOk.snoc{n:Nat}{gs:List (Nat×List Nat)}{g:Nat×List Nat}(h:GOk n gs)(hg:zS (n+gs.length) g):GOk n (gs++[g]):=λk x hx=>by
 rcases oO hx with h1|⟨rfl,rfl⟩
 ·exact h k x h1
 ·exact hg
structure Bd(c:Ci)(i m g o:Nat):Prop where
 i:c.ins<=i
 m:c.mems.length<=m
 g:c.gates.length<=g
 o:c.outs.length<=o
theorem draws{Γ:GG}{n:Nat}{k:Nat}{a:Option Sl}{R:List D×Ro->Prop}(hΓ:Γ.fm 15=NW DY)(hn:0<n)(hn2:n<1000)(h:d8 d)(q:∀(ps:List Nat) d',ps.length=k->(∀p∈ps,p<n)->d8 d'->R (ps.map iD,[NX,NX,NX,ai (iD n),NW ⟨NZ,k0,d'⟩])) :
  Wp (aK .fz (fv [NX,NX,NX,NW 6,NW 0] (.nm 1) (km Γ .non) (a5 Γ (.io 15 (.ref 4 (.val (.p (.var 3)) .nil))))) ((Ln k).map iD) [NX,NX,NX,ai (iD n),NW ⟨NZ,k0,d⟩]) R:=by
 refine oH (λj ys ρ=>∃(ps:List Nat) (d:D),ys=ps.map iD/\ps.length=j/\(∀p∈ps,p<n)/\d8 d/\ρ=[NX,NX,NX,ai (iD n),NW ⟨NZ,k0,d⟩]) ⟨[],d,rfl,rfl,λp hp=>by simp at hp,h,rfl⟩ (λj x ys ρ hx hI=>?_) λys ρ hI=>?_
 ·obtain⟨ps,d,rfl,hl,hp,hS,rfl⟩:=hI;refine kH (ps:=[(1,x)]) rfl ⟨rfl,rfl⟩ rfl (dc (m:=n) hΓ rfl hS (ad rfl rfl) hn (by lia) λr d' hr hS'=>⟨_,rfl,rfl,ps++[r],d',?_,by simp[hl],fP hp hr,hS',rfl⟩);rw[Lw];rfl
 ·obtain⟨ps,d,rfl,hl,hp,hS,rfl⟩:=hI;exact q ps d (by rw[hl,Li,Lz]) hp hS
theorem kU{s0 s1 s2 s3:Nat}{Q:Kd×D×List (Option jv)->Prop}(h:d8 d)(h0:s0<=6)(h1:s1<=9)(h2:s2<=9)(h3:s3<=9)(q:∀c d',Ok c->Bd c s0 s1 s2 s3->d8 d'->Q (.sh,cD c,[NW (k0,d'),NX])):Wp (DZ [(k0,d),(.fz,.lst [iD s0,iD s1,iD s2,iD s3])]) Q:=by
 unfold DZ;refine tN rfl ?_;unfold Ju
 walk_at "nm"
 have add1:∀n:Nat,(.sh,D.int ((n:Int)+1))=((.sh,iD (n+1)):KD):=λn=>rfl;refine aI (dc (m:=s0+1) rfl rfl h (aj (aH (ad rfl (af (am (n:=0) (d:=iD s0) (.inl rfl) rfl rfl (af (bn rfl))))))) (by lia) (by lia) λi d hi h=>⟨⟨rfl,by decide⟩,?_⟩);refine aI (dc (m:=s1+1) rfl rfl h (aj (aH (ad rfl (af (am (n:=1) (d:=iD s1) (.inl rfl) rfl rfl (af (bn rfl))))))) (by lia) (by lia) λm d hm h=>⟨⟨rfl,by decide⟩,?_⟩);refine aI (au (bc (ag (a8 rfl ⟨⟨rfl,by decide⟩,?_⟩))));refine dN (m6 (dc (m:=s2+1) rfl rfl h (aj (aH (ad rfl (af (am (n:=2) (d:=iD s2) (.inl rfl) rfl rfl (af (bn rfl))))))) (by lia) (by lia) λg d hg h=>fA (cn (by lia) (by lia) (by lia) (by lia) (by lia)) ⟨λs ρ=>∃d gs x5,ρ=[NW ⟨NZ,k0,d⟩,ai (.lst [iD s0,iD s1,iD s2,iD s3]),ai (iD i),ai (iD m),NW ⟨NZ,k0,.lst (L4 aJ gs)⟩,x5,NX,NX,NX]/\d8 d/\gs.length=s/\GOk (i+m) gs,⟨d,[],NX,rfl,h,rfl,λk x hx=>by simp at hx⟩,λs x ρ hd hI=>?_,λρ hI=>?_⟩))
 ·obtain⟨d,gs,x5,rfl,hS,hl,hG⟩:=hI;obtain⟨rfl,hj⟩:=iu hd;refine⟨[(5,.int (0+s))],rfl,rfl,?_⟩;rw[NE] at hj⊢;show Wp (aL _ _ _ [0] [NW ⟨NZ,k0,d⟩,ai (.lst [iD s0,iD s1,iD s2,iD s3]),ai (iD i),ai (iD m),NW ⟨NZ,k0,.lst (L4 aJ gs)⟩,ai (iD s),NX,NX,NX]) _;refine cG (qj rfl (kG (φ:=GI) rfl (fy (i:=0) rfl (eQ (au (aj (aj (ad rfl (ad rfl (bn (ad rfl (bn ⟨rfl,fx ⟨by simp[cK],[(k0,d),(.fz,iD (i+m+s))],rfl,zT hS (by lia) λg d' hg hS'=>⟨rfl,rfl,[],.fz,_,rfl,⟨LF _,rfl,by rw[Li];lia⟩,aM ⟨_,.inl rfl,d',gs++[g],ai (iD s),?_,hS',by simp[hl],hG.snoc (by rw[hl];exact hg)⟩⟩⟩⟩))))))))))));rw[Lw];rfl
 ·obtain⟨d,gs,x5,rfl,hS,hl,hG⟩:=hI;have hl:gs.length=(cY 0 (g:Int)).length:=hl;rw[cW,Li,Lz] at hl;show Wp (aL _ _ _ [0] [NW ⟨NZ,k0,d⟩,ai (.lst [iD s0,iD s1,iD s2,iD s3]),ai (iD i),ai (iD m),NW ⟨NZ,k0,.lst (L4 aJ gs)⟩,NX,NX,NX,NX]) _;refine aI (au (aj (aj (ad rfl (ad rfl (bn (iX (cP (l:=gs) (.inl rfl) (ad rfl rfl)) (bn ⟨⟨rfl,by decide⟩,?_⟩))))))));have en:∃n:Nat,n=i+m+gs.length:=⟨_,rfl⟩;obtain⟨n,en⟩:=en;show Wp (aL _ _ _ [0] [NW ⟨NZ,k0,d⟩,ai (.lst [iD s0,iD s1,iD s2,iD s3]),ai (iD i),ai (iD m),NW ⟨NZ,k0,.lst (L4 aJ gs)⟩,NX,ai (iD (i+m+gs.length)),NX,NX]) _;rw[<- en]
  have fin:∀(ms:List (Bool×Nat)) (os:List Nat) (d:D),ms.length=m->(∀x∈ms,x.2<n)->(∀o∈os,o<n)->os.length<=s3->d8 d->Q (.sh,cD ⟨i,ms,gs,os⟩,[NW (k0,d),NX]):=λms os d hm' hms hos hl3 hS=>by
   have en':Ci.n ⟨i,ms,gs,os⟩=n:=by show i+ms.length+gs.length=n;lia
   refine q ⟨i,ms,gs,os⟩ d ⟨?_,λx hx=>by rw[en'];exact hms x hx,λo ho=>by rw[en'];exact hos o ho,?_,?_,?_,?_⟩ ⟨?_,?_,?_,?_⟩ hS
   ·show GOk (i+ms.length) gs;rw[hm'];exact hG
   ·show i<=6;lia
   ·show ms.length<=100;lia
   ·show gs.length<=100;lia
   ·show os.length<=100;lia
   ·show i<=s0;lia
   ·show ms.length<=s1;lia
   ·show gs.length<=s2;lia
   ·exact hl3
  have hlen:(cY 0 ((m:Nat):Int)).length=m:=by rw[cW,Li,Lz]
  refine aI (eP (bU (gG (af (ad rfl (fA (cn (by lia) (by lia) (by lia) (by lia) (by lia)) ⟨rfl,by show(cY 0 (m:Int)).length<=_;lia,?_⟩))))));show Wp (aK .fz _ (cY 0 (m:Int)) [NX,NX,NX,ai (iD n),NW ⟨NZ,k0,d⟩]) _;refine oH (λj ys ρ=>∃(ms:List (Bool×Nat)) (d:D),ys=ms.map a6/\ms.length=j/\(∀x∈ms,x.2<n)/\d8 d/\ρ=[NX,NX,NX,ai (iD n),NW ⟨NZ,k0,d⟩]) ⟨[],d,rfl,rfl,λp hp=>by simp at hp,hS,rfl⟩ (λj x ys ρ hx hI=>?_) λys ρ hI=>?_
  ·obtain⟨ms,d,rfl,hl',hms,hS,rfl⟩:=hI;obtain⟨rfl,hj⟩:=iu hx;refine kH (ps:=[(1,.int (0+j))]) rfl ⟨rfl,rfl⟩ rfl (cN (aN (dc (m:=2) rfl rfl hS (af rfl) (by decide) (by decide) λr1 d1 hr1 hS1=>⟨rfl,aQ (dc (m:=n) rfl rfl hS1 (ad rfl rfl) (by lia) (by lia) λr2 d2 hr2 hS2=>ag (aR rfl ⟨_,rfl,rfl,ms++[(decide (r1=1),r2)],d2,?_,by simp[hl'],fP hms hr2,hS2,rfl⟩))⟩)));show ms.map a6++[D.tup [iD r1,iD r2]]=(ms++[(decide (r1=1),r2)]).map a6;rw[zU hr1,Lw];rfl
  ·obtain⟨ms,d,rfl,hl',hms,hS,rfl⟩:=hI;have hl':ms.length=(cY 0 (m:Int)).length:=hl';rw[hlen] at hl';refine⟨rfl,⟨rfl,by decide⟩,?_⟩;show Wp (aL _ _ _ [0] [NW ⟨NZ,k0,d⟩,ai (.lst [iD s0,iD s1,iD s2,iD s3]),ai (iD i),ai (iD m),NW ⟨NZ,k0,.lst (L4 aJ gs)⟩,NX,ai (iD n),NW ⟨NZ,k0,.lst (L4 a6 ms)⟩,NX]) _;refine aI (au (bc (ag (a8 rfl ⟨⟨rfl,by decide⟩,?_⟩))));refine bh (z:=decide ((0:Int)<(n:Int))) (aP (ad rfl (af (f8 rfl)))) (λe=>?_) λe=>bE ?_
   ·have e:(0:Int)<(n:Int):=of_decide_eq_true e;refine aI (eP (m6 (dc (m:=s3+1) rfl rfl hS (aj (aH (ad rfl (af (am (n:=3) (d:=iD s3) (.inl rfl) rfl rfl (af (bn rfl))))))) (by lia) (by lia) λk d hk hS=>fA (cn (by lia) (by lia) (by lia) (by lia) (by lia)) ⟨rfl,?_,?_⟩)))
    ·show(cY 0 (k:Int)).length<=_;rw[cW,Li,Lz];lia
    show Wp (aK .fz _ (cY 0 (k:Int)) [NX,NX,NX,ai (iD n),NW ⟨NZ,k0,d⟩]) _;rw[cW];refine draws (a:=NX) rfl (by lia) (by lia) hS λos d hlo hos hS=>⟨rfl,⟨rfl,by decide⟩,aM (br ?_)⟩;show Wp (aL _ _ _ [0] [NW ⟨NZ,k0,d⟩,ai (.lst [iD s0,iD s1,iD s2,iD s3]),ai (iD i),ai (iD m),NW ⟨NZ,k0,.lst (L4 aJ gs)⟩,NX,ai (iD n),NW ⟨NZ,k0,.lst (L4 a6 ms)⟩,NW ⟨NZ,k0,.lst (os.map iD)⟩]) _;exact aW (cN (aN (au (ad rfl ⟨rfl,aN (c8 rfl ⟨rfl,aN (c8 rfl ⟨rfl,aQ (c8 rfl (ag (aR rfl ⟨rfl,gf rfl (fin ms os d hl' hms hos (by lia) hS)⟩)))⟩)⟩)⟩))))
   ·exact aW (cN (aN (au (ad rfl ⟨rfl,aN (c8 rfl ⟨rfl,aN (c8 rfl ⟨rfl,aQ (c8 rfl (ag (aR rfl ⟨rfl,gf rfl (fin ms [] d hl' hms (λo ho=>by simp at ho) (LF _) hS)⟩)))⟩)⟩)⟩))))
theorem xf{f:D->Ro->Option (Option KD×Ro)}(S:Ro->Prop)(P:D->Prop):∀{ds:List D} {ρ:Ro},S ρ->(∀d∈ds,∀ρ,S ρ->Wp (f d ρ) λo=>S o.2/\∀kd,o.1=NW kd->cy r kd=NY/\P kd.2)->Wp (aK r f ds ρ) λz=>(z.1.length<=ds.length/\∀y∈z.1,P y)/\S z.2
 |[],ρ,h0,_=>⟨([],ρ),rfl,⟨Lo _,λy hy=>by simp at hy⟩,h0⟩
 |d::ds,ρ,h0,h=>by
  obtain⟨⟨o,ρ1⟩,e1,s1,k1⟩:=h d LC ρ h0;obtain⟨⟨ys,ρ2⟩,e2,⟨l2,p2⟩,s2⟩:=xf S P (ds:=ds) (ρ:=ρ1) s1 λx hx=>h x (Lu _ hx)
  cases o with
  |none=>exact⟨(ys,ρ2),by unfold aK;rw[e1];exact e2,⟨by simp at l2⊢;lia,p2⟩,s2⟩
  |some kd=>
   obtain⟨hf,hp⟩:=k1 kd rfl;refine⟨(kd.2::ys,ρ2),by unfold aK;rw[e1];dsimp only;rw[if_pos hf,e2],⟨by simp at l2⊢;lia,λy hy=>?_⟩,s2⟩;rcases Lq.mp hy with rfl|hy
   ·exact hp
   ·exact p2 y hy
theorem ss{n:Nat}:∀{ys:List D},(∀y∈ys,∃z:Nat,y=iD z/\z<n)->∃zs:List Nat,ys=zs.map iD/\∀z∈zs,z<n
 |[],_=>⟨[],rfl,λz hz=>by simp at hz⟩
 |y::ys,h=>by
  obtain⟨zs,rfl,hz⟩:=ss (ys:=ys) λx hx=>h x (Lu _ hx);obtain⟨z,rfl,h0⟩:=h y LC;exact⟨z::zs,rfl,λx hx=>(Lq.mp hx).elim (λe=>e▸h0) (hz x)⟩
theorem Dw{Q:Kd×D×Ro->Prop}(h:Wp (aU Γ as ρ) λp=>∃x y,p.1=[x,y]/\Wp (pS x y) λr=>Q (r.1,r.2,p.2)):Wp (a5 Γ (.slh as) ρ) Q:=by
 rw[yX];exact lT (h.mono λp ⟨x,y,e,w⟩=>by rw[e];exact w)
theorem Ka{xs:List D}{n:Nat}{Q:KD->Prop}(h:gm k xs=NY)(q:Q (.fr bv,.lst (xs.take n))):Wp (pS (k,.nd .lst xs) (k',iD n)) Q:=by
 refine⟨_,if_pos h,?_⟩;unfold k6;rw[HT.xM,HT.uF,List.drop_zero,Nat.sub_zero];by_cases hn:n<=xs.length
 ·rw[Nat.min_eq_left hn];exact q
 ·rw[Nat.min_eq_right (by lia),Ma,<- Nq (i:=n) (show xs.length<=n by lia)];exact q
noncomputable abbrev lD(l:List Nat):D:=.lst (l.map iD)
theorem oQ{es:List Ow}{ds:List D}{x:KD}(h:es.length<=ds.length/\cy r x=NY/\ds.length<100000):jl "append" es r ds [x]=NW (.non,ds++[x.2]):=if_pos h
theorem xg{Γ:GG}{ρ:Ro}{i j:Nat}{ls:List (List Nat)}{l:List Nat}{x:Nat}{Q:Kd×D×Ro->Prop}(h:ρ[i]?=NW (NW ⟨NZ,.own [] k0,.nd .lst (ls.map lD)⟩))(he:Wp (ak Γ.fn e ρ) λy=>y.2=iD j)(hj:ls[j]?=NW l)(hx:Wp (ak Γ.fn e' ρ) λy=>y=(.sh,iD x))(hl:l.length<1000)(q:Q (.sh,.non,ρ.set i (NW ⟨NZ,.own [] k0,.lst ((ls.set j (l++[x])).map lD)⟩))):Wp (a5 Γ (.mut "append" (.ix (.nm i) e) (.cons e' .nil)) ρ) Q:=by
 obtain⟨⟨ky,dy⟩,ey,hy⟩:=he;cases(show dy=_ from hy);obtain⟨y,ex,rfl⟩:=hx;have hjl:=(Lk.mp hj).1;refine⟨_,?_,q⟩;rw[ik,a7,a7,ex];show jm "append" i (kl (mU Γ.fn (.nm i) ρ) (ak Γ.fn e ρ)) (NW [(.sh,iD x)]) ρ=_;rw[mU,h,ey]
 have e1:kl (jd (NW (NW ⟨NZ,.own [] k0,.nd .lst (ls.map lD)⟩))) (NW (ky,iD j))=NW (k0,lD l,λz=>D.nd .lst ((ls.map lD).set j z)):=by
  show(match i4 (ls.map lD).length (j:Int) with|some j=>(match (ls.map lD)[j]? with|some d=>NW (([]:List Ow).getD j k0,d,λz=>id (D.nd .lst ((ls.map lD).set j z)))|none=>NX)|none=>NX)=_
  rw[iq (by lia) (by rw[Li];lia),LN];dsimp only;rw[Ll,hj];rfl
 rw[e1]
 show(match jl "append" [] .fz (l.map iD) [(.sh,iD x)],ρ[i]? with|some (d',ds'),NW (NW ⟨NZ,k,_⟩)=>NW (Kd.sh,d',ρ.set i (NW ⟨NZ,k,D.nd .lst ((ls.map lD).set j (.lst ds'))⟩))|_,_=>NX)=_
 have e2:=oQ (es:=[]) (r:=.fz) (ds:=l.map iD) (x:=(.sh,iD x)) ⟨LF _,rfl,by rw[Li];lia⟩
 have e3:(ls.map lD).set j (D.lst (l.map iD++[iD x]))=(ls.set j (l++[x])).map lD:=by
  rw[List.map_set];congr 2;rw[Lw];rfl
 rw[e2,h];dsimp only;rw[e3]
noncomputable def SpOk(sp:List (List Nat))(n m:Nat):Prop:=sp.length=n/\∀l∈sp,0<l.length/\l.length<1000/\∀x∈l,x<m
theorem SpOk.at{sp:List (List Nat)}{n m p:Nat}(h:SpOk sp n m)(hp:p<n):∃l,sp[p]?=NW l/\0<l.length/\l.length<1000/\∀x∈l,x<m:=by
 have e:sp[p]?=NW (sp[p]'(by rw[h.1];exact hp)):=Lm _;exact⟨_,e,h.2 _ (Mi _)⟩
theorem su{Γ:GG}{ρ:Ro}{i j k:Nat}{sp:List (List Nat)}{n m p:Nat}{Q:Kd×D×Ro->Prop}(hΓ:Γ.fm 20=NW Dl)(hρ:ρ[i]?=NW (NW ⟨NZ,k0,d⟩))(hj:ρ[j]?=NW (NW ⟨NZ,k0,.lst (sp.map lD)⟩))(he:Wp (ak Γ.fn e ρ) λy=>y.2=iD p)(hsp:SpOk sp n m)(hp:p<n)(h:d8 d)(q:∀(x:Nat) d',x<m->d8 d'->Q (.sh,iD x,ρ.set i (NW ⟨NZ,k0,d'⟩))):Wp (a5 Γ (.io 20 (.ref i (.val (.p (.ix (.var j) e)) .nil))) ρ) Q:=by
 obtain⟨l,el,l0,l1,l2⟩:=hsp.at hp;refine pick (xs:=l) hΓ hρ h (aH (ad hj (he.mono λy hy=>?_))) l0 l1 λx d' hx hS=>q x d' (l2 x hx) hS;obtain⟨ky,dy⟩:=y;cases(show dy=_ from hy);exact am (n:=p) (d:=lD l) (.inl rfl) rfl (by rw[Ll,el];rfl) rfl
theorem AU{Γ:GG}{sp:List (List Nat)}{n m:Nat}{ps:List Nat}{R:List D×Ro->Prop}(hΓ:Γ.fm 20=NW Dl)(hsp:SpOk sp n m)(hp:∀p∈ps,p<n)(h:d8 d)(q:∀(xs:List Nat) d',xs.length=ps.length->(∀x∈xs,x<m)->d8 d'->R (xs.map iD,[NX,NX,NX,NW ⟨NZ,k0,.lst (sp.map lD)⟩,NW ⟨NZ,k0,d'⟩])) :
  Wp (aK .fz (fv [NX,NX,NX,NW 10,NW 0] (.nm 1) (km Γ .non) (a5 Γ (.io 20 (.ref 4 (.val (.p (.ix (.var 3) (.var 1))) .nil))))) (ps.map iD) [NX,NX,NX,NW ⟨NZ,k0,.lst (sp.map lD)⟩,NW ⟨NZ,k0,d⟩]) R:=by
 refine oH (λj ys ρ=>∃(xs:List Nat) (d:D),ys=xs.map iD/\xs.length=j/\(∀x∈xs,x<m)/\d8 d/\ρ=[NX,NX,NX,NW ⟨NZ,k0,.lst (sp.map lD)⟩,NW ⟨NZ,k0,d⟩]) ⟨[],d,rfl,rfl,λp hp=>by simp at hp,h,rfl⟩ (λj y ys ρ hy hI=>?_) λys ρ hI=>?_
 ·obtain⟨xs,d,rfl,hl,hx,hS,rfl⟩:=hI;rw[Ll] at hy
  cases e:ps[j]? with
  |none=>rw[e] at hy;cases hy
  |some p=>
   rw[e] at hy;cases hy;refine kH (ps:=[(1,iD p)]) rfl ⟨rfl,rfl⟩ rfl (su (k:=0) (p:=p) hΓ rfl rfl (ad rfl rfl) hsp (hp p (LD e)) hS λx d' hx' hS'=>⟨_,rfl,rfl,xs++[x],d',?_,by simp[hl],fP hx hx',hS',rfl⟩);rw[Lw];rfl
 ·obtain⟨xs,d,rfl,hl,hx,hS,rfl⟩:=hI;exact q xs d (by rw[hl,Li]) hx hS
noncomputable abbrev RO(c:Ci)(most:Nat)(d:D)(x7:Option Sl)(ks:List Nat)(F:Nat)(k10:Ow)(sp:List (List Nat))(x11 x12 x13 x14 x15:Option Sl):Ro:=[NW ⟨NZ,k0,d⟩,ai (cD c),ai (iD most),ai (iD c.ins),ai (.lst (c.mems.map a6)),ai (.lst (c.gates.map aJ)),ai (.lst (c.outs.map iD)),x7,NW ⟨NZ,k0,lD ks⟩,ai (iD F),NW ⟨NZ,k10,.lst (sp.map lD)⟩,x11,x12,x13,x14,x15,NX,NX]
noncomputable abbrev xh(fr:List (Nat×List Nat)):Option Sl:=NW ⟨NZ,k0,.lst (fr.map aJ)⟩
structure KA(c c':Ci)(most:Nat):Prop where
 ok:Ok c'
 i:c'.ins=c.ins
 o:c'.outs.length=c.outs.length
 m:c'.mems.length<=c.mems.length+most
theorem zV{c:Ci}{most F:Nat}{ks:List Nat}{sp:List (List Nat)}{fr:List (Nat×List Nat)}{d:D}{x7 x11 x13 x14 x15:Option Sl}{Q:Kd×D×List (Option jv)->Prop}(hc:Ok c)(hbm:c.mems.length<=9)(hbg:c.gates.length<=9)(hm1:most<=1)(hks:∀k∈ks,k<c.mems.length)(hkl:ks.length<=most)(hF:F=c.ins+c.mems.length+ks.length)(hsp:SpOk sp c.n (F+fr.length))(hfr:GOk F fr)(hfl:fr.length<=2*c.gates.length)(hS:d8 d)(q:∀c' d',KA c c' most->d8 d'->Q (.sh,cD c',[NW (k0,d'),NX,NX])) :
  Wp (aL Γ_20 1000 (match Df with|.cons _ (.cons _ (.cons _ (.cons _ (.cons _ (.cons _ (.cons _ r))))))=>r|r=>r) [0] (RO c most d x7 ks F k0 sp x11 (xh fr) x13 x14 x15)) λr=>Wp (kB 3 [0] (NW r)) Q:=by
 have hco:=hc.bo;have hci:=hc.bi;unfold Df;refine aI (au (aj (zo (iX (cP (l:=c.mems) (.inl rfl) (ad rfl rfl)) ⟨(.fr bv,.lst ((Ln c.mems.length).map iD)),?_,ad rfl (kF ⟨rfl,rfl,by simp;lia⟩ ⟨⟨rfl,by decide⟩,?_⟩)⟩))))
 ·show(if(0:Int)<=(c.mems.length:Int)/\(c.mems.length:Int)<=100000 then NW (Kd.fr bv,D.lst (((Ln ((c.mems.length:Int)).toNat).map λ(i:Nat)=>(i:Int)).map D.int)) else NX)=_
  rw[if_pos ⟨by lia,by lia⟩,LN,LO];rfl
 refine xa ?_;have eo:((Ln c.mems.length).map iD)++ks.map iD=(Ln c.mems.length++ks).map iD:=by rw[Lw]
 have ho:∀k∈Ln c.mems.length++ks,k<c.mems.length:=λk hk=>(Md.mp hk).elim Mq.mp (hks k);have hol:(Ln c.mems.length++ks).length=c.mems.length+ks.length:=by simp
 show Wp (aL _ _ _ [0] [NW ⟨NZ,k0,d⟩,ai (cD c),ai (iD most),ai (iD c.ins),ai (.lst (c.mems.map a6)),ai (.lst (c.gates.map aJ)),ai (.lst (c.outs.map iD)),x7,NW ⟨NZ,k0,lD ks⟩,ai (iD F),NW ⟨NZ,k0,.lst (sp.map lD)⟩,x11,xh fr,x13,x14,x15,ai (.lst (((Ln c.mems.length).map iD)++ks.map iD)),NX]) _;rw[eo];generalize Ln c.mems.length++ks=ord at ho hol
 have fin:∀(ms:List (Bool×Nat)) (os:List Nat) (d:D),ms.length=c.mems.length+ks.length->(∀x∈ms,x.2<F+fr.length)->(∀o∈os,o<F+fr.length)->os.length=c.outs.length->d8 d->Q (.sh,cD ⟨c.ins,ms,fr,os⟩,[NW (k0,d),NX,NX]):=λms os d hm' hms hos hlo hS=>by
  have en':Ci.n ⟨c.ins,ms,fr,os⟩=F+fr.length:=by show c.ins+ms.length+fr.length=_;lia
  refine q ⟨c.ins,ms,fr,os⟩ d ⟨⟨?_,λx hx=>by rw[en'];exact hms x hx,λo ho=>by rw[en'];exact hos o ho,hci,?_,?_,?_⟩,rfl,hlo,?_⟩ hS
  ·show GOk (c.ins+ms.length) fr;rw[hm',<- MK,<- hF];exact hfr
  ·show ms.length<=100;lia
  ·show fr.length<=100;lia
  ·show os.length<=100;lia
  ·show ms.length<=_;lia
 refine aI (eP (bU (fS (ad rfl (cw rfl ⟨rfl,by show(ord.map iD).length<=_;rw[Li];lia,?_⟩)))));show Wp (aK .fz _ (ord.map iD) [NX,NX,NX,ai (.lst (c.mems.map a6)),NW ⟨NZ,k0,.lst (sp.map lD)⟩,NW ⟨NZ,k0,d⟩]) _;refine oH (λj ys ρ=>∃(ms:List (Bool×Nat)) (d:D),ys=ms.map a6/\ms.length=j/\(∀x∈ms,x.2<F+fr.length)/\d8 d/\ρ=[NX,NX,NX,ai (.lst (c.mems.map a6)),NW ⟨NZ,k0,.lst (sp.map lD)⟩,NW ⟨NZ,k0,d⟩]) ⟨[],d,rfl,rfl,λp hp=>by simp at hp,hS,rfl⟩ (λj y ys ρ hy hI=>?_) λys ρ hI=>?_
 ·obtain⟨ms,d,rfl,hl,hms,hS,rfl⟩:=hI;rw[Ll] at hy
  cases e:ord[j]? with
  |none=>rw[e] at hy;cases hy
  |some k=>
   rw[e] at hy;cases hy;have hk:=ho k (LD e);have em:c.mems[k]?=NW c.mems[k]:=Lm hk;have hmk:=hc.m c.mems[k] (Mi hk);generalize c.mems[k]=mk at em hmk;have emD:(c.mems.map a6)[k]?=NW (a6 mk):=by rw[Ll,em];rfl
   refine kH (ps:=[(1,iD k)]) rfl ⟨rfl,rfl⟩ rfl (cN (aN (au (aH (aH (ad rfl (ad rfl (am (n:=k) (d:=a6 mk) (.inl rfl) rfl emD (af (am (n:=0) (.inr rfl) rfl rfl ⟨rfl,aQ (su (k:=0) (p:=mk.2) rfl rfl rfl (aH (aH (ad rfl (ad rfl (am (n:=k) (d:=a6 mk) (.inl rfl) rfl emD (af (am (n:=1) (.inr rfl) rfl rfl rfl))))))) hsp hmk hS λx d' hx hS'=>ag (aR rfl ⟨_,rfl,rfl,ms++[(mk.1,x)],d',?_,by simp[hl],fP hms hx,hS',rfl⟩))⟩))))))))));rw[Lw];rfl
 ·obtain⟨ms,d,rfl,hl,hms,hS,rfl⟩:=hI;have hl:ms.length=(ord.map iD).length:=hl;rw[Li,hol] at hl;refine⟨rfl,⟨rfl,by decide⟩,?_⟩;show Wp (aL _ _ _ [0] [NW ⟨NZ,k0,d⟩,ai (cD c),ai (iD most),ai (iD c.ins),ai (.lst (c.mems.map a6)),ai (.lst (c.gates.map aJ)),ai (.lst (c.outs.map iD)),x7,NW ⟨NZ,k0,lD ks⟩,ai (iD F),NW ⟨NZ,k0,.lst (sp.map lD)⟩,x11,xh fr,x13,x14,x15,ai (.lst (ord.map iD)),NW ⟨NZ,k0,.lst (ms.map a6)⟩]) _;refine aW (cN (aN (au (ad rfl ⟨rfl,aN (c8 rfl ⟨rfl,aN (c8 rfl ⟨rfl,aQ (eP (bU (fS (ad rfl (cw rfl ⟨rfl,by show(c.outs.map iD).length<=_;rw[Li];lia,?_⟩)))))⟩)⟩)⟩))));exact AU rfl hsp (λp hp=>hc.o p hp) hS λos d hlo hos hS=>⟨rfl,ag (aR rfl ⟨rfl,gf rfl (fin ms os d hl hms hos hlo hS)⟩)⟩
theorem SpOk.more{n m m':Nat}(h:SpOk sp n m)(hm:m<=m'):SpOk sp n m':=⟨h.1,λl hl=>⟨(h.2 l hl).1,(h.2 l hl).2.1,λx hx=>Lr ((h.2 l hl).2.2 x hx) hm⟩⟩
theorem SpOk.snoc{sp:List (List Nat)}{n m:Nat}{l:List Nat}(h:SpOk sp n m)(hl:0<l.length/\l.length<1000/\∀x∈l,x<m):SpOk (sp++[l]) (n+1) m:=⟨by simp[h.1],fP h.2 hl⟩
theorem xi{x:Nat}{m:Nat}(h:x<m):0 < [x].length/\[x].length<1000/\∀y∈[x],y<m:=⟨by simp,by simp,λy hy=>by cases L6.mp hy;exact h⟩
theorem zW{n t:Nat}(hn:n<=3)(ht:t<2^2^n):(1:Int)*2^((1:Int)*2^((n:Int)).toNat).toNat-1-(t:Int)=((2^2^n-1-t:Nat):Int)/\2^2^n-1-t<2^2^n:=by
 have:n=0\/n=1\/n=2\/n=3:=by lia
 rcases this with rfl|rfl|rfl|rfl
 ·have e:(1:Int)*2^((1:Int)*2^(((0:Nat):Int)).toNat).toNat=2:=by decide
  have e2:2^2^0=2:=by decide
  rw[e];lia
 ·have e:(1:Int)*2^((1:Int)*2^(((1:Nat):Int)).toNat).toNat=4:=by decide
  have e2:2^2^1=4:=by decide
  rw[e];lia
 ·have e:(1:Int)*2^((1:Int)*2^(((2:Nat):Int)).toNat).toNat=16:=by decide
  have e2:2^2^2=16:=by decide
  rw[e];lia
 ·have e:(1:Int)*2^((1:Int)*2^(((3:Nat):Int)).toNat).toNat=256:=by decide
  have e2:2^2^3=256:=by decide
  rw[e];lia
theorem xj{n:Nat}(hn:n<=3):(0<=(n:Int)/\(n:Int)<=1000000/\(1:Int).natAbs<lim)/\(0<=(1:Int)*2^((n:Int)).toNat/\(1:Int)*2^((n:Int)).toNat<=1000000/\(1:Int).natAbs<lim):=by
 have:n=0\/n=1\/n=2\/n=3:=by lia
 rcases this with rfl|rfl|rfl|rfl<;>exact⟨⟨by decide,by decide,by decide⟩,⟨by decide,by decide,by decide⟩⟩
theorem xk{c:Ci}{most F n:Nat}{ks:List Nat}{sp:List (List Nat)}{fr:List (Nat×List Nat)}{d:D}{x7 x11:Option Sl}{g:Nat×List Nat}{Q:Res->Prop}(hF:F<=100)(hfl:fr.length<=100)(hsl:sp.length<=1000)(hg:zS n g)(hsp:SpOk sp n (F+fr.length))(hfr:GOk F fr)(hS:d8 d)
  (q:∀d' fr' y x15,SpOk (sp++[[y]]) (n+1) (F+fr'.length)->GOk F fr'->fr'.length<=fr.length+2->d8 d'->Q (.nx (RO c most d' x7 ks F k0 (sp++[[y]]) x11 (xh fr') (ai (iD g.1)) (ai (.tup (g.2.map iD))) x15))) :
  Wp (aL Γ_20 1000 (match Df with|.cons _ (.cons _ (.cons _ (.cons _ (.cons _ (.cons _ (.cons (.fo _ _ _ r) _))))))=>r|r=>r) [0] (RO c most d x7 ks F k0 sp x11 (xh fr) (ai (iD g.1)) (ai (.tup (g.2.map iD))) NX)) Q:=by
 obtain⟨g1,g2,g3⟩:=hg;unfold Df
 have last:∀(d:D) (fr':List (Nat×List Nat)) (x15:Option Sl),0<fr'.length->fr'.length<=fr.length+2->GOk F fr'->fr.length<=fr'.length->d8 d->Wp (aL Γ_20 1000 (.cons (.exp (.mut "append" (.nm 10) (.cons (.lst (.own [] .fz) (.cons (.bin .Sub (.bin .Add (.var 9) (.blt "len" (.cons (.var 12) .nil))) (.lit (.int 1))) .nil)) .nil))) .nil) [0] (RO c most d x7 ks F k0 sp x11 (xh fr') (ai (iD g.1)) (ai (.tup (g.2.map iD))) x15)) Q:=by
  intro d fr' x15 h0 h2 hG hle hS;refine cG (cV (bc (ae (aj (aj (ad rfl (iX (cP (l:=fr') (.inl rfl) (ad rfl rfl)) (bn (af (cL (ag (a8 rfl ⟨[],.fz,_,rfl,⟨LF _,rfl,by rw[Li];lia⟩,aM ?_⟩))))))))))));have e1:(F:Int)+(fr'.length:Int)-1=((F+fr'.length-1:Nat):Int):=by lia
  have e2:sp.map lD++[D.lst [.int ((F:Int)+(fr'.length:Int)-1)]]=(sp++[[F+fr'.length-1]]).map lD:=by rw[e1,Lw];rfl
  show Q (.nx [NW ⟨NZ,k0,d⟩,ai (cD c),ai (iD most),ai (iD c.ins),ai (.lst (c.mems.map a6)),ai (.lst (c.gates.map aJ)),ai (.lst (c.outs.map iD)),x7,NW ⟨NZ,k0,lD ks⟩,ai (iD F),NW ⟨NZ,k0,.lst (sp.map lD++[D.lst [.int ((F:Int)+(fr'.length:Int)-1)]])⟩,x11,xh fr',ai (iD g.1),ai (.tup (g.2.map iD)),x15,NX,NX]);rw[e2];exact q d fr' _ x15 ((hsp.more (by lia)).snoc (xi (by lia))) hG h2 hS
 refine aI (qi (aQ (eP (bU (fS (ad rfl (wC rfl ⟨rfl,by show(g.2.map iD).length<=_;rw[Li];lia,?_⟩)))))));refine AU rfl hsp g3 hS λxs d hxl hxs hS=>⟨rfl,ag (c7 rfl ⟨⟨rfl,by decide⟩,?_⟩)⟩;show Wp (aL _ _ _ [0] (RO c most d x7 ks F k0 sp x11 (xh fr) (ai (iD g.1)) (ai (.tup (g.2.map iD))) (ai (.tup (xs.map iD))))) _;refine rW (ir (aQ (dc (m:=3) rfl rfl hS (af rfl) (by decide) (by decide) λr d hr hS=>ae (af (ag ⟨_,_,rfl,f9 ⟨λe=>?_,λe=>?_⟩⟩)))))
 ·show Wp (aL _ _ _ [0] (RO c most d x7 ks F k0 sp x11 (xh fr) (ai (iD g.1)) (ai (.tup (g.2.map iD))) (ai (.tup (xs.map iD))))) _;obtain⟨n1,n2⟩:=zW g1 g2;have sh:=xj g1;refine cG (cV (bC (ae (aj (aj (aj (af (aj (af (iX (cP (l:=g.2) (.inr rfl) (ad rfl rfl)) (eO sh.1 (eO sh.2 (af (cL (ad rfl (cL (ae (ad rfl (ag (aR rfl ⟨[],.fz,_,rfl,⟨LF _,rfl,by rw[Li];lia⟩,?_⟩))))))))))))))))))));have e1:fr.map aJ++[D.tup [.int ((1:Int)*2^((1:Int)*2^((g.2.length:Int)).toNat).toNat-1-(g.1:Int)),.tup (xs.map iD)]]=(fr++[(2^2^g.2.length-1-g.1,xs)]).map aJ:=by rw[n1,Lw];rfl
  show Wp (aL _ _ _ [0] [NW ⟨NZ,k0,d⟩,ai (cD c),ai (iD most),ai (iD c.ins),ai (.lst (c.mems.map a6)),ai (.lst (c.gates.map aJ)),ai (.lst (c.outs.map iD)),x7,NW ⟨NZ,k0,lD ks⟩,ai (iD F),NW ⟨NZ,k0,.lst (sp.map lD)⟩,x11,NW ⟨NZ,k0,.lst (fr.map aJ++[D.tup [.int ((1:Int)*2^((1:Int)*2^((g.2.length:Int)).toNat).toNat-1-(g.1:Int)),.tup (xs.map iD)]])⟩,ai (iD g.1),ai (.tup (g.2.map iD)),ai (.tup (xs.map iD)),NX,NX]) _;rw[e1];have hG1:GOk F (fr++[(2^2^g.2.length-1-g.1,xs)]):=hfr.snoc ⟨by show xs.length<=3;lia,by show _<2^2^xs.length;rw[hxl];exact n2,hxs⟩;have hl1:(fr++[(2^2^g.2.length-1-g.1,xs)]).length=fr.length+1:=by simp
  generalize fr++[(2^2^g.2.length-1-g.1,xs)]=fr1 at hG1 hl1;refine cG (cV (bC (ae (af (ae (bC (ae (aj (aj (ad rfl (iX (cP (l:=fr1) (.inl rfl) (ad rfl rfl)) (bn (af (cL (ag (aR rfl (ag (aR rfl ⟨[],.fz,_,rfl,⟨LF _,rfl,by rw[Li];lia⟩,aM (br ?_)⟩))))))))))))))))));have e2:(F:Int)+(fr1.length:Int)-1=((F+fr.length:Nat):Int):=by lia
  have e3:fr1.map aJ++[D.tup [.int 1,.tup [.int ((F:Int)+(fr1.length:Int)-1)]]]=(fr1++[(1,[F+fr.length])]).map aJ:=by rw[e2,Lw];rfl
  show Wp (aL _ _ _ [0] [NW ⟨NZ,k0,d⟩,ai (cD c),ai (iD most),ai (iD c.ins),ai (.lst (c.mems.map a6)),ai (.lst (c.gates.map aJ)),ai (.lst (c.outs.map iD)),x7,NW ⟨NZ,k0,lD ks⟩,ai (iD F),NW ⟨NZ,k0,.lst (sp.map lD)⟩,x11,NW ⟨NZ,k0,.lst (fr1.map aJ++[D.tup [.int 1,.tup [.int ((F:Int)+(fr1.length:Int)-1)]]])⟩,ai (iD g.1),ai (.tup (g.2.map iD)),ai (.tup (xs.map iD)),NX,NX]) _;rw[e3];refine last d _ _ (by simp) (by simp;lia) (hG1.snoc ⟨by simp,by simp,λp hp=>?_⟩) (by simp;lia) hS;cases L6.mp hp
  lia
 ·show Wp (aL _ _ _ [0] (RO c most d x7 ks F k0 sp x11 (xh fr) (ai (iD g.1)) (ai (.tup (g.2.map iD))) (ai (.tup (xs.map iD))))) _;refine cG (cV (bC (ae (ad rfl (ae (ad rfl (ag (aR rfl ⟨[],.fz,_,rfl,⟨LF _,rfl,by rw[Li];lia⟩,aM (br ?_)⟩))))))));have e1:fr.map aJ++[D.tup [iD g.1,.tup (xs.map iD)]]=(fr++[(g.1,xs)]).map aJ:=by rw[Lw];rfl
  show Wp (aL _ _ _ [0] [NW ⟨NZ,k0,d⟩,ai (cD c),ai (iD most),ai (iD c.ins),ai (.lst (c.mems.map a6)),ai (.lst (c.gates.map aJ)),ai (.lst (c.outs.map iD)),x7,NW ⟨NZ,k0,lD ks⟩,ai (iD F),NW ⟨NZ,k0,.lst (sp.map lD)⟩,x11,NW ⟨NZ,k0,.lst (fr.map aJ++[D.tup [iD g.1,.tup (xs.map iD)]])⟩,ai (iD g.1),ai (.tup (g.2.map iD)),ai (.tup (xs.map iD)),NX,NX]) _;rw[e1];exact last d _ _ (by simp) (by simp) (hfr.snoc ⟨by show xs.length<=3;lia,by show g.1<2^2^xs.length;rw[hxl];exact g2,hxs⟩) (by simp) hS
theorem SpOk.put{sp:List (List Nat)}{n m j x:Nat}{l:List Nat}(h:SpOk sp n m)(hj:sp[j]?=NW l)(hx:x<m)(hl:l.length<500):SpOk (sp.set j (l++[x])) n m:=by
 refine⟨by simp[h.1],λy hy=>?_⟩;rcases MF hy with h1|rfl
 ·exact h.2 y h1
 ·have:=h.2 l (LD hj);exact⟨by simp,by simp;lia,fP this.2.2 hx⟩
theorem nj{c:Ci}{most:Nat}{Q:Kd×D×List (Option jv)->Prop}(h:d8 d)(hc:Ok c)(hbm:c.mems.length<=9)(hbg:c.gates.length<=9)(hm1:most<=1)(q:∀c' d',KA c c' most->d8 d'->Q (.sh,cD c',[NW (k0,d'),NX,NX])):Wp (GJ [(k0,d),(.fz,cD c),(.fz,iD most)]) Q:=by
 have hci:=hc.bi;have endd:=@zV c most;have gate:=@xk c most;unfold GJ;refine tN rfl ?_;unfold Df at endd gate⊢
 walk_at "nm"
 refine eR (au (ad rfl ⟨_,_,_,rfl,rfl,⟨rfl,rfl⟩,?_⟩));show Wp (aL _ _ _ [0] [NW ⟨NZ,k0,d⟩,ai (cD c),ai (iD most),ai (iD c.ins),ai (.lst (c.mems.map a6)),ai (.lst (c.gates.map aJ)),ai (.lst (c.outs.map iD)),NX,NX,NX,NX,NX,NX,NX,NX,NX,NX,NX]) _;have hlen:(cY 0 ((c.mems.length:Nat):Int)).length=c.mems.length:=by rw[cW,Li,Lz]
 refine aI (Dw (aQ (eP (bU (gG (af (iX (cP (l:=c.mems) (.inl rfl) (ad rfl rfl)) (fA (cn (by lia) (by lia) (by lia) (by lia) (by lia)) ⟨rfl,by show(cY 0 (c.mems.length:Int)).length<=_;lia,(xf (λρ=>∃d,d8 d/\ρ=[NX,NX,NX,NW ⟨NZ,k0,d⟩]) (λy=>∃z:Nat,y=iD z/\z<c.mems.length) ⟨d,h,rfl⟩ λx hx ρ hρ=>?_).mono λz hz=>?_⟩))))))))
 ·obtain⟨d,hS,rfl⟩:=hρ;have hx:x∈cY 0 (c.mems.length:Int):=hx;rw[cW] at hx;obtain⟨k,hk,rfl⟩:=LX.mp hx;have hk:=Mq.mp hk;exact wF (ps:=[(1,iD k)]) rfl ⟨rfl,rfl⟩ (ir (aQ (dc (m:=2) rfl rfl hS (af rfl) (by decide) (by decide) λr d' hr hS'=>ae (af (ag ⟨_,_,rfl,f9 ⟨λ_=>au (ad rfl ⟨⟨d',hS',rfl⟩,λkd e=>by cases e;exact⟨rfl,k,rfl,hk⟩⟩),λ_=>⟨⟨d',hS',rfl⟩,λkd e=>by cases e⟩⟩⟩)))))
 obtain⟨ys,ρ'⟩:=z;obtain⟨⟨hz1,hz2⟩,d,hS,e⟩:=hz;have e:ρ'=_:=e;subst e;have hz1:ys.length<=(cY 0 (c.mems.length:Int)).length:=hz1;obtain⟨zs,ez,hzs⟩:=ss hz2;have ez:ys=zs.map iD:=ez;subst ez;rw[hlen,Li] at hz1;refine⟨rfl,ae (ad rfl (ag ⟨_,_,rfl,Ka (n:=most) rfl ⟨⟨rfl,by decide⟩,?_⟩⟩))⟩;have hks:∀k∈zs.take most,k<c.mems.length:=λk hk=>hzs k (List.mem_of_mem_take hk);have hkl:(zs.take most).length<=most:=by rw[LU];lia
 show Wp (aL _ _ _ [0] [NW ⟨NZ,k0,d⟩,ai (cD c),ai (iD most),ai (iD c.ins),ai (.lst (c.mems.map a6)),ai (.lst (c.gates.map aJ)),ai (.lst (c.outs.map iD)),NX,NW ⟨NZ,k0,.lst ((zs.map iD).take most)⟩,NX,NX,NX,NX,NX,NX,NX,NX,NX]) _;rw[<- List.map_take];generalize zs.take most=ks at hks hkl;refine aI (au (aj (aj (ad rfl (iX (cP (l:=c.mems) (.inl rfl) (ad rfl rfl)) (bn (iX (cP (l:=ks) (.inl rfl) (ad rfl rfl)) (bn ⟨⟨rfl,by decide⟩,?_⟩))))))));have eF:∃F:Nat,F=c.ins+c.mems.length+ks.length:=⟨_,rfl⟩;obtain⟨F,eF⟩:=eF;show Wp (aL _ _ _ [0] [NW ⟨NZ,k0,d⟩,ai (cD c),ai (iD most),ai (iD c.ins),ai (.lst (c.mems.map a6)),ai (.lst (c.gates.map aJ)),ai (.lst (c.outs.map iD)),NX,NW ⟨NZ,k0,lD ks⟩,ai (iD (c.ins+c.mems.length+ks.length)),NX,NX,NX,NX,NX,NX,NX,NX]) _;rw[<- eF];refine aI (au (wR (n:=c.ins+c.mems.length) (g:=λk=>lD [k]) (aj (ad rfl (iX (cP (l:=c.mems) (.inl rfl) (ad rfl rfl)) (bn rfl)))) (by lia) (λk _=>ue rfl (bc (ae (ad rfl (ag (a8 rfl ⟨.fr k0,rfl,rfl⟩)))))) ⟨⟨rfl,by decide⟩,?_⟩))
 have sp0:SpOk ((Ln (c.ins+c.mems.length)).map λk=>[k]) (c.ins+c.mems.length) F:=by
  refine⟨by simp,λl hl=>?_⟩;obtain⟨k,hk,rfl⟩:=LX.mp hl;have hk:=Mq.mp hk;exact xi (by lia)
 have sl0:∀l∈(Ln (c.ins+c.mems.length)).map λk=>[k],l.length<=1:=λl hl=>by
  obtain⟨k,hk,rfl⟩:=LX.mp hl;simp
 have es0:((Ln (c.ins+c.mems.length)).map λk=>lD [k])=((Ln (c.ins+c.mems.length)).map λk=>[k]).map lD:=by rw[LO];rfl
 show Wp (aL _ _ _ [0] [NW ⟨NZ,k0,d⟩,ai (cD c),ai (iD most),ai (iD c.ins),ai (.lst (c.mems.map a6)),ai (.lst (c.gates.map aJ)),ai (.lst (c.outs.map iD)),NX,NW ⟨NZ,k0,lD ks⟩,ai (iD F),NW ⟨NZ,.own [] k0,.lst ((Ln (c.ins+c.mems.length)).map λk=>lD [k])⟩,NX,NX,NX,NX,NX,NX,NX]) _;rw[es0];generalize ((Ln (c.ins+c.mems.length)).map λk=>[k])=sp at sp0 sl0;refine dN (bU (m4 (ad rfl (w6 rfl ⟨λs ρ=>∃sp x7 x11,ρ=[NW ⟨NZ,k0,d⟩,ai (cD c),ai (iD most),ai (iD c.ins),ai (.lst (c.mems.map a6)),ai (.lst (c.gates.map aJ)),ai (.lst (c.outs.map iD)),x7,NX,ai (iD F),NW ⟨NZ,.own [] k0,.lst (sp.map lD)⟩,x11,NX,NX,NX,NX,NX,NX]/\SpOk sp (c.ins+c.mems.length) F/\(∀l∈sp,l.length<=1+s),⟨sp,NX,NX,rfl,sp0,sl0⟩,λs x ρ hd hI=>?_,λρ hI=>?_⟩))))
 ·obtain⟨sp,x7,x11,rfl,hsp,hsl⟩:=hI;have hd:((ks.map iD).mapIdx λi d=>D.tup [.int i,d])[s]?=NW x:=hd;rw[Me,Ll] at hd
  cases e:ks[s]? with
  |none=>rw[e] at hd;cases hd
  |some k=>
   rw[e] at hd;cases hd;have hs:=(Lk.mp e).1;have hk:=hks k (LD e);obtain⟨l,el,l0,l1,l2⟩:=hsp.at (p:=c.ins+k) (by lia);have hll:=hsl l (LD el);refine⟨[(11,iD s),(7,iD k)],rfl,rfl,?_⟩;show Wp (aL _ _ _ [0,8] [NW ⟨NZ,k0,d⟩,ai (cD c),ai (iD most),ai (iD c.ins),ai (.lst (c.mems.map a6)),ai (.lst (c.gates.map aJ)),ai (.lst (c.outs.map iD)),ai (iD k),NX,ai (iD F),NW ⟨NZ,.own [] k0,.lst (sp.map lD)⟩,ai (iD s),NX,NX,NX,NX,NX,NX]) _;refine cG (xg (j:=c.ins+k) (l:=l) (x:=c.ins+c.mems.length+s) rfl (aj (ad rfl (ad rfl (bn rfl)))) el (aj (aj (ad rfl (iX (cP (l:=c.mems) (.inl rfl) (ad rfl rfl)) (bn (ad rfl (bn rfl))))))) l1 (aM ⟨_,.inl rfl,sp.set (c.ins+k) (l++[c.ins+c.mems.length+s]),ai (iD k),ai (iD s),rfl,hsp.put el (by lia) (by lia),λy hy=>?_⟩));rcases MF hy with h1|rfl
   ·have:=hsl y h1;lia
   ·simp;lia
 ·obtain⟨sp,x7,x11,rfl,hsp,hsl⟩:=hI;refine xa ?_;show Wp (aL _ _ _ [0] [NW ⟨NZ,k0,d⟩,ai (cD c),ai (iD most),ai (iD c.ins),ai (.lst (c.mems.map a6)),ai (.lst (c.gates.map aJ)),ai (.lst (c.outs.map iD)),x7,NW ⟨NZ,k0,lD ks⟩,ai (iD F),NW ⟨NZ,k0,.lst (sp.map lD)⟩,NX,NX,NX,NX,NX,NX,NX]) _;refine aI (au (bc (ag (a8 rfl ⟨⟨rfl,by decide⟩,?_⟩))));refine dN (bU (fS (ad rfl (cw rfl ⟨λs ρ=>∃d sp fr x13 x14 x15,ρ=RO c most d x7 ks F k0 sp NX (xh fr) x13 x14 x15/\SpOk sp (c.ins+c.mems.length+s) (F+fr.length)/\GOk F fr/\fr.length<=2*s/\d8 d,⟨d,sp,[],NX,NX,NX,rfl,hsp,λk x hx=>by simp at hx,Lo _,hS⟩,λs x ρ hd hI=>?_,λρ hI=>?_⟩))))
  ·obtain⟨d,sp,fr,x13,x14,x15,rfl,hsp,hfr,hfl,hS⟩:=hI;have hd:(c.gates.map aJ)[s]?=NW x:=hd;rw[Ll] at hd
   cases e:c.gates[s]? with
   |none=>rw[e] at hd;cases hd
   |some g=>
    rw[e] at hd;cases hd;have hs:=(Lk.mp e).1;have hsl:=hsp.1;refine⟨[(13,iD g.1),(14,.tup (g.2.map iD))],rfl,rfl,?_⟩;exact gate (by lia) (by lia) (by lia) (hc.g s g e) hsp hfr hS λd' fr' y x15 h1 h2 h3 h4=>⟨_,.inl rfl,d',sp++[[y]],fr',_,_,x15,rfl,h1,h2,by lia,h4⟩
  ·obtain⟨d,sp,fr,x13,x14,x15,rfl,hsp,hfr,hfl,hS⟩:=hI;have hsp:SpOk sp (c.ins+c.mems.length+(c.gates.map aJ).length) (F+fr.length):=hsp;have hfl:fr.length<=2*(c.gates.map aJ).length:=hfl;rw[Li] at hsp hfl;exact endd (x7:=x7) (x11:=NX) (x13:=NX) (x14:=NX) (x15:=NX) hc hbm hbg hm1 hks hkl eF hsp hfr hfl hS q
noncomputable def pl:Nat->D->Bool
 |_,.int _=>NY
 |n+1,.nd .lst ds=>decide (ds.length<=1000)&&ds.all (pl n)
 |n+1,.nd .tup ds=>decide (ds.length<=1000)&&ds.all (pl n)
 |_,_=>NZ
noncomputable def sw:D->Kd
 |.nd .lst _=>.fr k0
 |.nd .tup _=>.fr (.own [] k0)
 |_=>.sh
theorem zX:∀(n:Nat) (d:D),pl n d=NY->recI Γ_18 19 1000 1 1 ud (n+1) [d]=NW (sw d,d):=by
 intro n
 induction n with
 |zero=>
  intro d h
  cases d with
  |int i=>
   show bY (Γ_18.addI 19 (recI Γ_18 19 1000 1 1 ud 0)) 1000 1 1 ud [.int i]=_;refine bQ (c9 rfl ?_);unfold ud
   walk_at "nm"
   exact bh (z:=NZ) (df rfl (d6 (ad rfl ⟨NZ,rfl,NZ,rfl,rfl⟩))) (λe=>by cases e) λ_=>bE (bh (z:=NZ) (df rfl (d6 (ad rfl ⟨NZ,rfl,NZ,rfl,rfl⟩))) (λe=>by cases e) λ_=>bE (aW (au (ad rfl ⟨rfl,bw rfl rfl⟩))))
  |nd hd ds=>cases hd<;>cases h
  |_=>cases h
 |succ n ih=>
  intro d h;show bY (Γ_18.addI 19 (recI Γ_18 19 1000 1 1 ud (n+1))) 1000 1 1 ud [d]=_;refine bQ (c9 rfl ?_);unfold ud
  walk_at "nm"
  have comp:∀{r:Ow} {hd:Hd} {ds:List D} {Q:KD->Prop},(hd=.lst\/hd=.tup)->ds.length<=1000->(∀x∈ds,pl n x=NY)->(∀x∈ds,cy r (sw x,x)=NY)->Q (.fr (.own [] r),.lst ds)->Wp (ak (Γ_18.addI 19 (recI Γ_18 19 1000 1 1 ud (n+1))).fn (.comp r [NX,NX,NX] (.nm 1) (.e (.var 0)) .non (.fn 19 (.cons (.var 1) .nil))) [NW ⟨NZ,.fz,.nd hd ds⟩]) Q:=by
   intro r hd ds Q hh hl hp hf q
   have:=iY (Γ:=(Γ_18.addI 19 (recI Γ_18 19 1000 1 1 ud (n+1))).fn) (ρ:=[NW ⟨NZ,.fz,.nd hd ds⟩]) (Q:=Q) (l:=ds) (f:=λx=>x) (g:=λx=>x) (hd:=hd) (r:=r) (cap:=[NX,NX,NX]) (tg:=.nm 1) (a:=.var 0) (elt:=.fn 19 (.cons (.var 1) .nil)) hh (ad rfl ⟨rfl,by rw[List.map_id'];rfl⟩) (by lia) (λx hx=>ue rfl (sr (φ:=recI Γ_18 19 1000 1 1 ud (n+1)) (ds:=[x]) rfl (ae (ad rfl (ag ⟨rfl,rfl⟩))) (ih x (hp x hx)) (by cases x with|nd h ds=>cases h<;>rfl|_=>rfl) ⟨_,rfl,hf x hx⟩)) (by rw[List.map_id'];exact q)
   exact this
  cases d with
  |int i=>
   exact bh (z:=NZ) (df rfl (d6 (ad rfl ⟨NZ,rfl,NZ,rfl,rfl⟩))) (λe=>by cases e) λ_=>bE (bh (z:=NZ) (df rfl (d6 (ad rfl ⟨NZ,rfl,NZ,rfl,rfl⟩))) (λe=>by cases e) λ_=>bE (aW (au (ad rfl ⟨rfl,bw rfl rfl⟩))))
  |nd hd ds=>
   cases hd with
   |lst=>
    have h:(decide (ds.length<=1000)&&ds.all (pl n))=NY:=h;rw[Lj,decide_eq_true_eq,LI] at h;refine bh (z:=NY) (df rfl (d6 (ad rfl ⟨NY,rfl,NY,rfl,rfl⟩))) (λ_=>aW (au (comp (.inl rfl) h.1 h.2 (λx _=>?_) ⟨rfl,ge (bw rfl rfl)⟩))) λe=>by cases e
    cases x with
    |nd hd ds=>cases hd<;>rfl
    |_=>rfl
   |tup=>
    have h:(decide (ds.length<=1000)&&ds.all (pl n))=NY:=h;rw[Lj,decide_eq_true_eq,LI] at h;refine bh (z:=NZ) (df rfl (d6 (ad rfl ⟨NZ,rfl,NZ,rfl,rfl⟩))) (λe=>by cases e) λ_=>bE (bh (z:=NY) (df rfl (d6 (ad rfl ⟨NY,rfl,NY,rfl,rfl⟩))) (λ_=>aW (au (bx (ae (comp (.inr rfl) h.1 h.2 (λx hx=>?_) (ag (c7 rfl ⟨rfl,ge (bw rfl rfl)⟩))))))) λe=>by cases e);have hx':=h.2 x hx
    cases n with
    |zero=>
     cases x with
     |int i=>rfl
     |nd hd ds=>cases hd<;>cases hx'
     |_=>cases hx'
    |succ n=>
     cases x with
     |int i=>rfl
     |nd hd ds=>cases hd<;>first|rfl|cases hx'
     |_=>cases hx'
   |_=>cases h
  |_=>cases h
theorem nk:∀(n:Nat) (d:D),pl n d=NY->pl (n+1) d=NY
 |0,.int _,_=>rfl
 |0,.nd hd ds,h=>by cases hd<;>cases h
 |0,.non,h=>by cases h
 |0,.bl _,h=>by cases h
 |0,.str _,h=>by cases h
 |0,.scr _,h=>by cases h
 |n+1,.int _,_=>rfl
 |n+1,.nd .lst ds,h=>by
  have h:(decide (ds.length<=1000)&&ds.all (pl n))=NY:=h;show(decide (ds.length<=1000)&&ds.all (pl (n+1)))=NY;rw[Lj,LI] at h⊢;exact⟨h.1,λx hx=>nk n x (h.2 x hx)⟩
 |n+1,.nd .tup ds,h=>by
  have h:(decide (ds.length<=1000)&&ds.all (pl n))=NY:=h;show(decide (ds.length<=1000)&&ds.all (pl (n+1)))=NY;rw[Lj,LI] at h⊢;exact⟨h.1,λx hx=>nk n x (h.2 x hx)⟩
 |n+1,.nd (.dic _ _) ds,h=>by cases h
 |n+1,.nd (.obj _ _) ds,h=>by cases h
 |n+1,.non,h=>by cases h
 |n+1,.bl _,h=>by cases h
 |n+1,.str _,h=>by cases h
 |n+1,.scr _,h=>by cases h
theorem xl{n:Nat}(h:pl n d=NY):∀k,pl (n+k) d=NY
 |0=>h
 |k+1=>nk _ _ (xl h k)
theorem nq{d:D}{n:Nat}(hn:n<=39)(h:pl n d=NY):D0 [d]=NW (sw d,d):=by
 have:=zX 39 d (by have:=xl h (39-n);rwa [show n+(39-n)=39 by lia] at this);exact this
theorem sA{n:Nat}{l:List Nat}:(l.map iD).all (pl n)=NY:=by
 rw[LI];intro x hx;obtain⟨k,_,rfl⟩:=LX.mp hx
 cases n<;>rfl
theorem t6(h:Ok c):pl 4 (cD c)=NY:=by
 have h1:=h.bm;have h2:=h.bg;have h3:=h.bo
 have e1:pl 3 (.lst (c.mems.map a6))=NY:=by
  show(decide ((c.mems.map a6).length<=1000)&&(c.mems.map a6).all (pl 2))=NY;rw[Lj,decide_eq_true_eq,Li,LI];refine⟨by lia,λx hx=>?_⟩;obtain⟨m,_,rfl⟩:=LX.mp hx;rfl
 have e2:pl 3 (.lst (c.gates.map aJ))=NY:=by
  show(decide ((c.gates.map aJ).length<=1000)&&(c.gates.map aJ).all (pl 2))=NY;rw[Lj,decide_eq_true_eq,Li,LI];refine⟨by lia,λx hx=>?_⟩;obtain⟨g,hg,rfl⟩:=LX.mp hx;obtain⟨k,hk⟩:=Mx.mp hg;have h4:=(h.g k g hk).1;show(decide ((2:Nat)<=1000)&&(NY&&((decide ((g.2.map iD).length<=1000)&&(g.2.map iD).all (pl 0))&&NY)))=NY;rw[sA,Li,decide_eq_true (show g.2.length<=1000 by lia)];rfl
 have e3:pl 3 (.lst (c.outs.map iD))=NY:=by
  show(decide ((c.outs.map iD).length<=1000)&&(c.outs.map iD).all (pl 2))=NY;rw[sA,Li,decide_eq_true (show c.outs.length<=1000 by lia)];rfl
 show(decide ((4:Nat)<=1000)&&(NY&&(pl 3 (.lst (c.mems.map a6))&&(pl 3 (.lst (c.gates.map aJ))&&(pl 3 (.lst (c.outs.map iD))&&NY)))))=NY;rw[e1,e2,e3];rfl
structure Ld(c c':Ci):Prop where
 ok:Ok c'
 i:c'.ins=c.ins
 m:c'.mems.length=c.mems.length
 g:c'.gates.length=c.gates.length
 o:c'.outs.length=c.outs.length
noncomputable abbrev RH(c:Ci)(d:D)(ms:List (Bool×Nat))(gs:List (Nat×List Nat))(os:List Nat)(x6 x7 x8 x9 x10:Option Sl):Ro:=[NW ⟨NZ,k0,d⟩,ai (cD c),NW ⟨NZ,k0,iD c.ins⟩,NW ⟨NZ,k0,.lst (ms.map a6)⟩,NW ⟨NZ,k0,.lst (gs.map aJ)⟩,NW ⟨NZ,k0,.lst (os.map iD)⟩,x6,x7,x8,x9,x10]
theorem nr{z w:Bool}(ha:Wp (bp Γ a ρ) λx=>x=z)(hb:Wp (bp Γ b ρ) λx=>x=w):Wp (bp Γ (.bool .And (.cons a (.cons b .nil))) ρ) λx=>x=(z&&w):=fw (ha.mono λx e=>by
 subst e
 cases x with
 |true=>exact⟨λ_=>ci hb,λh=>absurd rfl h⟩
 |false=>exact⟨λh=>absurd h (by decide),λ_=>rfl⟩)
theorem jD{α:Type}{f:α->D}{l:List α}{k:Nat}{x:α}(hk:k<l.length)(ho:mC kd (f x)=NY):fR [] .fz .lst (l.map f) (iD k) (kd,f x)=NW (.lst,(l.set k x).map f):=by
 show(match i4 (l.map f).length (k:Int) with|some j=>if cy (([]:List Ow).getD j .fz) (kd,f x)=NY then NW (Hd.lst,(l.map f).set j (f x)) else NX|none=>NX)=_
 rw[iq (by lia) (by rw[Li];lia),LN];dsimp only;rw[if_pos (by exact ho),List.map_set]
theorem qy{α:Type}{P:α->Prop}{l:List α}{k:Nat}{x:α}(h:∀y∈l,P y)(hx:P x):∀y∈l.set k x,P y:=λy hy=>(MF hy).elim (h y) λe=>e▸hx
theorem GOk.put{n k:Nat}{gs:List (Nat×List Nat)}(h:GOk n gs)(hg:zS (n+k) g):GOk n (gs.set k g):=λj x hx=>by
 rw[List.getElem?_set] at hx;split at hx
 ·rename_i e;subst e;split at hx
  ·cases hx;exact hg
  ·cases hx
 ·exact h j x hx
theorem Dx{Γ:GG}{N:Nat}{pn:List Nat}{ρ:Ro}{Q:Res->Prop}{rest:bW}{i:Nat}{as:gJ}{s:Sl}(h0:ρ[i]?=NW (NW s))(h:Wp (aU Γ as ρ) λp=>∃x y es r ds,p.1=[x,y]/\p.2[i]?=NW (NW ⟨NZ,.own es r,.nd .lst ds⟩)/\Wp (fR es r .lst ds y.2 (d9 x.1 x.2,x.2)) λz=>Wp (aL Γ N rest pn (p.2.set i (NW ⟨NZ,.own es r,.nd z.1 z.2⟩))) Q):Wp (aL Γ N (.cons (.putM i as) rest) pn ρ) Q:=by
 obtain⟨⟨kds,ρ1⟩,ea,x,y,es,r,ds,e1,e2,⟨hd',ds'⟩,ez,w⟩:=h;dsimp only at e1 e2 ez w;subst e1;refine cx ⟨.nx _,?_,br w⟩;rw[wj,ea,h0];unfold lQ;dsimp only;rw[e2];dsimp only;rw[ez]
theorem qz{d:D}{c:Ci}{Q:Kd×D×List (Option jv)->Prop}(h:d8 d)(hc:Ok c)(q:∀c' d',Ld c c'->d8 d'->Q (.sh,cD c',[NW (k0,d'),NX])):Wp (GK [(k0,d),(.fz,cD c)]) Q:=by
 have hci:=hc.bi;have hcm:=hc.bm;have hcg:=hc.bg;have hco:=hc.bo
 have last:∀(d:D) (ms:List (Bool×Nat)) (gs:List (Nat×List Nat)) (os:List Nat) (x6 x7 x8 x9 x10:Option Sl),ms.length=c.mems.length->gs.length=c.gates.length->os.length=c.outs.length->GOk (c.ins+c.mems.length) gs->(∀m∈ms,m.2<c.n)->(∀o∈os,o<c.n)->d8 d->Wp (aL Γ_21 1000 (match Gu with|.cons _ (.cons _ (.cons _ (.cons _ r)))=>r|r=>r) [0] (RH c d ms gs os x6 x7 x8 x9 x10)) λr=>Wp (kB 2 [0] (NW r)) Q:=by
  intro d ms gs os x6 x7 x8 x9 x10 h1 h2 h3 hG hm ho hS;unfold Gu;refine xa (aW (au (bC (ae (ad rfl (ae (ad rfl (ae (ad rfl (ae (ad rfl (ag (aR rfl ⟨rfl,gf rfl (q ⟨c.ins,ms,gs,os⟩ d ⟨⟨?_,λm hm'=>?_,λo ho'=>?_,hci,?_,?_,?_⟩,rfl,h1,h2,h3⟩ hS)⟩)))))))))))))
  ·show GOk (c.ins+ms.length) gs;rw[h1];exact hG
  ·show m.2<c.ins+ms.length+gs.length;rw[h1,h2];exact hm m hm'
  ·show o<c.ins+ms.length+gs.length;rw[h1,h2];exact ho o ho'
  ·show ms.length<=100;lia
  ·show gs.length<=100;lia
  ·show os.length<=100;lia
 unfold GK;refine tN rfl ?_;unfold Gu at last⊢
 walk_at "nm"
 refine eR (au (sr (φ:=D0) (ds:=[cD c]) rfl (ae (ad rfl (ag ⟨rfl,rfl⟩))) (nq (n:=4) (by decide) (t6 hc)) rfl ⟨_,_,_,rfl,rfl,⟨rfl,rfl⟩,?_⟩));show Wp (aL _ _ _ [0] (RH c d c.mems c.gates c.outs NX NX NX NX NX)) _;refine aI (au (aj (aj (ad rfl (iX (cP (l:=c.mems) (.inl rfl) (ad rfl rfl)) (bn (iX (cP (l:=c.gates) (.inl rfl) (ad rfl rfl)) (bn ⟨⟨rfl,by decide⟩,?_⟩))))))));have hn:c.n<1000:=by unfold Ci.n;lia
 show Wp (aL _ _ _ [0] (RH c d c.mems c.gates c.outs (ai (iD c.n)) NX NX NX NX)) _;refine aI (dc (m:=4) rfl rfl h (af rfl) (by decide) (by decide) λw d hw hS=>⟨⟨rfl,by decide⟩,?_⟩);show Wp (aL _ _ _ [0] (RH c d c.mems c.gates c.outs (ai (iD c.n)) (ai (iD w)) NX NX NX)) _;refine bh (nr (z:=decide ((w:Int)=0)) (w:=decide ((0:Int)<(c.mems.length:Int))) (aP (ad rfl (af (f9 rfl)))) (aP (iX (cP (l:=c.mems) (.inl rfl) (ad rfl rfl)) (af (f8 rfl))))) (λe=>?_) λ_=>?_
 ·rw[Lj] at e;have hl:(0:Int)<(c.mems.length:Int):=of_decide_eq_true e.2;refine aI (dc (m:=c.mems.length) rfl rfl hS (cP (l:=c.mems) (.inl rfl) (ad rfl rfl)) (by lia) (by lia) λk d hk hS=>⟨⟨rfl,by decide⟩,?_⟩);have em:c.mems[k]?=NW c.mems[k]:=Lm hk;have hmk:=hc.m c.mems[k] (Mi hk);generalize c.mems[k]=mk at em hmk;have emD:(c.mems.map a6)[k]?=NW (a6 mk):=by rw[Ll,em];rfl
  have e1:(1:Int)-(mk.1.toNat:Int)=((!mk.1).toNat:Int):=by cases mk.1<;>rfl
  refine iw (au (bC (ae (aj (af (aH (aH (ad rfl (ad rfl (am (n:=k) (d:=a6 mk) (.inl rfl) rfl emD (af (am (n:=0) (.inr rfl) rfl rfl (cL (ae (aH (aH (ad rfl (ad rfl (am (n:=k) (d:=a6 mk) (.inl rfl) rfl emD (af (am (n:=1) (.inr rfl) rfl rfl (ag (aR rfl (m7 rfl (ad rfl (eS rfl rfl rfl ?_))))))))))))))))))))))))));show Wp (fR [] .fz .lst (c.mems.map a6) (iD k) (.sh,.tup [.int ((1:Int)-(mk.1.toNat:Int)),iD mk.2])) _;rw[e1];refine d7 (jD (f:=a6) (x:=(!mk.1,mk.2)) hk rfl) (aM (br ?_));exact last d (c.mems.set k (!mk.1,mk.2)) c.gates c.outs _ _ _ _ _ (by simp) rfl rfl hc.g (qy hc.m hmk) hc.o hS
 refine bh (nr (z:=decide ((w:Int)=1)) (w:=decide ((0:Int)<(c.mems.length:Int))) (aP (ad rfl (af (f9 rfl)))) (aP (iX (cP (l:=c.mems) (.inl rfl) (ad rfl rfl)) (af (f8 rfl))))) (λe=>?_) λ_=>?_
 ·rw[Lj] at e;have hl:(0:Int)<(c.mems.length:Int):=of_decide_eq_true e.2;refine aI (dc (m:=c.mems.length) rfl rfl hS (cP (l:=c.mems) (.inl rfl) (ad rfl rfl)) (by lia) (by lia) λk d hk hS=>⟨⟨rfl,by decide⟩,?_⟩);have em:c.mems[k]?=NW c.mems[k]:=Lm hk;generalize c.mems[k]=mk at em;have emD:(c.mems.map a6)[k]?=NW (a6 mk):=by rw[Ll,em];rfl
  refine iw (cN (aN (au (aH (aH (ad rfl (ad rfl (am (n:=k) (d:=a6 mk) (.inl rfl) rfl emD (af (am (n:=0) (.inr rfl) rfl rfl ⟨rfl,aQ (dc (m:=c.n) rfl rfl hS (ad rfl rfl) (by unfold Ci.n;lia) (by lia) λr d hr hS=>ag (aR rfl (m7 rfl (ad rfl (eS rfl rfl rfl (d7 (jD (f:=a6) (x:=(mk.1,r)) hk rfl) (aM (br (aM (br ?_))))))))))⟩))))))))));exact last d (c.mems.set k (mk.1,r)) c.gates c.outs _ _ _ _ _ (by simp) rfl rfl hc.g (qy hc.m hr) hc.o hS
 refine bh (nr (z:=decide ((w:Int)=2)) (w:=decide ((0:Int)<(c.outs.length:Int))) (aP (ad rfl (af (f9 rfl)))) (aP (iX (cP (l:=c.outs) (.inl rfl) (ad rfl rfl)) (af (f8 rfl))))) (λe=>?_) λ_=>?_
 ·rw[Lj] at e;have hl:(0:Int)<(c.outs.length:Int):=of_decide_eq_true e.2
  have hn0:0<c.n:=by
   have:0<c.outs.length:=by lia
   exact Mc (LF _) (hc.o c.outs[0] (Mi this))
  refine Dx rfl (aN (dc (m:=c.n) rfl rfl hS (ad rfl rfl) hn0 (by lia) λr d hr hS=>⟨rfl,aQ (dc (m:=c.outs.length) rfl rfl hS (cP (l:=c.outs) (.inl rfl) (ad rfl rfl)) (by lia) (by lia) λk d hk hS=>ag ⟨_,_,[],.fz,_,rfl,rfl,d7 (jD (f:=iD) (x:=r) hk rfl) (aM (br (aM (br (aM (br ?_))))))⟩)⟩));exact last d c.mems c.gates (c.outs.set k r) _ _ _ _ _ rfl rfl (by simp) hc.g hc.m (qy hc.o hr) hS
 refine bh (z:=decide ((0:Int)<(c.gates.length:Int))) (aP (iX (cP (l:=c.gates) (.inl rfl) (ad rfl rfl)) (af (f8 rfl)))) (λe=>?_) λ_=>bE (aM (br (aM (br (aM (br ?_))))))
 ·have hl:(0:Int)<(c.gates.length:Int):=of_decide_eq_true e;refine aI (dc (m:=c.gates.length) rfl rfl hS (cP (l:=c.gates) (.inl rfl) (ad rfl rfl)) (by lia) (by lia) λk d hk hS=>⟨⟨rfl,by decide⟩,?_⟩);have eg:c.gates[k]?=NW c.gates[k]:=Lm hk;generalize c.gates[k]=g at eg;obtain⟨g1,g2,g3⟩:=hc.g k g eg;have egD:(c.gates.map aJ)[k]?=NW (aJ g):=by rw[Ll,eg];rfl
  refine eR (au (aH (ad rfl (ad rfl (am (n:=k) (d:=aJ g) (.inl rfl) rfl egD ⟨_,_,_,rfl,rfl,⟨rfl,rfl⟩,?_⟩)))));show Wp (aL _ _ _ [0] (RH c d c.mems c.gates c.outs (ai (iD c.n)) (ai (iD w)) (ai (iD k)) (ai (iD g.1)) (ai (.tup (g.2.map iD))))) _;have h8:2^g.2.length<=8:=LR (n:=2) (by decide) g1;have hsh:(1:Int)*2^((g.2.length:Int)).toNat=((2^g.2.length:Nat):Int):=by rw[LN];simp
  refine iw (cN (aQ (m5 (aN (au (ad rfl ⟨rfl,aQ (m5 (aN (au (af ⟨rfl,aQ (dc (m:=2^g.2.length) rfl rfl hS (aj (af (iX (cP (l:=g.2) (.inr rfl) (ad rfl rfl)) (eO (xj g1).1 (congrArg (λz=>(Kd.sh,D.int z)) hsh))))) (MD _) (by lia) λr d hr hS=>ag ⟨_,_,rfl,eO ⟨by lia,by lia,by decide⟩ ?_⟩)⟩))))⟩))))));have e2:(1:Int)*2^((r:Int)).toNat=((2^r:Nat):Int):=by rw[LN];simp
  have hx:g.1 ^^^ 2^r<2^2^g.2.length:=ND g2 (Nat.pow_lt_pow_right (by decide) hr);rw[e2];refine ag ⟨_,_,rfl,qo (ae (ad rfl (ag (aR rfl (m7 rfl (ad rfl (eS rfl rfl rfl (d7 (jD (f:=aJ) (x:=(g.1 ^^^ 2^r,g.2)) hk rfl) (aM (br (aM (br (aM (br (aM (br ?_))))))))))))))))⟩;exact last d c.mems (c.gates.set k (g.1 ^^^ 2^r,g.2)) c.outs _ _ _ _ _ rfl (by simp) rfl (hc.g.put ⟨g1,hx,g3⟩) hc.m hc.o hS
 ·exact last d c.mems c.gates c.outs _ _ _ _ _ rfl rfl rfl hc.g hc.m hc.o hS
theorem oR{fs:List P}{j:Nat}(nd:fs.Nodup)(h:fs[j]?=NW p):a9 (fs.map pk) (pk p)=NW j:=by
 unfold a9;obtain⟨hj,e⟩:=Lk.mp h;rw[List.findIdx?_eq_some_iff_getElem];refine⟨by rw[Li];exact hj,by rw[NS,e];simp,λi hi z=>?_⟩;rw[NS] at z;have z:=wU (of_decide_eq_true z);have hi':i<fs.length:=by lia
 have:=(NO hi' nd).mp (((Lm hi').trans (congrArg NW z)).trans h.symm)
 lia
theorem Dy{fs:List P}{vs:List D}{j:Nat}{Q:KD->Prop}(nd:fs.Nodup)(h:fs[j]?=NW p)(hv:vs[j]?=NW d)(q:Q (pC k j,d)):Wp (qS (NW (k,.nd (.dic 4 (fs.map pk)) vs)) (NW (k',aT p))) Q:=by
 refine⟨_,?_,q⟩
 show(match gp (aT p) with|some q=>if jW 4 q=NY then(match a9 (fs.map pk) q with|some j=>(vs[j]?).map λd=>(pC k j,d)|none=>NX) else NX|none=>NX)=_
 rw[gH]
 show(match a9 (fs.map pk) (pk p) with|some j=>(vs[j]?).map λd=>(pC k j,d)|none=>NX)=_
 rw[oR nd h];show(vs[j]?).map _=_;rw[hv];rfl
theorem zY{Γ:GG}{ρ:Ro}{i:Nat}{fs:List P}{vs ds:List D}{j:Nat}{dx:D}{Q:Kd×D×Ro->Prop}(h:ρ[i]?=NW (NW ⟨NZ,.own [] k0,.nd (.dic 4 (fs.map pk)) vs⟩))(he:Wp (ak Γ.fn e ρ) λy=>y.2=aT p)(nd:fs.Nodup)(hj:fs[j]?=NW p)(hv:vs[j]?=NW (.lst ds))(hx:Wp (ak Γ.fn e' ρ) λy=>y=(kx,dx))(ho:mC kx dx=NY)(hl:ds.length<1000)(q:Q (.sh,.non,ρ.set i (NW ⟨NZ,.own [] k0,.nd (.dic 4 (fs.map pk)) (vs.set j (.lst (ds++[dx])))⟩))):Wp (a5 Γ (.mut "append" (.ix (.nm i) e) (.cons e' .nil)) ρ) Q:=by
 obtain⟨⟨ky,dy⟩,ey,hy⟩:=he;cases(show dy=_ from hy);obtain⟨y,ex,rfl⟩:=hx;refine⟨_,?_,q⟩;rw[ik,a7,a7,ex];show jm "append" i (kl (mU Γ.fn (.nm i) ρ) (ak Γ.fn e ρ)) (NW [(kx,dx)]) ρ=_;rw[mU,h,ey]
 have e1:kl (jd (NW (NW ⟨NZ,.own [] k0,.nd (.dic 4 (fs.map pk)) vs⟩))) (NW (ky,aT p))=NW (k0,.lst ds,λz=>D.nd (.dic 4 (fs.map pk)) (vs.set j z)):=by
  show(match (match gp (aT p) with|some k=>if jW 4 k=NY then a9 (fs.map pk) k else NX|none=>NX) with|some j=>(match vs[j]? with|some d=>NW (([]:List Ow).getD j k0,d,λz=>id (D.nd (.dic 4 (fs.map pk)) (vs.set j z)))|none=>NX)|none=>NX)=_
  rw[gH]
  show(match a9 (fs.map pk) (pk p) with|some j=>(match vs[j]? with|some d=>NW (([]:List Ow).getD j k0,d,λz=>id (D.nd (.dic 4 (fs.map pk)) (vs.set j z)))|none=>NX)|none=>NX)=_
  rw[oR nd hj];dsimp only;rw[hv];rfl
 rw[e1]
 show(match jl "append" [] .fz ds [(kx,dx)],ρ[i]? with|some (d',ds'),NW (NW ⟨NZ,k,_⟩)=>NW (Kd.sh,d',ρ.set i (NW ⟨NZ,k,D.nd (.dic 4 (fs.map pk)) (vs.set j (.lst ds'))⟩))|_,_=>NX)=_
 have e2:=oQ (es:=[]) (r:=.fz) (ds:=ds) (x:=(kx,dx)) ⟨LF _,ho,by lia⟩;rw[e2,h]
theorem Dz{fs:List P}{vs:List D}{p:P}{x:KD}(hp:p∉fs)(hl:vs.length<1000)(hx:cy k0 x=NY):fR [] k0 (.dic 4 (fs.map pk)) vs (aT p) x=NW (.dic 4 ((fs++[p]).map pk),vs++[x.2]):=by
 have hf:a9 (fs.map pk) (pk p)=NX:=by
  have:=kM fs p;rw[decide_eq_false hp] at this
  cases e:a9 (fs.map pk) (pk p) with
  |none=>rfl
  |some j=>rw[e] at this;cases this
 unfold fR;rw[gH];dsimp only;rw[if_pos ⟨rfl,by lia⟩,hf];dsimp only;rw[if_pos ⟨LF _,hx⟩,Lw];rfl
theorem DA(x y:Bool):nO (.bl x) (.bl y)=(x==y):=by unfold nO py;simp[PyData.eqv]
theorem DB{α:Type}{l:List α}{g:α->Bool}{T:Bool->Prop}(q:T (!(l.all g))):Wp (bR .In (.bl NZ) (.lst (l.map λi=>.bl (g i)))) T:=by
 refine⟨!(l.all g),?_,q⟩
 show(if ee 90 (.bl NZ)=NY/\jT 90 (l.map λi=>D.bl (g i))=NY then NW ((l.map λi=>D.bl (g i)).any λz=>nO z (.bl NZ)) else NX)=_
 rw[if_pos ⟨rfl,eT λx hx=>by obtain⟨i,_,rfl⟩:=LX.mp hx;rfl⟩];congr 1;clear q
 induction l with
 |nil=>rfl
 |cons i l ih=>
  rw[LJ,ML,L3,ih,DA]
  cases g i<;>simp
theorem zZ{fs:List P}{i:Nat}:∃r,qw a b p fs i=fs++r:=by
 unfold qw;split
 ·exact⟨_,rfl⟩
 ·exact⟨[],by simp⟩
theorem sB{fs:List P}:∀s,∃r,m9 a b p s fs=fs++r
 |0=>⟨[],by simp[m9]⟩
 |s+1=>by
  obtain⟨r,e⟩:=sB (a:=a) (b:=b) (p:=p) (fs:=fs) s;obtain⟨r2,e2⟩:=zZ (a:=a) (b:=b) (p:=p) (fs:=fs++r) (i:=s);rw[eE,e,e2];exact⟨r++r2,by simp⟩
theorem lZ{k:Nat}{p:P}(h:(bT a b k)[k]?=NW p):(bT a b (k+1)).take (k+1)=(bT a b k).take k++[p]:=by
 rw[kP h];obtain⟨r,e⟩:=sB (a:=a) (b:=b) (p:=p) (fs:=bT a b k) (2^a.ins);have hk:=(Lk.mp h).1;rw[e,List.take_append_of_le_length (by lia),L9,h];rfl
theorem xm{fs:List P}{k:Nat}(nd:fs.Nodup)(h:fs[k]?=NW p):p∉fs.take k:=λz=>by
 obtain⟨j,hj⟩:=Mx.mp z;have hjl:=(Lk.mp hj).1;have hk:=(Lk.mp h).1;rw[LU] at hjl;rw[List.getElem?_take,if_pos (by lia)] at hj;have:=(NO (by lia) nd).mp (hj.trans h.symm)
 lia
noncomputable def t7(a b:Ci)(p:P)(i:Nat):D:=.tup [.bl (i0 a b p i),aT (iz a b p i)]
noncomputable def gI(a b:Ci)(s:Nat)(p:P):D:=.lst ((Ln s).map (t7 a b p))
noncomputable abbrev Hv(n:Nat):D:=.lst ((Ln (2^n)).map λi=>.lst ((rb n i).map bD))
noncomputable abbrev RG(a b:Ci)(at_:Nat)(fs ks:List P)(vs:List D)(x7 x8 x9 x10 x11 x12:Option Sl):Ro:=[ai (cD a),ai (cD b),ai (Hv a.ins),NW ⟨NZ,.own [] k0,.nd (.dic 4 (ks.map pk)) vs⟩,NW ⟨NZ,k0,.lst (fs.map aT)⟩,NW ⟨NZ,k0,D6 fs⟩,ai (iD at_),x7,x8,x9,x10,x11,x12]
theorem xn{a b:Ci}{at_ s j:Nat}{fs ks:List P}{vs:List D}{p:P}(ha:Ok a)(hb:Ok b)(hi:a.ins=b.ins)(hw:Wf a b fs)(hf:fs.length<=256)(hpo:p.1.length=a.mems.length/\p.2.length=b.mems.length)(hk:ks.Nodup)(hj:ks[j]?=NW p)(hv:vs[j]?=NW (gI a b s p))(hs:s<2^a.ins){Q:Res->Prop}
  (q:∀x9 x10 x11 x12,Q (.nx (RG a b at_ (qw a b p fs s) ks (vs.set j (gI a b (s+1) p)) (ai (aT p)) (ai (.lst ((rb a.ins s).map bD))) x9 x10 x11 x12))) :
  Wp (aL Γ_26 1000 (match Gy with|.cons _ (.cons _ (.cons _ (.cons _ (.cons (.wh _ _ (.cons _ (.cons _ (.cons _ (.cons (.fo _ _ _ c) _))))) _))))=>c|c=>c) [] (RG a b at_ fs ks vs (ai (aT p)) (ai (.lst ((rb a.ins s).map bD))) NX NX NX NX)) Q:=by
 unfold Gy;have h64:2^a.ins<=64:=LR (n:=2) (by decide) ha.bi;refine eR (au (sr (φ:=D2) (ds:=[cD a,.tup (p.1.map bD),.lst ((rb a.ins s).map bD)]) rfl (ae (ad rfl (ae (aH (ad rfl (af (am (n:=0) (.inr rfl) rfl rfl (ae (ad rfl (ag ⟨rfl,rfl⟩))))))))) ) (oP ha hpo.1 wN) rfl ⟨_,_,_,rfl,rfl,⟨rfl,rfl⟩,?_⟩));refine eR (au (sr (φ:=D2) (ds:=[cD b,.tup (p.2.map bD),.lst ((rb a.ins s).map bD)]) rfl (ae (ad rfl (ae (aH (ad rfl (af (am (n:=1) (.inr rfl) rfl rfl (ae (ad rfl (ag ⟨rfl,rfl⟩))))))))) ) (oP hb hpo.2 (by rw[wN,hi])) rfl ⟨_,_,_,rfl,rfl,⟨rfl,rfl⟩,?_⟩));show Wp (aL _ _ _ [] (RG a b at_ fs ks vs (ai (aT p)) (ai (.lst ((rb a.ins s).map bD))) (ai (.lst ((bI a p.1 (rb a.ins s)).map bD))) (ai (.tup ((nextOf a p.1 (rb a.ins s)).map bD))) (ai (.lst ((bI b p.2 (rb a.ins s)).map bD))) (ai (.tup ((nextOf b p.2 (rb a.ins s)).map bD))))) _;refine cG (zY (i:=3) (kx:=.sh) (dx:=t7 a b p s) rfl (ad rfl rfl) hk hj hv (bC (ae (gE (ad rfl (ad rfl (qt (ae (bC (ae (ad rfl (ae (ad rfl (ag (aR rfl (ag (aR rfl rfl)))))))))))))))) rfl (by rw[Li,Lz];lia) ?_);have e1:(Ln s).map (t7 a b p)++[t7 a b p s]=(Ln (s+1)).map (t7 a b p):=by rw[MB,Lw];rfl
 rw[e1];show Wp (aL _ _ _ [] (RG a b at_ fs ks (vs.set j (gI a b (s+1) p)) (ai (aT p)) (ai (.lst ((rb a.ins s).map bD))) (ai (.lst ((bI a p.1 (rb a.ins s)).map bD))) (ai (.tup ((nextOf a p.1 (rb a.ins s)).map bD))) (ai (.lst ((bI b p.2 (rb a.ins s)).map bD))) (ai (.tup ((nextOf b p.2 (rb a.ins s)).map bD))))) _;refine bh (z:=i0 a b p s&&!decide (iz a b p s∈fs)) (nr (aP (ad rfl (ad rfl (qt rfl)))) (aP (bC (ae (ad rfl (ae (ad rfl (ag (aR rfl (ad rfl (AS (p:=iz a b p s) rfl))))))))))) (λe=>?_) λe=>bE (aM ?_)
 ·rw[Lj] at e;have hq:iz a b p s∉fs:=by simpa using e.2
  refine iw (au (af (m7 rfl (bC (ae (ad rfl (ae (ad rfl (ag (aR rfl (eS rfl rfl rfl (d7 (w5 (p:=iz a b p s) hq (by lia) (LF _)) ?_))))))))))));refine cG (cV (bC (ae (ad rfl (ae (ad rfl (ag (aR rfl ⟨[],.fz,_,rfl,⟨LF _,rfl,by rw[Li];lia⟩,aM (br (aM ?_))⟩))))))));have e2:fs.map aT++[aT (iz a b p s)]=(fs++[iz a b p s]).map aT:=by rw[Lw];rfl
  have q:=q (ai (.lst ((bI a p.1 (rb a.ins s)).map bD))) (ai (.tup ((nextOf a p.1 (rb a.ins s)).map bD))) (ai (.lst ((bI b p.2 (rb a.ins s)).map bD))) (ai (.tup ((nextOf b p.2 (rb a.ins s)).map bD)));rw[nc e.1 hq,RG,<- e2] at q;exact q
 ·have hq:i0 a b p s=NY->iz a b p s∈fs:=λh=>by
   rw[h] at e;simpa using e
  rw[si hq] at q;exact q _ _ _ _
theorem xo{a b:Ci}(ha:Ok a)(hb:Ok b)(hi:a.ins=b.ins)(hm:a.mems.length+b.mems.length<=8):D4 [cD a,cD b,Hv a.ins]=NW (.sh,.tup [.lst ((jo a b).map aT),.nd (.dic 4 ((jo a b).map pk)) ((jo a b).map (gI a b (2^a.ins)))]):=by
 unfold D4;refine bQ (c9 rfl ?_);have body:=@xn a b;unfold Gy at body⊢
 walk_at "nm"
 refine aI (au (zN ⟨⟨rfl,by decide⟩,?_⟩));refine aI (au (bc (ae (bC (ae (sr (φ:=D3) (ds:=[cD a]) rfl (ae (ad rfl (ag ⟨rfl,rfl⟩))) (lX ha) rfl (ae (sr (φ:=D3) (ds:=[cD b]) rfl (ae (ad rfl (ag ⟨rfl,rfl⟩))) (lX hb) rfl (ag (aR rfl (ag (a8 rfl ⟨⟨rfl,by decide⟩,?_⟩))))))))))));refine aI (au (r9 (aH (ad rfl (af (am (n:=0) (d:=aT (tW a b)) (.inl rfl) rfl rfl (af ⟨(.fr bv,D6 [tW a b]),?_,⟨rfl,by decide⟩,?_⟩)))))))
 ·unfold i8;dsimp only;rw[gH];rfl
 refine aI (au (af ⟨⟨rfl,by decide⟩,?_⟩));show Wp (aL _ _ _ [] (RG a b 0 (bT a b 0) [] [] NX NX NX NX NX NX)) _;refine AR (λm ρ=>∃at_ x7 x8 x9 x10 x11 x12,ρ=RG a b at_ (bT a b at_) ((bT a b at_).take at_) (((bT a b at_).take at_).map (gI a b (2^a.ins))) x7 x8 x9 x10 x11 x12/\m+at_=300) (m0:=300) (by decide) ⟨0,NX,NX,NX,NX,NX,NX,rfl,rfl⟩ λm ρ hI=>?_;obtain⟨at_,x7,x8,x9,x10,x11,x12,rfl,hme⟩:=hI;have hwf:=kR (a:=a) (b:=b) at_;have hfs:=hwf.len hm;show Wp (ce _ _ (RG a b at_ (bT a b at_) ((bT a b at_).take at_) (((bT a b at_).take at_).map (gI a b (2^a.ins))) NX NX x9 x10 x11 x12)) _;refine rV (aP (ad rfl (bx (ae (ad rfl (ag (dw (wu ⟨λe=>?_,λe=>?_⟩))))))))
 ·have hat:¬(at_:Int)<(((bT a b at_).map aT).length:Int):=of_decide_eq_false e;rw[Li] at hat;have hall:=w4 (a:=a) (b:=b) (k:=at_) (by lia) (by lia);rw[Nq (by lia),<- hall];exact aW (cN (aN (c8 rfl ⟨rfl,aQ (c8 rfl (ag (aR rfl ⟨rfl,bw rfl rfl⟩)))⟩)))
 ·have hat:(at_:Int)<(((bT a b at_).map aT).length:Int):=of_decide_eq_true e;rw[Li] at hat;have hp:(bT a b at_)[at_]?=NW ((bT a b at_)[at_]'(by lia)):=Lm _;generalize ((bT a b at_)[at_]'(by lia))=p at hp;have hpo:=hwf.ok p (LD hp);have hni:=xm hwf.nd hp;have htl:((bT a b at_).take at_).length=at_:=by rw[LU];lia
  have hnd:((bT a b at_).take at_++[p]).Nodup:=by
   rw[NN];exact⟨hwf.nd.sublist (NK _ _),by simp,λx hx y hy e=>hni (by simp at hy;rw[<- hy,<- e];exact hx)⟩
  refine aI (au (aH (ad rfl (ad rfl (am (n:=at_) (d:=aT p) (.inl rfl) rfl (by rw[Ll,hp];rfl) ⟨⟨rfl,by decide⟩,?_⟩)))));refine aI (au (aj (ad rfl (af (bn ⟨⟨rfl,by decide⟩,?_⟩)))));refine iw (au (bc (ag (a8 rfl (m7 rfl (ad rfl (eS rfl rfl rfl (d7 (Dz hni (by rw[Li,htl];lia) rfl) ?_))))))));show Wp (aL _ _ _ [] (RG a b (at_+1) (bT a b at_) ((bT a b at_).take at_++[p]) (((bT a b at_).take at_).map (gI a b (2^a.ins))++[gI a b 0 p]) (ai (aT p)) NX x9 x10 x11 x12)) _;refine dN (bU (fS (ad rfl (cw rfl ⟨λs ρ=>∃x8 x9 x10 x11 x12,ρ=RG a b (at_+1) (m9 a b p s (bT a b at_)) ((bT a b at_).take at_++[p]) (((bT a b at_).take at_).map (gI a b (2^a.ins))++[gI a b s p]) (ai (aT p)) x8 x9 x10 x11 x12,⟨NX,x9,x10,x11,x12,rfl⟩,λs d ρ hd hI=>?_,λρ hI=>?_⟩))))
  ·obtain⟨x8,x9,x10,x11,x12,rfl⟩:=hI;obtain⟨hs,rfl⟩:=Du hd;refine⟨[(8,.lst ((rb a.ins s).map bD))],rfl,rfl,?_⟩;have hw2:=hwf.turn (p:=p) s;refine body (j:=at_) ha hb hi hw2 (hw2.len hm) hpo hnd (by rw[LS (by lia),htl,Mt];rfl) (by rw[LS (by rw[Li];lia),Li,htl,Mt];rfl) hs λx9 x10 x11 x12=>⟨_,.inl rfl,ai (.lst ((rb a.ins s).map bD)),x9,x10,x11,x12,?_⟩;rw[eE,List.set_append_right _ _ (by rw[Li];lia),Li,htl,Mt];rfl
  ·obtain⟨x8,x9,x10,x11,x12,rfl⟩:=hI;have hl:((Ln (2^a.ins)).map λi=>D.lst ((rb a.ins i).map bD)).length=2^a.ins:=by rw[Li,Lz]
   show Wp (aL _ _ _ [] (RG a b (at_+1) (m9 a b p ((Ln (2^a.ins)).map λi=>D.lst ((rb a.ins i).map bD)).length (bT a b at_)) ((bT a b at_).take at_++[p]) (((bT a b at_).take at_).map (gI a b (2^a.ins))++[gI a b ((Ln (2^a.ins)).map λi=>D.lst ((rb a.ins i).map bD)).length p]) (ai (aT p)) NX NX NX NX NX)) _;rw[hl,<- kP hp,<- lZ hp];refine aM (.inl ⟨_,m-1,.inl rfl,by lia,at_+1,ai (aT p),NX,NX,NX,NX,NX,?_,by lia⟩);rw[lZ hp,Lw];rfl
noncomputable def z3(a b:Ci)(fs:List P):Prop:=∀p∈fs,∀i,i<2^a.ins->i0 a b p i=NY
noncomputable def GZ(a b:Ci)(fs:List P):Prop:=D4 [cD a,cD b,Hv a.ins]=NW (.sh,.tup [.lst (fs.map aT),.nd (.dic 4 (fs.map pk)) (fs.map (gI a b (2^a.ins)))])
noncomputable abbrev RD(a b:Ci)(fs:List P)(x4:Option Sl):Ro:=[ai (cD a),ai (cD b),ai (.lst (fs.map aT)),ai (.nd (.dic 4 (fs.map pk)) (fs.map (gI a b (2^a.ins)))),x4]
theorem oT{a b:Ci}{fs:List P}{p:P}{j:Nat}(ha:Ok a)(nd:fs.Nodup)(hp:fs[j]?=NW p):Wp (bp Γ_28.fn (.cmp .In (.lit (.bl NZ)) (.comp .fz [NX,NX,NX] (.tp [(.nm 1),(.nm 2)]) (.e (.ix (.var 3) (.var 4))) .non (.var 1))) (RD a b fs (ai (aT p)))) λz=>z=!((Ln (2^a.ins)).all (i0 a b p)):=by
 have h64:2^a.ins<=64:=LR (n:=2) (by decide) ha.bi;exact aP (af (iY (l:=Ln (2^a.ins)) (f:=t7 a b p) (g:=λi=>.bl (i0 a b p i)) (.inl rfl) (aH (ad rfl (ad rfl (Dy (d:=gI a b (2^a.ins) p) nd hp (by rw[Ll,hp];rfl) ⟨rfl,rfl⟩)))) (by rw[Lz];lia) (λi _=>Dp rfl (ad rfl ⟨_,rfl,rfl⟩)) (DB rfl)))
theorem l3(ha:Ok a)(hg:GZ a b fs){Q:Res->Prop}(q:Wp (aL Γ_28 1000 (match Dg with|.cons _ r=>r|r=>r) [] (RD a b fs NX)) Q):Wp (aL Γ_28 1000 Dg [] [ai (cD a),ai (cD b),NX,NX,NX]) Q:=by
 unfold Dg at q⊢;exact eR (au (sr (φ:=D4) (ds:=[cD a,cD b,Hv a.ins]) rfl (ae (ad rfl (ae (ad rfl (ae (sr (φ:=GM) (ds:=[iD a.ins]) rfl (ae (aH (ad rfl (af (am (n:=0) (.inr rfl) rfl rfl (ag ⟨rfl,rfl⟩)))))) (qx ha.bi) rfl (ag ⟨rfl,rfl⟩)))))))  hg rfl ⟨_,_,_,rfl,rfl,⟨rfl,rfl⟩,q⟩))
theorem z4{fs:List P}(ha:Ok a)(hg:GZ a b fs)(nd:fs.Nodup)(hl:fs.length<=256)(h:z3 a b fs):AK [cD a,cD b]=NW (.fr k0,.lst (fs.map aF)):=by
 unfold AK;refine bQ (c9 rfl (l3 ha hg ?_));have ts:=@oT a b fs;unfold Dg;refine dN (bU (fS (ad rfl (cw rfl ⟨λs ρ=>∃x4,ρ=RD a b fs x4,⟨NX,rfl⟩,λs d ρ hd hI=>?_,λρ hI=>?_⟩))))
 ·obtain⟨x4,rfl⟩:=hI;have hd:(fs.map aT)[s]?=NW d:=hd;rw[Ll] at hd
  cases e:fs[s]? with
  |none=>rw[e] at hd;cases hd
  |some p=>
   rw[e] at hd;cases hd;refine⟨[(4,aT p)],rfl,rfl,?_⟩;show Wp (aL _ _ _ [] (RD a b fs (ai (aT p)))) _
   have hz:(!((Ln (2^a.ins)).all (i0 a b p)))=NZ:=by
    rw[LI.mpr λi hi=>h p (LD e) i (Mq.mp hi)];rfl
   exact bh (z:=NZ) ((ts ha nd e).mono λz hz'=>hz'.trans hz) (λe=>by cases e) λ_=>bE (aM ⟨_,.inl rfl,ai (aT p),rfl⟩)
 ·obtain⟨x4,rfl⟩:=hI;show Wp (aL _ _ _ [] (RD a b fs NX)) _;exact aW (au (iY (l:=fs) (f:=aT) (g:=aF) (.inl rfl) (ad rfl ⟨rfl,rfl⟩) (by lia) (λp _=>Dp rfl (bC (ae (bx (ae (ad rfl (ag (kS rfl (ae (bx (ae (ad rfl (ag (kS rfl (ag (aR rfl ⟨_,rfl,rfl⟩)))))))))))))))) ⟨rfl,bw rfl rfl⟩))
theorem DC{fs:List P}(ha:Ok a)(hg:GZ a b fs)(nd:fs.Nodup)(h:¬z3 a b fs):AK [cD a,cD b]=NW (.sh,.non):=by
 unfold AK;refine bQ (c9 rfl (l3 ha hg ?_));have ts:=@oT a b fs;unfold Dg;refine wJ (bU (fS (ad rfl (cw rfl ⟨λs ρ=>∃x4,ρ=RD a b fs x4/\∀(j:Nat) p,j<s->fs[j]?=NW p->∀i,i<2^a.ins->i0 a b p i=NY,λk d ρ=>k=.sh/\d=.non,⟨NX,rfl,λj p hj=>absurd hj (MW _)⟩,λs d ρ hd hI=>?_,λρ hI=>?_,λk d ρ hR=>?_⟩))))
 ·obtain⟨x4,rfl,hA⟩:=hI;have hd:(fs.map aT)[s]?=NW d:=hd;rw[Ll] at hd
  cases e:fs[s]? with
  |none=>rw[e] at hd;cases hd
  |some p=>
   rw[e] at hd;cases hd;refine⟨[(4,aT p)],rfl,rfl,?_⟩;show Wp (aL _ _ _ [] (RD a b fs (ai (aT p)))) _;refine bh (ts ha nd e) (λhz=>aW (au (af ⟨rfl,ge (.inr ⟨.sh,.non,_,rfl,rfl,rfl⟩)⟩))) λhz=>bE (aM (.inl ⟨_,.inl rfl,ai (aT p),rfl,λj q hj hq i hi=>?_⟩));by_cases ej:j=s
   ·subst ej;rw[e] at hq;cases hq;have hz:(Ln (2^a.ins)).all (i0 a b p)=NY:=by simpa using hz
    exact LI.mp hz i (Mq.mpr hi)
   ·exact hA j q (by lia) hq i hi
 ·obtain⟨x4,_,hA⟩:=hI;have hA:∀(j:Nat) p,j<(fs.map aT).length->fs[j]?=NW p->∀i,i<2^a.ins->i0 a b p i=NY:=hA;refine absurd (λp hp i hi=>?_) h;obtain⟨j,hj⟩:=Mx.mp hp;exact hA j p (by rw[Li];exact(Lk.mp hj).1) hj i hi
 ·obtain⟨rfl,rfl⟩:=hR;exact⟨rfl,bw rfl rfl⟩
theorem z5(d:D):cF d .fz=jQ d:=by cases d<;>(unfold cF;rfl)
theorem nu{α:Type}{f:α->D}:∀{l:List α},(∀x,jQ (f x)=NY)->eU (l.map f) [] .fz=NY
 |[],_=>by rw[MN];unfold eU;rfl
 |x::l,h=>by
  rw[LJ];unfold eU;rw[show([]:List Ow).headD .fz=.fz from rfl,z5,h x];exact nu h
theorem sC:∀l:List Nat,qP (l.map iD)=NY
 |[]=>by rw[MN];unfold qP;rfl
 |x::l=>by
  rw[LJ];unfold qP;rw[sC l];rfl
theorem DD(m:Bool×Nat):jQ (a6 m)=NY:=rfl
theorem z6(g:Nat×List Nat):jQ (aJ g)=NY:=by
 show(NY&&(jQ (iD g.1)&&((NY&&qP (g.2.map iD))&&qP [])))=NY;rw[sC];rfl
theorem xp(c:Ci):kw (sw (cD c),cD c)=NY:=by
 have h0:cF (iD c.ins) k0=NY:=by unfold cF;rfl
 have h1:cF (.lst (c.mems.map a6)) k0=NY:=by unfold cF;exact nu DD
 have h2:cF (.lst (c.gates.map aJ)) k0=NY:=by unfold cF;exact nu z6
 have h3:cF (.lst (c.outs.map iD)) k0=NY:=by unfold cF;exact nu λ_=>rfl
 show cF (.tup [iD c.ins,.lst (c.mems.map a6),.lst (c.gates.map aJ),.lst (c.outs.map iD)]) (.own [] k0)=NY;unfold cF eU eU eU eU eU;rw[show([]:List Ow).headD k0=k0 from rfl,show([]:List Ow).tail.headD k0=k0 from rfl,show([]:List Ow).tail.tail.headD k0=k0 from rfl,show([]:List Ow).tail.tail.tail.headD k0=k0 from rfl,h0,h1,h2,h3];rfl
theorem xq:∀x:List Bool,(x.map bD).all (λd=>match d with|.int _=>NY|_=>NZ)=NY
 |[]=>rfl
 |b::x=>by rw[LJ,L3,xq x];rfl
theorem DE{fs:List P}{m n:Nat}(hm:m<=1000)(hn:n<=1000)(hl:fs.length<=1000)(h:∀p∈fs,p.1.length=m/\p.2.length=n):mX (.lst (fs.map aF))=NY:=by
 show(decide ((fs.map aF).length<=1000)&&(fs.map aF).all FX)=NY;rw[Li,decide_eq_true hl,Bool.true_and,LI];intro d hd;obtain⟨p,hp,rfl⟩:=LX.mp hd;obtain⟨h1,h2⟩:=h p hp;show((decide ((p.1.map bD).length<=1000)&&(p.1.map bD).all _)&&(decide ((p.2.map bD).length<=1000)&&(p.2.map bD).all _))=NY;rw[Li,Li,decide_eq_true (by lia:p.1.length<=1000),decide_eq_true (by lia:p.2.length<=1000)];exact(congr (congrArg and (xq p.1)) (xq p.2))
structure Pq(a b:Ci):Prop where
 oa:Ok a
 ob:Ok b
 i:a.ins=b.ins
 o:a.outs.length=b.outs.length
 m:a.mems.length+b.mems.length<=8
theorem G0(h:Pq a b):∃fs row,GZ a b fs/\Wf a b fs/\fs.length<=256/\ψ5 [cD a,cD b]=NW (.sh,tX row)/\ψ6 [cD a,cD b]=NW (.sh,ng row fs)/\match row with|none=>z3 a b fs|some _=>¬z3 a b fs:=by
 obtain⟨row,fs,hs,hF⟩:=tY h.oa h.ob h.i h.o h.m;have hg:GZ a b (jo a b):=xo h.oa h.ob h.i h.m;have hw:Wf a b (jo a b):=kR 300;have hp:=tZ hs;have hq:=w8 hs
 cases row with
 |none=>
  have h1:fs=jo a b:=hF.1;have h2:zH a b:=hF.2;rw[h1] at hq;exact⟨jo a b,NX,hg,hw,hw.len h.m,hp,hq,λp hp i hi=>h2 p hp i hi⟩
 |some r=>
  have h1:¬zH a b:=hF;have hq:ψ6 [cD a,cD b]=NW (.sh,.non):=hq;exact⟨jo a b,NW r,hg,hw,hw.len h.m,hp,hq,λz=>h1 λp hp i hi=>z p hp i hi⟩
noncomputable abbrev RR(a b:Ci)(x2 x3 x4:Option Sl):Ro:=[ai (cD a),ai (cD b),x2,x3,x4,NX,NX]
theorem sD(h:Pq a b):aU Γ_29 xx (RR a b x2 NX NX)=NW ([(sw (cD a),cD a),(sw (cD b),cD b)],RR a b x2 NX NX):=by
 suffices w:Wp (aU Γ_29 xx (RR a b x2 NX NX)) λp=>p=([(sw (cD a),cD a),(sw (cD b),cD b)],RR a b x2 NX NX) by
  obtain⟨x,e,rfl⟩:=w;exact e
 unfold xx;exact aQ (au (sr (φ:=D0) (ds:=[cD a]) rfl (ae (ad rfl (ag ⟨rfl,rfl⟩))) (nq (n:=4) (by decide) (t6 h.oa)) rfl (ae (sr (φ:=D0) (ds:=[cD b]) rfl (ae (ad rfl (ag ⟨rfl,rfl⟩))) (nq (n:=4) (by decide) (t6 h.ob)) rfl (ag rfl)))))
theorem xr{fs:List P}(hw:Wf a b fs)(hl:fs.length<=256):Wp (aL Γ_29 1000 xy [3,0,1] (RR a b (NW ⟨NZ,k0,.lst (fs.map aF)⟩) (ai (.lst (fs.map aF))) NX)) λr=>∃ρ,r=.nx ρ/\ρ.length=7:=by
 unfold xy
 have hpk:ee 90 (.lst (fs.map aF))=NY:=by
  show ee (89+1) (.lst (fs.map aF))=NY;simp only[ee,Lj,decide_eq_true_eq];refine⟨by lia,eT λx hx=>?_⟩;obtain⟨p,_,rfl⟩:=LX.mp hx;show ee (88+1) (.tup [.lst (p.1.map bD),.lst (p.2.map bD)])=NY;simp only[ee,Lj,decide_eq_true_eq]
  exact⟨by lia,eT λx hx=>by
   rcases Lq.mp hx with rfl|hx
   ·exact sd 87 _
   ·cases L6.mp hx;exact sd 87 _⟩
 refine bh (z:=NZ) (jh (aP (ad rfl (af ⟨NZ,rfl,rfl⟩))) (ci (aP (ad rfl (af ⟨NZ,rfl,rfl⟩))))) (λe=>by cases e) λ_=>bE ?_;refine bh (z:=NZ) (jh (jC rfl (ad rfl rfl)) (ci (aP (iX (cP (l:=fs) (f:=aF) (.inl rfl) (ad rfl rfl)) (iX (cP (l:=fs) (f:=aF) (.inl rfl) (ad rfl rfl)) (lS zO)))))) (λe=>by cases e) λ_=>bE ?_;refine dN (bU (fS (ad rfl (cw rfl ⟨λs ρ=>∃x4,ρ=RR a b (NW ⟨NZ,k0,.lst (fs.map aF)⟩) (ai (.lst (fs.map aF))) x4,⟨NX,rfl⟩,λs d ρ hd hI=>?_,λρ hI=>?_⟩))))
 ·obtain⟨x4,rfl⟩:=hI;have hd:(fs.map aF)[s]?=NW d:=hd;rw[Ll] at hd
  cases e:fs[s]? with
  |none=>rw[e] at hd;cases hd
  |some p=>
   rw[e] at hd;cases hd;have hpo:=hw.ok p (LD e);refine⟨[(4,aF p)],rfl,rfl,?_⟩;show Wp (aL _ _ _ _ (RR a b (NW ⟨NZ,k0,.lst (fs.map aF)⟩) (ai (.lst (fs.map aF))) (ai (aF p)))) _;refine bh (z:=NZ) (jh (jC rfl (ad rfl rfl)) (ci (aP (iX (GY (n:=2) rfl (ad rfl rfl)) (af (lS rfl)))))) (λe=>by cases e) λ_=>bE ?_;exact bh (z:=NZ) (jh (nh (φ:=D5) (ds:=[.lst (p.1.map bD),iD a.mems.length]) rfl (ae (aH (ad rfl (af (am (n:=0) (.inr rfl) rfl rfl (ae (iX (cP (l:=a.mems) (.inl rfl) (aH (ad rfl (af (am (n:=1) (.inr rfl) rfl rfl rfl))))) (ag rfl)))))))) (lY hpo.1)) (ci (nh (φ:=D5) (ds:=[.lst (p.2.map bD),iD b.mems.length]) rfl (ae (aH (ad rfl (af (am (n:=1) (.inr rfl) rfl rfl (ae (iX (cP (l:=b.mems) (.inl rfl) (aH (ad rfl (af (am (n:=1) (.inr rfl) rfl rfl rfl))))) (ag rfl)))))))) (lY hpo.2)))) (λe=>by cases e) λ_=>bE (aM ⟨_,.inl rfl,ai (aF p),rfl⟩)
 ·obtain⟨x4,rfl⟩:=hI;exact bh (z:=NZ) (aP (ad rfl (ad rfl (ww ⟨hpk,hpk⟩ (by show(!nO (.lst (fs.map aF)) (.lst (fs.map aF)))=NZ;rw[oI hpk];rfl))))) (λe=>by cases e) λ_=>bE (aM ⟨_,rfl,rfl⟩)
theorem z7:Wp (aL Γ_29 1000 xy [3,0,1] (RR a b (ai .non) (ai .non) NX)) λr=>∃ρ,r=.rt .sh (.bl NY) ρ:=by
 unfold xy;refine bh (z:=NY) (fw (aP (ad rfl (af ⟨NY,rfl,λe=>absurd e (by decide),λ_=>rfl⟩)))) (λ_=>?_) λe=>by cases e
 exact aW (au (oF (gE (ad rfl (af ⟨NY,rfl,NY,rfl,λ_=>oE (gE (ad rfl (af ⟨NY,rfl,⟨rfl,ge ⟨_,rfl⟩⟩⟩))),λh=>absurd rfl h⟩)))))
theorem oU(h:Pq a b):GN [cD a,cD b]=NW (.sh,.bl NY):=by
 obtain⟨fs,row,hg,hw,hl,hp,hq,hA⟩:=G0 h;have hm:=h.m
 have hall:([(sw (cD a),cD a),(sw (cD b),cD b)]:List KD).all kw=NY:=by
  rw[L3,L3,xp,xp];rfl
 show gC (wL (RR a b NX NX NX))=_;unfold wL
 cases row with
 |none=>
  have e1:aL Γ_29 1000 AI [] (RR a b NX NX NX)=NW (.nx (RR a b (NW ⟨NZ,k0,.lst (fs.map aF)⟩) NX NX)):=by
   suffices w:Wp (aL Γ_29 1000 AI [] (RR a b NX NX NX)) λr=>r=.nx (RR a b (NW ⟨NZ,k0,.lst (fs.map aF)⟩) NX NX) by
    obtain⟨x,e,rfl⟩:=w;exact e
   unfold AI;exact aI (au (sr (φ:=AK) (ds:=[cD a,cD b]) rfl (ae (ad rfl (ae (ad rfl (ag ⟨rfl,rfl⟩))))) (z4 h.oa hg hw.nd hl hA) rfl ⟨⟨rfl,by decide⟩,aM rfl⟩))
  obtain⟨r,e2,ρ,rfl,hρ⟩:=xr (a:=a) (b:=b) hw hl
  have e3:mW [] [0,1] 7 3 (NW ψ6) mX (aU Γ_29 xx (RR a b (NW ⟨NZ,k0,.lst (fs.map aF)⟩) NX NX)) (aL Γ_29 1000 xy [3,0,1])=NW (.nx (RR a b NX NX NX)):=by
   rw[sD h];unfold mW;dsimp only;rw[if_pos ⟨hall,by decide,by decide,(show(3:Nat)<7 by decide),(show(7:Nat)<=7 by decide)⟩,show L4 (λx:KD=>x.2) [(sw (cD a),cD a),(sw (cD b),cD b)]=[cD a,cD b] from rfl,hq];dsimp only;rw[show(RR a b (NW ⟨NZ,k0,.lst (fs.map aF)⟩) NX NX).set 3 (NW (xv (ng NX fs)))=RR a b (NW ⟨NZ,k0,.lst (fs.map aF)⟩) (ai (.lst (fs.map aF))) NX from rfl,e2];dsimp only;rw[if_pos ⟨DE (m:=a.mems.length) (n:=b.mems.length) (by lia) (by lia) (by lia) hw.ok,hρ⟩];rfl
  have e4:Wp (aL Γ_29 1000 Di [] (RR a b NX NX NX)) λr=>Wp (gC (NW r)) λx=>x=(.sh,.bl NY):=by
   unfold Di;exact aW (au (gE (sr (φ:=ψ5) (ds:=[cD a,cD b]) rfl (ae (ad rfl (ae (ad rfl (ag ⟨rfl,rfl⟩))))) hp rfl (af ⟨NY,rfl,⟨rfl,bw rfl rfl⟩⟩))))
  obtain⟨r,e5,w⟩:=e4;rw[e1];show gC (je (mW [] [0,1] 7 3 (NW ψ6) mX (aU Γ_29 xx (RR a b (NW ⟨NZ,k0,.lst (fs.map aF)⟩) NX NX)) (aL Γ_29 1000 xy [3,0,1])) (aL Γ_29 1000 Di []))=_;rw[e3];show gC (aL Γ_29 1000 Di [] (RR a b NX NX NX))=_;rw[e5];exact bQ w
 |some rw_=>
  have e1:aL Γ_29 1000 AI [] (RR a b NX NX NX)=NW (.nx (RR a b (ai .non) NX NX)):=by
   suffices w:Wp (aL Γ_29 1000 AI [] (RR a b NX NX NX)) λr=>r=.nx (RR a b (ai .non) NX NX) by
    obtain⟨x,e,rfl⟩:=w;exact e
   unfold AI;exact aI (au (sr (φ:=AK) (ds:=[cD a,cD b]) rfl (ae (ad rfl (ae (ad rfl (ag ⟨rfl,rfl⟩))))) (DC h.oa hg hw.nd hA) rfl ⟨⟨rfl,by decide⟩,aM rfl⟩))
  obtain⟨r,e2,ρ,rfl⟩:=z7 (a:=a) (b:=b)
  have e3:mW [] [0,1] 7 3 (NW ψ6) mX (aU Γ_29 xx (RR a b (ai .non) NX NX)) (aL Γ_29 1000 xy [3,0,1])=NW (.rt .sh (.bl NY) ρ):=by
   rw[sD h];unfold mW;dsimp only;rw[if_pos ⟨hall,by decide,by decide,(show(3:Nat)<7 by decide),(show(7:Nat)<=7 by decide)⟩,show L4 (λx:KD=>x.2) [(sw (cD a),cD a),(sw (cD b),cD b)]=[cD a,cD b] from rfl,hq];dsimp only;rw[show(RR a b (ai .non) NX NX).set 3 (NW (xv (ng (NW rw_) fs)))=RR a b (ai .non) (ai .non) NX from rfl,e2]
  rw[e1];show gC (je (mW [] [0,1] 7 3 (NW ψ6) mX (aU Γ_29 xx (RR a b (ai .non) NX NX)) (aL Γ_29 1000 xy [3,0,1])) (aL Γ_29 1000 Di []))=_;rw[e3];rfl
theorem qA:∀(n:Nat) (d:D) (m:Nat),pl n d=NY->n<=m->ee m d=NY
 |0,.int _,m,_,_=>by cases m<;>rfl
 |0,.nd hd ds,_,h,_=>by cases hd<;>cases h
 |0,.non,_,h,_=>by cases h
 |0,.bl _,_,h,_=>by cases h
 |0,.str _,_,h,_=>by cases h
 |0,.scr _,_,h,_=>by cases h
 |n+1,.int _,m,_,_=>by cases m<;>rfl
 |n+1,.nd .lst ds,m+1,h,hm=>by
  have h:(decide (ds.length<=1000)&&ds.all (pl n))=NY:=h;rw[Lj,LI] at h;simp only[ee,Lj,decide_eq_true_eq];exact⟨by lia,eT λx hx=>qA n x m (h.2 x hx) (by lia)⟩
 |n+1,.nd .tup ds,m+1,h,hm=>by
  have h:(decide (ds.length<=1000)&&ds.all (pl n))=NY:=h;rw[Lj,LI] at h;simp only[ee,Lj,decide_eq_true_eq];exact⟨by lia,eT λx hx=>qA n x m (h.2 x hx) (by lia)⟩
 |n+1,.nd hd ds,0,h,hm=>by lia
 |n+1,.nd (.dic _ _) ds,_,h,_=>by cases h
 |n+1,.nd (.obj _ _) ds,_,h,_=>by cases h
 |n+1,.non,_,h,_=>by cases h
 |n+1,.bl _,_,h,_=>by cases h
 |n+1,.str _,_,h,_=>by cases h
 |n+1,.scr _,_,h,_=>by cases h
theorem DF{T:Bool->Prop}(h:ee 90 x=NY)(q:T NY):Wp (bR .Eq x x) T:=qh ⟨h,h⟩ (by rw[oI h];exact q)
theorem G3{Γ:GG}{N:Nat}{pn:List Nat}{ρ:Ro}{Q:Res->Prop}{rest:bW}{i j:Nat}{es:gu}(h:Wp (a7 Γ.fn es ρ) λl=>∃x y,l=[x,y]/\((mC x.1 x.2=NY/\mC y.1 y.2=NY)/\i≠j/\i∉pn/\j∉pn)/\Wp (aL Γ N rest pn (ou [i,j] [x.2,y.2] [] .fz ρ)) Q):Wp (aL Γ N (.cons (.par i j es) rest) pn ρ) Q:=by
 obtain⟨l,el,x,y,rfl,hh,w⟩:=h;refine cx ⟨.nx _,?_,br w⟩;rw[zd,el];exact if_pos hh
theorem Kb:∀r,r<5->∃s0 s1 s2 s3:Nat,[D.lst [iD 2,iD 2,iD 5,iD 2],D.lst [iD 5,iD 1,iD 4,iD 3],D.lst [iD 1,iD 3,iD 5,iD 4],D.lst [iD 2,iD 2,iD 9,iD 9],D.lst [iD 6,iD 1,iD 4,iD 8]][r]?=NW (.lst [iD s0,iD s1,iD s2,iD s3])/\s0<=6/\s1<=3/\s2<=9/\s3<=9
 |0,_=>⟨2,2,5,2,rfl,by decide,by decide,by decide,by decide⟩
 |1,_=>⟨5,1,4,3,rfl,by decide,by decide,by decide,by decide⟩
 |2,_=>⟨1,3,5,4,rfl,by decide,by decide,by decide,by decide⟩
 |3,_=>⟨2,2,9,9,rfl,by decide,by decide,by decide,by decide⟩
 |4,_=>⟨6,1,4,8,rfl,by decide,by decide,by decide,by decide⟩
 |n+5,h=>by lia
theorem Pq.self{a:Ci}(h:Ok a)(hm:a.mems.length<=4):Pq a a:=⟨h,h,rfl,rfl,by lia⟩
theorem Pq.flip(h:Pq a b):Pq b a:=⟨h.ob,h.oa,h.i.symm,h.o.symm,by have:=h.m;lia⟩
noncomputable abbrev RL(ns:List Int)(d sz:D)(a b:Ci)(x5 x6 x7:Option Sl):Ro:=[ai (.scr ns),NW ⟨NZ,k0,d⟩,ai sz,ai (cD a),ai (cD b),x5,x6,x7]
theorem z8{ns:List Int}{d sz:D}{a b c:Ci}(h:Pq a b)(hc:Pq c c):Wp (aL zq 1000 (match Dj with|.cons _ (.cons _ (.cons _ (.cons _ (.cons _ (.cons _ (.cons _ r))))))=>r|r=>r) [] (RL ns d sz a b (ai (cD c)) NX NX)) λr=>Wp (gC (NW r)) λx=>x=(.sh,.bl NY):=by
 unfold Dj
 have hp:pl 5 (.tup [cD a,cD b,cD c])=NY:=by
  show(decide ((3:Nat)<=1000)&&(pl 4 (cD a)&&(pl 4 (cD b)&&(pl 4 (cD c)&&NY))))=NY;rw[t6 h.oa,t6 h.ob,t6 hc.oa];rfl
 have hcd:ee 90 (.tup [cD a,cD b,cD c])=NY:=qA 5 _ 90 hp (by decide);refine aI (au (sr (φ:=D0) (ds:=[.tup [cD a,cD b,cD c]]) rfl (ae (bC (ae (ad rfl (ae (ad rfl (ae (ad rfl (ag (aR rfl (ag ⟨rfl,rfl⟩))))))))))) (nq (n:=5) (by decide) hp) rfl ⟨⟨rfl,by decide⟩,?_⟩));show Wp (aL _ _ _ [] (RL ns d sz a b (ai (cD c)) (NW ⟨NZ,.own [] k0,.tup [cD a,cD b,cD c]⟩) NX)) _;refine dN (bU (gG (af (af (fA rfl ⟨λs ρ=>∃x7,ρ=RL ns d sz a b (ai (cD c)) (NW ⟨NZ,.own [] k0,.tup [cD a,cD b,cD c]⟩) x7,⟨NX,rfl⟩,λs x ρ hd hI=>?_,λρ hI=>?_⟩)))))
 ·obtain⟨x7,rfl⟩:=hI;refine⟨[(7,x)],rfl,rfl,?_⟩;show Wp (aL _ _ _ [] (RL ns d sz a b (ai (cD c)) (NW ⟨NZ,.own [] k0,.tup [cD a,cD b,cD c]⟩) (ai x))) _;exact bh (z:=NZ) (jh (nh (φ:=GN) (ds:=[cD a,cD b]) rfl (ae (ad rfl (ae (ad rfl (ag rfl))))) (oU h)) (ci (nh (φ:=GN) (ds:=[cD c,cD c]) rfl (ae (ad rfl (ae (ad rfl (ag rfl))))) (oU hc)))) (λe=>by cases e) λ_=>bE (aM ⟨_,.inl rfl,ai x,rfl⟩)
 ·obtain⟨x7,rfl⟩:=hI;exact aW (au (gE (bC (ae (ad rfl (ae (ad rfl (ae (ad rfl (ag (aR rfl (ad rfl (DF hcd ⟨rfl,bw rfl rfl⟩)))))))))))))
theorem z9{ns:List Int}{d sz:D}{a b:Ci}(hS:d8 d)(h:Pq a b):Wp (aL zq 1000 (match Dj with|.cons _ (.cons _ (.cons _ (.cons _ (.cons _ r))))=>r|r=>r) [] (RL ns d sz a b NX NX NX)) λr=>Wp (gC (NW r)) λx=>x=(.sh,.bl NY):=by
 have fin:=@z8 ns;unfold Dj at fin⊢;refine aI (kG (φ:=DZ) rfl (fy (i:=1) rfl (eQ (au (bc (ae (af (ae (af (ae (af (ae (af (ag (a8 rfl ⟨rfl,fx ⟨by simp[cK],[(k0,d),(.fz,.lst [iD 1,iD 2,iD 4,iD 1])],rfl,kU (s0:=1) (s1:=2) (s2:=4) (s3:=1) hS (by decide) (by decide) (by decide) (by decide) λc d hc hb hS=>⟨rfl,rfl,⟨rfl,by decide⟩,?_⟩⟩⟩)))))))))))))));show Wp (aL _ _ _ [] (RL ns d sz a b (ai (cD c)) NX NX)) _;have hcc:Pq c c:=.self hc (by have:=hb.m;lia);refine rW (ir (aQ (dc (m:=2) rfl rfl hS (af rfl) (by decide) (by decide) λr d hr hS=>ae (af (ag ⟨_,_,rfl,f9 ⟨λe=>?_,λe=>bE ?_⟩⟩)))))
 ·exact G3 (ae (ad rfl (ae (ad rfl (ag ⟨_,_,rfl,⟨⟨rfl,rfl⟩,by decide,by decide,by decide⟩,aM (br (fin (d:=d) (sz:=sz) h.flip hcc))⟩)))))
 ·exact fin h hcc
theorem xt(ns:List Int)(hl:ns.length<=63):GO [.scr ns]=NW (.sh,.bl NY):=by
 have fin:=@z9 ns;unfold GO;refine bQ (c9 rfl ?_);unfold Dj at fin⊢
 walk_at "nm"
 refine aI (au (bX (φ:=GH) rfl (ae (ad rfl (ag (bP (xc hl λd hS=>⟨rfl,.inl rfl,⟨rfl,by decide⟩,?_⟩)))))));refine aI (lU (aN (au (bc (ae (bc (ae (af (ae (af (ae (af (ae (af (ag (a8 rfl (ae (bc (ae (af (ae (af (ae (af (ae (af (ag (a8 rfl (ae (bc (ae (af (ae (af (ae (af (ae (af (ag (a8 rfl (ae (bc (ae (af (ae (af (ae (af (ae (af (ag (a8 rfl (ae (bc (ae (af (ae (af (ae (af (ae (af (ag (a8 rfl (ag (a8 rfl ⟨rfl,aQ (dc (m:=5) rfl rfl hS (af rfl) (by decide) (by decide) λr d hr hS=>ag ⟨_,_,rfl,?_⟩)⟩))))))))))))))))))))))))))))))))))))))))))))))))))))))))))))))))));obtain⟨s0,s1,s2,s3,es,g0,g1,g2,g3⟩:=Kb r hr;refine am (n:=r) (d:=.lst [iD s0,iD s1,iD s2,iD s3]) (.inl rfl) rfl es ⟨⟨rfl,by decide⟩,?_⟩;show Wp (aL _ _ _ [] [ai (.scr ns),NW ⟨NZ,k0,d⟩,ai (.lst [iD s0,iD s1,iD s2,iD s3]),NX,NX,NX,NX,NX]) _;refine aI (kG (φ:=DZ) rfl (fy (i:=1) rfl (eQ (au (ad rfl ⟨rfl,fx ⟨by simp[cK],[(k0,d),(.fz,.lst [iD s0,iD s1,iD s2,iD s3])],rfl,kU hS g0 (by lia) g2 g3 λa d ha hb hS=>⟨rfl,rfl,⟨rfl,by decide⟩,?_⟩⟩⟩)))));show Wp (aL _ _ _ [] [ai (.scr ns),NW ⟨NZ,k0,d⟩,ai (.lst [iD s0,iD s1,iD s2,iD s3]),ai (cD a),NX,NX,NX,NX]) _;have hbm:=hb.m;have hbg:=hb.g;generalize D.lst [iD s0,iD s1,iD s2,iD s3]=sz;have oth:∀{d:D} {Q:Kd×D×Ro->Prop},d8 d->(∀b d',Pq a b->d8 d'->Q (.sh,cD b,[ai (.scr ns),NW ⟨NZ,k0,d'⟩,ai sz,ai (cD a),NX,NX,NX,NX]))->Wp (a5 zq (.io 21 (.ref 1 (.val (.p (.var 3)) (.val (.p (.lit (.int 1))) .nil)))) [ai (.scr ns),NW ⟨NZ,k0,d⟩,ai sz,ai (cD a),NX,NX,NX,NX]) Q:=λ{d Q} hS q=>kG (φ:=GJ) rfl (fy (i:=1) rfl (eQ (au (ad rfl ⟨rfl,eQ (au (af ⟨rfl,fx ⟨by simp[cK],[(k0,d),(.fz,cD a),(.fz,iD 1)],rfl,nj hS ha (by lia) (by lia) (Lo 1) λb d ho hS=>⟨rfl,rfl,q b d ⟨ha,ho.ok,ho.i.symm,ho.o.symm,by have:=ho.m;lia⟩ hS⟩⟩⟩))⟩))));refine aI (lU (aN (wB (aN (au (ad rfl ⟨rfl,aN (oth hS λb1 d h1 hS=>⟨rfl,aQ (oth hS λb2 d h2 hS=>ag (a8 rfl ⟨rfl,aQ (dc (m:=3) rfl rfl hS (af rfl) (by decide) (by decide) λr d hr hS=>ag ⟨_,_,rfl,?_⟩)⟩))⟩)⟩))))));have haa:Pq a a:=.self ha (by lia)
 have pick:∃b,[cD a,cD b1,cD b2][r]?=NW (cD b)/\Pq a b:=by
  match r,hr with
  |0,_=>exact⟨a,rfl,haa⟩
  |1,_=>exact⟨b1,rfl,h1⟩
  |2,_=>exact⟨b2,rfl,h2⟩
 obtain⟨b,eb,hb⟩:=pick;refine am (n:=r) (d:=cD b) (.inl rfl) rfl eb ⟨⟨rfl,by decide⟩,?_⟩;show Wp (aL _ _ _ [] (RL ns d sz a b NX NX NX)) _;refine rW (ir (aQ (dc (m:=4) rfl rfl hS (af rfl) (by decide) (by decide) λr d hr hS=>ae (af (ag ⟨_,_,rfl,f9 ⟨λe=>?_,λe=>bE ?_⟩⟩)))))
 ·exact aI (kG (φ:=GK) rfl (fy (i:=1) rfl (eQ (au (ad rfl ⟨rfl,fx ⟨by simp[cK],[(k0,d),(.fz,cD b)],rfl,qz hS hb.ob λb' d hb' hS=>⟨rfl,rfl,⟨rfl,by decide⟩,aM (br (fin (d:=d) (sz:=sz) hS ⟨hb.oa,hb'.ok,hb.i.trans hb'.i.symm,hb.o.trans hb'.o.symm,by rw[hb'.m];exact hb.m⟩))⟩⟩⟩)))))
 ·exact fin hS hb
theorem t8(X:Cx)(O:aC X (cm fns Γ_29) Dh)(hp:PassesOwn (N6 X.prog X.w) X.A X.env X.xe):dO X [] wL (bA DW):=by
 have sq:∀{st:List N9} {b:bW},cB fns an 60 Dh 60 st=NW b->∀pn,dO X pn (aL Γ_29 1000 b pn) st:=λh pn=>kA Γ_29 (λs is h=>rO fns Γ_29 O hp 60 h) h pn;have ha:kf X (aU Γ_29 xx) Kx:=lL Γ_29 ((f7 fns Γ_29 60).1 X _ O) ((dJ (fm:=ko fns Γ_29) fns Γ_29.fn 60).1 X _ O) J1;exact AE (sq JZ []) (AE (FW O (i:=3) (kp:=[0,1]) (nl:=7) (P:=mX) rfl rfl rfl rfl rfl rfl rfl ha (sq J2 _) (mY O hp (ia:=5) (ib:=6) rfl rfl rfl rfl rfl rfl rfl (by decide) (by decide) (by decide) (by decide) (by decide) rfl rfl rfl rfl rfl (by decide) (by decide) rfl rfl)) (sq J3 []))
noncomputable abbrev DG:Pos:=match wK with|.FunctionDef _ _ _ _ _ _ _ _ _ p=>p|_=>⟨0,0,0,0⟩
noncomputable abbrev sv(x:String)(t:Tok):N1:=.str (Str.ofString x) t
noncomputable abbrev E(P:Params)(x:String)(t:Tok)(v:N1):DictEntry:=⟨PyData.keyHash P (Str.ofString x),.str (Str.ofString x) t,v⟩
noncomputable abbrev fO(x:String)(st:N9)(m:N1)(c:N2):Obj:=⟨.type "function",NX,.func (Mm (Str.ofString x) (Str.ofString x) (dP st) (bA st) (ah st) .none .none .none m NX (.ref c) .none),#[]⟩
noncomputable abbrev mL:N1:=sv "law_gatepapers_k52_pairs_found" 379
noncomputable abbrev cO(x:String)(t:Nat)(l n:Int)(r:N2)(b:Bool)(q:N2)(A B C:N1)(s:N2)(u:Nat):Obj:=⟨.type "code",NX,.fields #[sv x t,sv x (t+1),sv "/claim/cut.py" (t+2),.int l 0,.int n 0,.int 0 0,.int 0 0,.int 3 0,.ref r,.bool b,.int 181 0,.ref q,A,B,C,.ref s,.int u 0,.int l 0,sv "/claim/cut.py" (u+1)],#[]⟩
noncomputable def KK(P:Params):Lh:=[(3,⟨(.type "dict"),NX,(.dict #[E P "__name__" 165 mL,E P "__doc__" 166 .none,E P "__package__" 167 .none,E P "__loader__" 168 (.builtin "__main__.__loader__#opaque"),E P "__spec__" 169 .none,E P "__annotations__" 170 (.ref 6),E P "__builtins__" 171 (.ref 4),E P "__file__" 173 (sv "/claim/cut.py" 172),E P "__cached__" 174 .none,E P "bits_of" 194 (.ref 19),E P "first_of" 202 (.ref 24),E P "all_trials" 211 (.ref 31),E P "column_of" 222 (.ref 38),E P "column_told" 228 (.ref 43),E P "GateError" 248 (.ref 53),E P "TooGreat" 264 (.ref 66),E P "Unlike" 280 (.ref 78),E P "MOST_INS" 284 (.int 6 283),E P "MOST_PAIRS" 286 (.int 300 285),E P "parted" 296 (.ref 87),E P "pairs" 306 (.ref 94),E P "search" 322 (.ref 101),E P "refuse_unlike" 330 (.ref 108),E P "refuse_many" 337 (.ref 115),E P "key_of" 344 (.ref 122),E P "rising_bits" 352 (.ref 129),E P "pair_turns" 366 (.ref 136),E P "all_turns" 372 (.ref 141),E P "trial_bits" 378 (.ref 146),E P "_law_next" 389 (.ref 153),E P "_law_state" 395 (.ref 158),E P "_law_gate" 407 (.ref 165),E P "_law_circuit" 413 (.ref 170),E P "_law_copied" 419 (.ref 175),E P "_law_some" 427 (.ref 182),E P "_law_otherwise" 433 (.ref 187),E P "_law_changed" 450 (.ref 194),E P "_law_values" 465 (.ref 201),E P "_law_turn" 471 (.ref 206),E P "_law_first" 477 (.ref 211),E P "_law_choices" 483 (.ref 216),E P "_law_graph" 502 (.ref 223),E P "_law_is_bits" 511 (.ref 230),E P "_law_due" 517 (.ref 235),E P "_law_right" 530 (.ref 242),E P "law" 544 (.ref 249)] 46),#[]⟩),
 (19,fO "bits_of" s0 (sv "gatepapers.bits" 187) 18),
 (18,cO "bits_of" 189 2 2 15 NY 16 .none .none .none 17 192),
 (24,fO "first_of" s1 (sv "gatepapers.circuits" 195) 23),
 (23,cO "first_of" 197 5 1 20 NY 21 .none .none .none 22 200),
 (31,fO "all_trials" s2 (sv "gatepapers.columns" 203) 30),
 (30,cO "all_trials" 205 8 1 25 NY 26 .none (.ref 27) (.ref 28) 29 209),
 (38,fO "column_of" s3 (sv "gatepapers.columns" 203) 37),
 (37,cO "column_of" 212 10 2 32 NY 33 .none (.ref 34) (.ref 35) 36 220),
 (43,fO "column_told" s4 (sv "gatepapers.columns" 203) 42),
 (42,cO "column_told" 223 18 3 39 NY 40 .none .none .none 41 226),
 (87,fO "parted" s5 (sv "gatepapers.judge" 281) 86),
 (86,cO "parted" 287 33 2 81 NY 82 .none (.ref 83) (.ref 84) 85 294),
 (94,fO "pairs" s6 (sv "gatepapers.judge" 281) 93),
 (93,cO "pairs" 297 36 2 88 NY 89 .none (.ref 90) (.ref 91) 92 304),
 (101,fO "search" s7 (sv "gatepapers.judge" 281) 100),
 (100,cO "search" 307 39 2 95 NY 96 .none (.ref 97) (.ref 98) 99 320),
 (108,fO "refuse_unlike" s8 (sv "gatepapers.judge" 281) 107),
 (107,cO "refuse_unlike" 323 57 2 102 NY 103 .none (.ref 104) (.ref 105) 106 328),
 (115,fO "refuse_many" s9 (sv "gatepapers.judge" 281) 114),
 (114,cO "refuse_many" 331 62 1 109 NY 110 .none (.ref 111) (.ref 112) 113 335),
 (122,fO "key_of" Hb (sv "gatepapers.judge" 281) 121),
 (121,cO "key_of" 338 65 1 116 NY 117 .none (.ref 118) (.ref 119) 120 342),
 (129,fO "rising_bits" Hc (sv "gatepapers.judge" 281) 128),
 (128,cO "rising_bits" 345 67 2 123 NY 124 .none (.ref 125) (.ref 126) 127 350),
 (136,fO "pair_turns" He (sv "gatepapers.judge" 281) 135),
 (135,cO "pair_turns" 353 69 3 130 NY 131 .none (.ref 132) (.ref 133) 134 364),
 (141,fO "all_turns" s13 (sv "gatepapers.judge" 281) 140),
 (140,cO "all_turns" 367 74 2 137 NY 138 .none .none .none 139 370),
 (146,fO "trial_bits" Hf (sv "gatepapers.judge" 281) 145),
 (145,cO "trial_bits" 373 83 2 142 NY 143 .none .none .none 144 376),
 (153,fO "_law_next" Hg mL 152),
 (152,cO "_law_next" 381 86 2 147 NY 148 .none (.ref 149) (.ref 150) 151 387),
 (158,fO "_law_state" Hh mL 157),
 (157,cO "_law_state" 390 95 1 154 NY 155 .none .none .none 156 393),
 (165,fO "_law_gate" Hj mL 164),
 (164,cO "_law_gate" 396 100 2 159 NY 160 .none (.ref 161) (.ref 162) 163 405),
 (170,fO "_law_circuit" Hk mL 169),
 (169,cO "_law_circuit" 408 109 2 166 NY 167 .none .none .none 168 411),
 (175,fO "_law_copied" Hl mL 174),
 (174,cO "_law_copied" 414 121 1 171 NY 172 .none .none .none 173 417),
 (182,fO "_law_some" Hm mL 181),
 (181,cO "_law_some" 420 127 2 176 NY 177 .none (.ref 178) (.ref 179) 180 425),
 (187,fO "_law_otherwise" Hn mL 186),
 (186,cO "_law_otherwise" 428 129 3 183 NY 184 .none .none .none 185 431),
 (194,fO "_law_changed" Ho mL 193),
 (193,cO "_law_changed" 434 148 2 188 NY 189 .none (.ref 190) (.ref 191) 192 448),
 (201,fO "_law_values" tz mL 200),
 (200,cO "_law_values" 451 165 3 195 NY 196 .none (.ref 197) (.ref 198) 199 463),
 (206,fO "_law_turn" Aq mL 205),
 (205,cO "_law_turn" 466 173 3 202 NY 203 .none .none .none 204 469),
 (211,fO "_law_first" Hq mL 210),
 (210,cO "_law_first" 472 176 1 207 NY 208 .none .none .none 209 475),
 (216,fO "_law_choices" Hr mL 215),
 (215,cO "_law_choices" 478 178 1 212 NY 213 .none .none .none 214 481),
 (223,fO "_law_graph" Hs mL 222),
 (222,cO "_law_graph" 484 180 3 217 NY 218 .none (.ref 219) (.ref 220) 221 500),
 (230,fO "_law_is_bits" Ht mL 229),
 (229,cO "_law_is_bits" 503 197 2 224 NY 225 .none (.ref 226) (.ref 227) 228 509),
 (235,fO "_law_due" Hu mL 234),
 (234,cO "_law_due" 512 204 2 231 NY 232 .none .none .none 233 515),
 (242,fO "_law_right" DW mL 241),
 (241,cO "_law_right" 518 210 2 236 NY 237 .none (.ref 238) (.ref 239) 240 528),
 (249,fO "law" wK mL 248),
 (248,cO "law" 531 229 1 243 NY 244 .none (.ref 245) (.ref 246) 247 542)]
noncomputable def HH:PySem.W.Hook:=PySem.W.kHook KK [3,19,18,24,23,31,30,38,37,43,42,87,86,94,93,101,100,108,107,115,114,122,121,129,128,136,135,141,140,146,145,153,152,158,157,165,164,170,169,175,174,182,181,187,186,194,193,201,200,206,205,211,210,216,215,223,222,230,229,235,234,242,241,249,248] (λ_=>rfl)
noncomputable def qv:N8:=PySem.W.view PySem.Challenge.pw_gatepapers_k52_pairs_found [42]
noncomputable def lo:List Str:=(["__name__","bits_of","first_of","all_trials","column_of","column_told","GateError","TooGreat","Unlike","MOST_INS","MOST_PAIRS","parted","pairs","search","refuse_unlike","refuse_many","key_of","rising_bits","pair_turns","all_turns","trial_bits","_law_next","_law_state","_law_gate","_law_circuit","_law_copied","_law_some","_law_otherwise","_law_changed","_law_values","_law_turn","_law_first","_law_choices","_law_graph","_law_is_bits","_law_due","_law_right"]:List String).map Str.ofString
theorem left:PySem.W.LeftO (PySem.Challenge.rw_gatepapers_k52_pairs_found).row.toRowW.prog qv lo (λs=>PySem.W.xlAt qv [] s&&PySem.W.recOk (PySem.W.RowW.records (PySem.Challenge.rw_gatepapers_k52_pairs_found).row.toRowW) s) (PySem.W.Hook.obs HH) (PySem.W.Hook.val HH) 20000:=λw=>by kernel_rfl
theorem eJ{P:Params}{h:Oc}{mg:Str->Option N1}(X:(KK P).In h)(G:h.Ns Oh mg){x:Str}{v:N1}(e:MP (KK P) Oh x=NW (NW v)):mg x=NW v:=PySem.W.mg_of X G e
theorem fm{P:Params}(x:String)(st:N9)(f:N2)(m:N1)(c:N2)(h:(KK P).lookup f=NW (fO x st m c):=by kernel_rfl)(k:M0 (KK P) (.ref c) (Str.ofString x)=NY:=by kernel_rfl)(j:L8 (KK P) (.ref f)=NY:=by kernel_rfl):Fun (KK P) (Str.ofString x) (Str.ofString x) st f (Mm (Str.ofString x) (Str.ofString x) (dP st) (bA st) (ah st) .none .none .none m NX (.ref c) .none):=Bv h k j
theorem DH{l:PySem.W.OpenLaw}{w:Oa}{P:Params}{h:Oc}{mg:Str->Option N1}{fa:N2}(X:(KK P).In h)(G:h.Ns Oh mg)(hfa:mg "law" = NW (.ref fa)):∃fd:On,(∀(s:N3) (v:N1),BindsTo s fd ⟨[v],[]⟩ [("_law_script",v)])/\∀base:Oc,(KK P).In base->base.Ns Oh mg->FnOk l.prog w (KK P) mg base oW 72 fa fd ["_law_script"] (ua (KK P) GO):=by
 have e:=hfa.symm.trans (eJ X G (v:=.ref 249) (by kernel_rfl));cases e;have F0:=fm (P:=P) "bits_of" s0 19 (sv "gatepapers.bits" 187) 18;have B0:=F0.binds (ps:=["number","width"]) λ_ _ _ _ _ _=>us2 (λ_ _=>rfl);have F1:=fm (P:=P) "first_of" s1 24 (sv "gatepapers.circuits" 195) 23;have B1:=F1.binds (ps:=["circuit"]) λ_ _ _ _ _ _=>zm (λ_=>rfl);have F2:=fm (P:=P) "all_trials" s2 31 (sv "gatepapers.columns" 203) 30;have B2:=F2.binds (ps:=["many"]) λ_ _ _ _ _ _=>zm (λ_=>rfl);have F3:=fm (P:=P) "column_of" s3 38 (sv "gatepapers.columns" 203) 37;have B3:=F3.binds (ps:=["k","many"]) λ_ _ _ _ _ _=>us2 (λ_ _=>rfl);have F4:=fm (P:=P) "column_told" s4 43 (sv "gatepapers.columns" 203) 42;have B4:=F4.binds (ps:=["table","columns","whole"]) λ_ _ _ _ _ _=>DV (λ_ _ _=>rfl);have F5:=fm (P:=P) "parted" s5 87 (sv "gatepapers.judge" 281) 86;have B5:=F5.binds (ps:=["one","other"]) λ_ _ _ _ _ _=>us2 (λ_ _=>rfl);have F6:=fm (P:=P) "pairs" s6 94 (sv "gatepapers.judge" 281) 93;have B6:=F6.binds (ps:=["one","other"]) λ_ _ _ _ _ _=>us2 (λ_ _=>rfl);have F7:=fm (P:=P) "search" s7 101 (sv "gatepapers.judge" 281) 100;have B7:=F7.binds (ps:=["one","other"]) λ_ _ _ _ _ _=>us2 (λ_ _=>rfl);have F8:=fm (P:=P) "refuse_unlike" s8 108 (sv "gatepapers.judge" 281) 107;have B8:=F8.binds (ps:=["one","other"]) λ_ _ _ _ _ _=>us2 (λ_ _=>rfl);have F9:=fm (P:=P) "refuse_many" s9 115 (sv "gatepapers.judge" 281) 114;have B9:=F9.binds (ps:=["many"]) λ_ _ _ _ _ _=>zm (λ_=>rfl);have F10:=fm (P:=P) "key_of" Hb 122 (sv "gatepapers.judge" 281) 121;have B10:=F10.binds (ps:=["pair"]) λ_ _ _ _ _ _=>zm (λ_=>rfl);have F11:=fm (P:=P) "rising_bits" Hc 129 (sv "gatepapers.judge" 281) 128;have B11:=F11.binds (ps:=["number","many"]) λ_ _ _ _ _ _=>us2 (λ_ _=>rfl);have F12:=fm (P:=P) "pair_turns" He 136 (sv "gatepapers.judge" 281) 135;have B12:=F12.binds (ps:=["one","other","pair"]) λ_ _ _ _ _ _=>DV (λ_ _ _=>rfl);have F13:=fm (P:=P) "all_turns" s13 141 (sv "gatepapers.judge" 281) 140;have B13:=F13.binds (ps:=["circuit","state"]) λ_ _ _ _ _ _=>us2 (λ_ _=>rfl);have F14:=fm (P:=P) "trial_bits" Hf 146 (sv "gatepapers.judge" 281) 145;have B14:=F14.binds (ps:=["columns","number"]) λ_ _ _ _ _ _=>us2 (λ_ _=>rfl);have F15:=fm (P:=P) "_law_next" Hg 153 mL 152;have B15:=F15.binds (ps:=["_law_state_here","_law_many"]) λ_ _ _ _ _ _=>us2 (λ_ _=>rfl);have F16:=fm (P:=P) "_law_state" Hh 158 mL 157;have B16:=F16.binds (ps:=["_law_script"]) λ_ _ _ _ _ _=>zm (λ_=>rfl);have F17:=fm (P:=P) "_law_gate" Hj 165 mL 164;have B17:=F17.binds (ps:=["_law_state_here","_law_below"]) λ_ _ _ _ _ _=>us2 (λ_ _=>rfl);have F18:=fm (P:=P) "_law_circuit" Hk 170 mL 169;have B18:=F18.binds (ps:=["_law_state_here","_law_most"]) λ_ _ _ _ _ _=>us2 (λ_ _=>rfl);have F19:=fm (P:=P) "_law_copied" Hl 175 mL 174;have B19:=F19.binds (ps:=["_law_thing"]) λ_ _ _ _ _ _=>zm (λ_=>rfl);have F20:=fm (P:=P) "_law_some" Hm 182 mL 181;have B20:=F20.binds (ps:=["_law_state_here","_law_row"]) λ_ _ _ _ _ _=>us2 (λ_ _=>rfl);have F21:=fm (P:=P) "_law_otherwise" Hn 187 mL 186;have B21:=F21.binds (ps:=["_law_state_here","_law_circuit_here","_law_most"]) λ_ _ _ _ _ _=>DV (λ_ _ _=>rfl);have F22:=fm (P:=P) "_law_changed" Ho 194 mL 193;have B22:=F22.binds (ps:=["_law_state_here","_law_circuit_here"]) λ_ _ _ _ _ _=>us2 (λ_ _=>rfl);have F23:=fm (P:=P) "_law_values" tz 201 mL 200;have B23:=F23.binds (ps:=["_law_circuit_here","_law_state_here","_law_ins"]) λ_ _ _ _ _ _=>DV (λ_ _ _=>rfl);have F24:=fm (P:=P) "_law_turn" Aq 206 mL 205;have B24:=F24.binds (ps:=["_law_circuit_here","_law_state_here","_law_ins"]) λ_ _ _ _ _ _=>DV (λ_ _ _=>rfl);have F25:=fm (P:=P) "_law_first" Hq 211 mL 210;have B25:=F25.binds (ps:=["_law_circuit_here"]) λ_ _ _ _ _ _=>zm (λ_=>rfl);have F26:=fm (P:=P) "_law_choices" Hr 216 mL 215;have B26:=F26.binds (ps:=["_law_many"]) λ_ _ _ _ _ _=>zm (λ_=>rfl);have F27:=fm (P:=P) "_law_graph" Hs 223 mL 222;have B27:=F27.binds (ps:=["_law_one","_law_other","_law_choices_here"]) λ_ _ _ _ _ _=>DV (λ_ _ _=>rfl);have F28:=fm (P:=P) "_law_is_bits" Ht 230 mL 229;have B28:=F28.binds (ps:=["_law_row","_law_many"]) λ_ _ _ _ _ _=>us2 (λ_ _=>rfl);have F29:=fm (P:=P) "_law_due" Hu 235 mL 234;have B29:=F29.binds (ps:=["_law_one","_law_other"]) λ_ _ _ _ _ _=>us2 (λ_ _=>rfl);have F30:=fm (P:=P) "_law_right" DW 242 mL 241;have B30:=F30.binds (ps:=["_law_one","_law_other"]) λ_ _ _ _ _ _=>us2 (λ_ _=>rfl);have F31:=fm (P:=P) "law" wK 249 mL 248;have B31:=F31.binds (ps:=["_law_script"]) λ_ _ _ _ _ _=>zm (λ_=>rfl);refine⟨Mm "law" "law" (dP wK) (bA wK) (ah wK) .none .none .none mL NX (.ref 248) .none,λs v=>.of_eq rfl,λbase _ _=>?_⟩
 have T0:TabF l.prog w (KK P) mg base (cm fns Γ0) 0:=⟨λx φ hx=>by (have hx:(bt x fns.fns).bind Γ0.fn=NW φ:=hx;cases q:bt x fns.fns<;>rw[q] at hx<;>cases hx),(λc fs C hc _=>nomatch (show([]:List (Str×List Str)).lookup c=NW fs from hc)),λx φ hx=>by (have hx:(bt x fns.fns).bind (λi=>(Γ0.fm i).map λφ=>λK=>As K φ)=NW φ:=hx;cases q:bt x fns.fns<;>rw[q] at hx<;>cases hx),(λx hx=>by
  simp only[aS,Lq,L7,or_false] at hx;rcases hx with rfl|rfl|rfl|rfl|rfl|rfl|rfl|rfl|rfl|rfl|rfl|rfl|rfl|rfl|rfl|rfl|rfl|rfl|rfl|rfl|rfl
  all_goals exact PySem.W.mg_none_of X G (by kernel_rfl)),λx d hx=>by
  have hx:Np x ([("MOST_INS",D.int 6),("MOST_PAIRS",D.int 300)]:List (Str×D))=NW d:=hx;simp only[Np] at hx;split at hx
  ·rename_i e;have e:=eq_of_beq e;subst e;cases hx;exact⟨_,.int 6,eJ X G (v:=(.int 6 283)) (by kernel_rfl),⟨_,rfl⟩,λH S=>(by unfold Rp;rfl),by decide⟩
  ·split at hx
   ·rename_i e;have e:=eq_of_beq e;subst e;cases hx;exact⟨_,.int 300,eJ X G (v:=(.int 300 285)) (by kernel_rfl),⟨_,rfl⟩,λH S=>(by unfold Rp;rfl),by decide⟩
   ·cases hx⟩
 have T1:=T0.addI (i:=0) (ψ:=ψ0) F0 KR (eJ X G (v:=.ref 19) (by kernel_rfl)) B0 rfl rfl KQ λ_=>Le.refl _;have T2:=T1.addI (i:=1) (ψ:=ψ1) F1 KU (eJ X G (v:=.ref 24) (by kernel_rfl)) B1 rfl rfl KS λ_=>Le.refl _;have T3:=T2.addI (i:=2) (ψ:=ψ2) F2 KY (eJ X G (v:=.ref 31) (by kernel_rfl)) B2 rfl rfl KW λ_=>Le.refl _;have T4:=T3.addI (i:=3) (ψ:=ψ3) F3 K0 (eJ X G (v:=.ref 38) (by kernel_rfl)) B3 rfl rfl KZ λ_=>Le.refl _;have T5:=T4.addI (i:=4) (ψ:=ψ4) F4 K2 (eJ X G (v:=.ref 43) (by kernel_rfl)) B4 rfl rfl K1 λ_=>Le.refl _;have T6:=T5.addI (i:=8) (ψ:=ψ8) F8 La (eJ X G (v:=.ref 108) (by kernel_rfl)) B8 rfl rfl K9 λ_=>Le.refl _;have T7:=T6.addI (i:=9) (ψ:=ψ9) F9 Lc (eJ X G (v:=.ref 115) (by kernel_rfl)) B9 rfl rfl Lb λ_=>Le.refl _;have T8:=T7.addI (i:=10) (ψ:=Dk) F10 Ja (eJ X G (v:=.ref 122) (by kernel_rfl)) B10 rfl rfl I9 λ_=>Le.refl _;have T9:=T8.addI (i:=11) (ψ:=GE) F11 Jd (eJ X G (v:=.ref 129) (by kernel_rfl)) B11 rfl rfl Jc λ_=>Le.refl _;have T10:=T9.addI (i:=14) (ψ:=AJ) F14 Jl (eJ X G (v:=.ref 146) (by kernel_rfl)) B14 rfl rfl Jk λ_=>Le.refl _;have T11:=T10.addI (i:=13) (ψ:=DX) F13 Ji (eJ X G (v:=.ref 141) (by kernel_rfl)) B13 rfl rfl Jh λ_=>Le.refl _;have T12:=T11.addI (i:=12) (ψ:=GF) F12 Jg (eJ X G (v:=.ref 136) (by kernel_rfl)) B12 rfl rfl Jf λ_=>Le.refl _;have T13:=T12.addI (i:=7) (ψ:=ψ7) F7 K8 (eJ X G (v:=.ref 101) (by kernel_rfl)) B7 rfl rfl K7 λ_=>Le.refl _;have T14:=T13.addI (i:=5) (ψ:=ψ5) F5 K4 (eJ X G (v:=.ref 87) (by kernel_rfl)) B5 rfl rfl K3 λ_=>Le.refl _;have T15:=T14.addI (i:=6) (ψ:=ψ6) F6 K6 (eJ X G (v:=.ref 94) (by kernel_rfl)) B6 rfl rfl K5 λ_=>Le.refl _;have T16:=T15.addM (i:=15) (ψ:=DY) (pn:=[0]) F15 Jo (eJ X G (v:=.ref 153) (by kernel_rfl)) B15 rfl rfl Jn λ_=>Le.refl _;have T17:=T16.addI (i:=16) (ψ:=GH) F16 Jr (eJ X G (v:=.ref 158) (by kernel_rfl)) B16 rfl rfl Jq λ_=>Le.refl _;have T18:=T17.addM (i:=17) (ψ:=GI) (pn:=[0]) F17 Jt (eJ X G (v:=.ref 165) (by kernel_rfl)) B17 rfl rfl Js λ_=>Le.refl _;have T19:=T18.addM (i:=18) (ψ:=DZ) (pn:=[0]) F18 Jw (eJ X G (v:=.ref 170) (by kernel_rfl)) B18 rfl rfl Jv λ_=>Le.refl _;have T20:=T19.recI (i:=19) (M:=1000) F19 Jy (eJ X G (v:=.ref 175) (by kernel_rfl)) B19 rfl rfl Jx 40;have T21:=T20.addM (i:=20) (ψ:=Dl) (pn:=[0]) F20 JB (eJ X G (v:=.ref 182) (by kernel_rfl)) B20 rfl rfl JA λ_=>Le.refl _;have T22:=T21.addM (i:=21) (ψ:=GJ) (pn:=[0]) F21 JD (eJ X G (v:=.ref 187) (by kernel_rfl)) B21 rfl rfl JC λ_=>Le.refl _;have T23:=T22.addM (i:=22) (ψ:=GK) (pn:=[0]) F22 JF (eJ X G (v:=.ref 194) (by kernel_rfl)) B22 rfl rfl JE λ_=>Le.refl _;have T24:=T23.addI (i:=23) (ψ:=GL) F23 JI (eJ X G (v:=.ref 201) (by kernel_rfl)) B23 rfl rfl JH λ_=>Le.refl _;have T25:=T24.addI (i:=24) (ψ:=D2) F24 JL (eJ X G (v:=.ref 206) (by kernel_rfl)) B24 rfl rfl JK λ_=>Le.refl _;have T26:=T25.addI (i:=25) (ψ:=D3) F25 JO (eJ X G (v:=.ref 211) (by kernel_rfl)) B25 rfl rfl JN λ_=>Le.refl _;have T27:=T26.addI (i:=26) (ψ:=GM) F26 JR (eJ X G (v:=.ref 216) (by kernel_rfl)) B26 rfl rfl JQ λ_=>Le.refl _;have T28:=T27.addI (i:=27) (ψ:=D4) F27 JT (eJ X G (v:=.ref 223) (by kernel_rfl)) B27 rfl rfl JS λ_=>Le.refl _;have T29:=T28.addI (i:=28) (ψ:=D5) F28 JW (eJ X G (v:=.ref 230) (by kernel_rfl)) B28 rfl rfl JV λ_=>Le.refl _;have T30:=T29.addI (i:=29) (ψ:=AK) F29 JY (eJ X G (v:=.ref 235) (by kernel_rfl)) B29 rfl rfl JX λ_=>Le.refl _;have T31:=T30.addB (fb:=wL) (i:=30) (ψ:=GN) F30 J4 (eJ X G (v:=.ref 242) (by kernel_rfl)) B30 rfl rfl t8 λ_=>Le.refl _;exact(rQ (n:=60) (an:=an) F31 J6 T31 J5).imp λvs H Q E s=>p8 (λ_=>Le.refl _) s
theorem Kc{l:PySem.W.OpenLaw}{YP:Oa->Oc->Prop}{d:DefRec}{K:Params->Lh}(hn:l.most=NW 63)(hdf:d.params.defaults=[])(hY:∀(w:Oa) (h:Oc),YP w h->(K w.params).In h)(F:∀(w:Oa) (mg:Str->Option N1) (fa:N2) (h:Oc),(K w.params).In h->h.Ns Oh mg->mg d.name=NW (.ref fa)->
   ∃fd:On,(∀(s:N3) (u:N1),BindsTo s fd ⟨[u],[]⟩ [("_law_script",u)])/\∀base:Oc,(K w.params).In base->base.Ns Oh mg->FnOk l.prog w (K w.params) mg base oW 72 fa fd ["_law_script"] (ua (K w.params) GO)) :
  PySem.W.WalkO q loose XP YP l.row.toRowW d [] (λf vs=>PySem.call f vs):=
 L2.xO (n:=63) (k:=72) (x:="_law_script") (CX:=λ_=>oW) (sp:=λw=>ua (K w.params) GO) hn (by decide) hdf ⟨rfl,by decide,by decide,rfl⟩ hY F (λ_ _ a ns hl _ hS=>Da hS (xt ns hl)) λ_ _ _ _ _ z=>z
end K52
open PySem PySem.W PyProof.Rows
set_option maxRecDepth 100000 in
set_option maxHeartbeats 0 in
theorem PySem.Challenge.cw_gatepapers_k52_pairs_found_holds : PySem.Challenge.rw_gatepapers_k52_pairs_found.Holds := by
 refine holds_law (by kernel_rfl) λsaid=>?_;refine holds_open (d:=⟨"law",L2.dP K52.wK,L2.bA K52.wK,L2.ah K52.wK,K52.DG⟩) (kwd:=[]) (q:=K52.qv) (loose:=K52.lo) (XP:=XL K52.qv []) (YP:=Hook.says K52.HH) K52.left (Hook.of K52.HH) (Hook.keeps K52.HH) (λs e=>xl_of s (MS.mp e).1) XL.keeps (by kernel_rfl) (by kernel_rfl) (by kernel_rfl) (λs e=>recFacts_of (MS.mp e).2) (by kernel_rfl) said (by kernel_rfl) ⟨rfl,rfl,rfl,rfl,rfl,by kernel_rfl⟩ ?hw ?hc
 case hw=>w_witness2
 case hc=>
  refine K52.Kc (l:=PySem.Challenge.rw_gatepapers_k52_pairs_found) rfl rfl (λw h Y=>PySem.W.kIn_of Y) ?F;intro w mg fa h KX G hmg;exact K52.DH KX G hmg
end
