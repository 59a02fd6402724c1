import PyProof.Rows.All
import Wide.All
import OpenK.AllK
import Wide.FinOn
import Lean
import PyProof.EqAt
import PyProof.EqKinds
import PyProof.TupleCall
import PySem.Challenge.RW_netcourt_k63_values_of_turned_nets
set_option Elab.async false
set_option linter.all false
set_option maxRecDepth 100000
theorem Qk{p:Prop}(h:p:=by decide +kernel):p:=h
theorem Qd{p:Prop}(h:p:=by decide):p:=h
theorem Qo{p:Prop}(h:p:=by omega):p:=h
theorem Qr{p:Prop}(h:p:=by rfl):p:=h
theorem Qs{p:Prop}(h:p:=by simp):p:=h
theorem Qw{p:Prop}(h:p:=by with_unfolding_all rfl):p:=h
open List renaming length_map->ae,map_append->ah,mem_map->aj,mem_of_getElem?->ao,getElem?_map->ap,mem_cons_of_mem->aq,mem_singleton->ar,mem_cons_self->au,mem_append->aw,map_cons->aF,length_append->aI,length_take->aQ,getElem?_eq_getElem->a_,mem_cons->bd,take_length->bf,take_add_one->bi,getElem?_eq_some_iff->bj,map_map->bm,mem_append_right->bn,mem_append_left->bo,length_filter_le->bu,size_toArray->bv,sum_cons->bE,mem_filter->bK,nodup_cons->bM,length_cons->bT,append_nil->b_,all_eq_true->ce,getD_eq_getElem?_getD->cz,lookup_cons->cC,any_eq_true->cD,nodup_append->cS,take_of_length_le->dq,length_reverse->dL,filter_sublist->dN,filter_append->d8,find?_cons->eI,pairwise_map->eN,getElem?_of_mem->eO,getElem?_take_of_lt->eR,filter_eq_nil_iff->fm,nodup_nil->fQ,getElem?_append_right->fR,all_map->f_,find?_eq_none->gv,filter_cons_of_pos->gz,filter_cons_of_neg->gA,take_sublist->gH,mem_range->gI,map_nil->gJ,find?_cons_of_neg->gK,any_cons->ii,mem_of_mem_take->ik,sum_append->iA,map_congr_left->iB,length_zipIdx->jf,getElem?_append_left->jp,length_drop->ki,getElem_mem->kj,find?_cons_of_pos->kG,length_singleton->lE,length_replicate->lF,getElem?_eq_none->lG,mem_iff_getElem->lX,getElem?_zipIdx->lY,getElem?_range->mL,filterMap_cons->mM,mem_filterMap->oE,getElem?_inj->oX,append_assoc->oY,mem_reverse->qH,of_mem_zip->sF,forIn_cons->sG,mem_of_find?_eq_some->wV,map_take->zI,length_erase_of_mem->zJ,all_cons->zK,getLast?_cons_cons->zO,getElem?_replicate->zP,length_pos_of_mem->Cm,getElem?_set_self->Cn,mem_of_mem_drop->DT,mem_erase_of_ne->DU,length_take_le'->DV,getElem?_set_ne->DW,zipIdx_map_fst->Eo
open PySem.W renaming Frag->ag,keepIn->az,nsIn->aE,codeIn->aH,fnOf->aR,mg_none_of->bI,findIn->bS,kitOne->cg,kia_one->da,emptyDict->dn,instObj->eG,isFn->eJ,mg_of->fG,plainGet->ie,makesIn->iy,hasDictIn->ju,plainGet_of->mJ,plainOver->oS,methodObj->oT,OpenLaw->sv,cellsFrom_some->Ci,methodCall_KW->Cs,callWith_K0->Em
open PySem renaming wpAny_bind->ak,wpAny_pure->aX,wpAny_holding->cJ,wpAny_truthy_bool->cR,wpAny_mono->d6,wpAny_callSpecial?_slot->eV,wpAny_rule->fk,wpAny_passesOwn->fB,wpAny_call_entry->fX,mem_of_lookup->gi,wpAny_dictEpoch->gk,wpAny_getItem_str_slice->gy,wpAny_Call_Name_kw->je,wpAny_pyIter_list->jq,wpAny_pyIter_enum->jr,wpAny_Call_method->jt,wpAny_execs_nil->kM,wpAny_notOrdered_dict->lD,wpAny_pyIter_revIter->lW,wpAny_newObj_type->oQ,wpAny_dictEntries->oR,wpAny_forIn_list->qC,wpAny_execs_cons->qD,wpAny_field->qI,wpAny_letOwnedTupleGo_enum->uQ,wpAny_standAt->zD,wpAny_comprehension_free->zE,wpAny_isTrue_Compare1->Cr,wpAny_updateDictKeys->DR,wpAny_of_eq->DS
open PySem.Heap renaming get?_push_of_some->av,lt_size->bh,get?_push_size->br,size_push->eZ,get?_update_self->g7,get?_update_other->kH,get?_push_cases->DX
open Nat renaming le_trans->ay,le_refl->aY,ne_of_lt->bp,zero_le->bO,lt_of_lt_of_le->bR,lt_irrefl->dW,lt_of_le_of_lt->d7,lt_succ_of_lt->eM,lt_succ_self->fY,le_of_lt->fZ,le_succ->jv,lt_trans->oW,succ_ne_self->qF,succ_le_succ->qG,zero_add->Cj,ne_of_gt->Ck,lt_or_ge->Cl,add_le_add_left->En
open Bool renaming false_ne_true->aG,and_eq_true->b7,eq_iff_iff->db,false_eq_true->di,and_eq_true_iff->dj,true_and->jT,not_true->jU,false_and->lZ,and_false->l_,and_true->zL,not_not->Cp,or_eq_false_iff->DY,or_eq_true_iff->Ep
open Or renaming inl->aN,inr->iz
open PySem.F renaming plainAttrs_list->bN,type_list_append->cj,slot_list_append->ck,slot_dict_get->cX,entry_dict_get->dQ,plainAttrs_dict->eY,slot_dict_setdefault->fC,args_dict_get_3->kg,args_dict_get_2->kh,args_dict_setdefault_3->qE,entry_dict_setdefault->qJ,type_dict_setdefault->sE,type_list_extend->zF,slot_list_extend->zG,slot_dict_values->zH,type_list_pop->Ct,type_dict_get->Cu,slot_list_pop->Cv
open Int renaming emod_nonneg->cK,emod_lt_of_pos->dh,le_refl->dX,le_trans->iP,add_zero->iQ,toNat_natCast->jw,zero_mul->Co
open PyProof.Rows renaming callWith_type1->dR
open Array renaming length_toList->eT,mem_toList_iff->il,toList_append->mN,getElem?_toList->Cw
open Option renaming bind_some->ig,isSome_map->oU
open PySem.Obj renaming data_mapDictKeys->ij,isFreed_of_dict->mK
def af:=@decide_eq_true
def am:=@decide_eq_false
def aK:=@of_decide_eq_true
def aM:=@if_neg
def bc:=@if_pos
def b6:=@congrArg
def fJ:=@decide_eq_true_eq
def gu:=@of_decide_eq_false
open PySem
namespace L2
open PySem PySem.Spec PyProof.Rows
abbrev dU:=Sum Int Str
def kZ:dU->Value->Bool
 |.inl k,v=>Value.isInt k v
 |.inr x,v=>Value.isStrOf x v
def Hm(w:World):dU->Int
 |.inl k=>hashInt k
 |.inr x=>hashStr w x
theorem dk:∀{k:dU}{v:Value},kZ k v=true->(∃i t,k=Sum.inl i/\v=Value.int i t)\/(∃x t,k=Sum.inr x/\v=Value.str x t)
 |.inl i,v,h=>by
  obtain⟨t,e⟩:=Value.isInt_shape (k:=i) (v:=v) h;exact .inl ⟨i,t,rfl,e⟩
 |.inr x,v,h=>by
  obtain⟨t,e⟩:=Value.isStrOf_shape (x:=x) (v:=v) h;exact .inr ⟨x,t,rfl,e⟩
theorem yH(i:Int)(t:Tok):kZ (.inl i) (.int i t)=true:=by simp[kZ,Value.isInt]
theorem yG(x:Str)(t:Tok):kZ (.inr x) (.str x t)=true:=by simp[kZ,Value.isStrOf]
theorem EY(a b:Int):decide ((Sum.inl a:dU)=Sum.inl b)=(a==b):=by
 by_cases e:a=b
 ·subst e;simp
 ·have h:¬(Sum.inl a:dU)=Sum.inl b:=λq=>e (Sum.inl.inj q);rw[am h];exact(beq_eq_false_iff_ne.mpr e).symm
theorem BG(a b:Str):decide ((Sum.inr a:dU)=Sum.inr b)=decide (a=b):=by
 by_cases e:a=b
 ·subst e;simp
 ·have h:¬(Sum.inr a:dU)=Sum.inr b:=λq=>e (Sum.inr.inj q);rw[am h,am e]
theorem EX(a:Int)(b:Str):decide ((Sum.inl a:dU)=Sum.inr b)=false:=am (λq=>nomatch q)
theorem EW(a:Str)(b:Int):decide ((Sum.inr a:dU)=Sum.inl b)=false:=am (λq=>nomatch q)
def b8(prog:Program)(w:World):PySem.KeyKind prog w dU where
 is:=kZ
 hash:=Hm w
 inj:=λv a b ha hb=>by
  rcases dk ha with⟨i,t,rfl,rfl⟩|⟨x,t,rfl,rfl⟩
  ·rcases dk hb with⟨j,u,rfl,e⟩|⟨y,u,rfl,e⟩
   ·injection e with e1 _;rw[e1]
   ·exact nomatch e
  ·rcases dk hb with⟨j,u,rfl,e⟩|⟨y,u,rfl,e⟩
   ·exact nomatch e
   ·injection e with e1 _;rw[e1]
 byValue:=λk v h=>by
  rcases dk h with⟨i,t,rfl,rfl⟩|⟨x,t,rfl,rfl⟩<;>rfl
 pyHash:=λhv h=>by
  rcases dk hv with⟨i,t,rfl,rfl⟩|⟨x,t,rfl,rfl⟩
  ·exact wpAny_pyHash_int h
  ·exact wpAny_pyHash_str h
 eqBool:=λhu hv h=>by
  rcases dk hu with⟨i,t,rfl,rfl⟩|⟨x,t,rfl,rfl⟩
  ·rcases dk hv with⟨j,u,rfl,rfl⟩|⟨y,u,rfl,rfl⟩
   ·rw[EY]at h;exact wpAny_eqBool_int h
   ·rw[EX]at h;exact SeqAt.EqAt.int_str i t y u _ _ _ _ h
  ·rcases dk hv with⟨j,u,rfl,rfl⟩|⟨y,u,rfl,rfl⟩
   ·rw[EW]at h;exact SeqAt.EqAt.str_int x t j u _ _ _ _ h
   ·rw[BG]at h;exact wpAny_eqBool_str h
 «strs»:=λk x t v h=>by
  rcases dk h with⟨i,u,rfl,e⟩|⟨y,u,rfl,e⟩
  ·exact nomatch e
  ·injection e with e1 _
   subst e1;cases v<;>rfl
theorem rq(prog:Program)(w:World)(i:Int)(t:Tok):(b8 prog w).is (.inl i) (.int i t)=true:=yH i t
theorem fU(prog:Program)(w:World)(x:Str)(t:Tok):(b8 prog w).is (.inr x) (.str x t)=true:=yG x t
end L2
set_option maxHeartbeats 4000000
namespace L2
open PySem PySem.Spec PyProof.Rows
abbrev aJ:=Str ⊕ List Str
abbrev dE:=aJ×Value×Value
def iK(hs:aJ->Int)(x:dE):DictEntry:=⟨hs x.1,x.2.1,x.2.2⟩
section
variable{prog:Program}{w:World}{A:Around}{E:Value->Shared->Prop}{s:Shared}
structure MFind(prog:Program)(w:World)(A:Around)(s:Shared)(hs:aJ->Int)(xs:List dE)(k:aJ)(key:Value):Prop where
 kd:(∃z t,key=.str z t)\/∃a,key=.ref a
 nd:(xs.map (·.1)).Nodup
 eq:∀x∈xs,∀(E:Value->Shared->Prop)(Q:Bool->Shared->Prop),Q (decide (x.1=k)) s->wpAny (model prog w) A (eqBool x.2.1 key) Q E s
 qk:∀(E:Value->Shared->Prop)(Q:Bool->Shared->Prop),Q true s->wpAny (model prog w) A (eqIsQuiet 8 key) Q E s
 qx:∀x∈xs,∀(E:Value->Shared->Prop)(Q:Bool->Shared->Prop),Q true s->wpAny (model prog w) A (eqIsQuiet 8 x.2.1) Q E s
 ref:∀x∈xs,x.2.1=key->x.1=k
 str:∀z t,key=.str z t->∀x∈xs,x.2.1.isStr z=decide (x.1=k)
theorem wD{hs:aJ->Int}{es:Array DictEntry}{xs:List dE}(he:es.toList=xs.map (iK hs))(j:Nat):es[j]?=(xs[j]?).map (iK hs):=by
 rw[<-Cw,he,ap]
theorem mV{hs:aJ->Int}{es:Array DictEntry}{xs:List dE}(he:es.toList=xs.map (iK hs)):es.size=xs.length:=by
 rw[<-eT,he,ae]
theorem Dm{xs:List dE}(hn:(xs.map (·.1)).Nodup){i j:Nat}{k:aJ}{p q:Value×Value}(hi:xs[i]?=some (k,p))(hj:xs[j]?=some (k,q)):i=j:=by
 have a:(xs.map (·.1))[i]?=some k:=by rw[ap,hi];rfl
 have b:(xs.map (·.1))[j]?=some k:=by rw[ap,hj];rfl
 exact(oX (bj.mp a).1 hn).mp (a.trans b.symm)
theorem tQ{hs:aJ->Int}{es:Array DictEntry}{xs:List dE}(he:es.toList=xs.map (iK hs)){e:DictEntry}(h:e∈es):∃x∈xs,e=iK hs x:=by
 have:e∈xs.map (iK hs):=he▸il.mpr h;obtain⟨x,hx,rfl⟩:=aj.mp this;exact⟨x,hx,rfl⟩
theorem Dn{hs:aJ->Int}{xs:List dE}{k:aJ}{key:Value}{st:List Value}{Q:Bool->Shared->Prop}(F:MFind prog w A s hs xs k key)(h:∀v∈st,∃x∈xs,v=x.2.1)(q:Q false s):wpAny (model prog w) A (tableMayTell key st) Q E s:=by
 unfold tableMayTell;split
 ·exact aX q
 ·refine ak (F.qk _ _ ?_);simp only[jU,di,if_false];refine ak (qC _ (λrest r s'=>s'=s/\r=(none,())/\∀v∈rest,∃x∈xs,v=x.2.1) _ ?_ ?_ _ _ ⟨rfl,rfl,h⟩)
  ·rintro x rest r s'⟨rfl,rfl,hr⟩;obtain⟨y,hy,rfl⟩:=hr x au;refine ak (F.qx y hy _ _ ?_);simp only[jU,di,if_false];exact aX ⟨rfl,rfl,λv hv=>hr v (aq _ hv)⟩
  ·rintro r s'⟨rfl,rfl,_⟩;exact aX q
def io(es:Array DictEntry)(n:Int)(i:Nat):List Nat:=(List.range' i (es.size-i)).filter λj=>(es[j]?.map (·.hash))==some n
theorem nN{es:Array DictEntry}{n:Int}{i x:Nat}{rest:List Nat}(h:x::rest=io es n i):i<=x/\x<es.size/\rest=io es n (x+1)/\∀j,i<=j->j<x->((es[j]?.map (·.hash))==some n)=false:=by
 obtain⟨a,b,_,c,d⟩:=filter_range'_cons _ _ _ _ _ h.symm;refine⟨a,Qo,?_,c⟩;rw[d];unfold io;congr 2;omega
theorem yA{es:Array DictEntry}{n:Int}{i:Nat}(h:[]=io es n i)(j:Nat)(h1:i<=j)(h2:j<es.size):((es[j]?.map (·.hash))==some n)=false:=by
 have:=fm.mp h.symm j (List.mem_range'_1.mpr ⟨h1,Qo⟩);simpa using this
theorem Ds(es:Array DictEntry)(n:Int):placesWithHash es.size (λi=>es[i]?.map (·.hash)) n=io es n 0:=by
 unfold placesWithHash io;rw[List.range_eq_range',Nat.sub_zero]
def yC(xs:List dE)(k:aJ)(i:Nat):Prop:=∀j p,j<i->xs[j]? ≠some (k,p)
theorem wC{hs:aJ->Int}{es:Array DictEntry}{xs:List dE}(he:es.toList=xs.map (iK hs)){j:Nat}{k:aJ}{p:Value×Value}(hj:xs[j]?=some (k,p)):((es[j]?.map (·.hash))==some (hs k))=true:=by
 rw[wD he j,hj];simp[iK]
theorem yC.skip{hs:aJ->Int}{es:Array DictEntry}{xs:List dE}{k:aJ}{i x:Nat}(he:es.toList=xs.map (iK hs))(h:yC xs k i)(hs':∀j,i<=j->j<x->((es[j]?.map (·.hash))==some (hs k))=false):yC xs k x:=λj p hjx hj=>by
 rcases Cl j i with a|a
 ·exact h j p a hj
 ·have:=hs' j a hjx;rw[wC he hj]at this;cases this
theorem yC.succ{xs:List dE}{k k':aJ}{x:Nat}{p:Value×Value}(h:yC xs k x)(hx:xs[x]?=some (k',p))(hne:¬k'=k):yC xs k (x+1):=λj q hjx hj=>by
 rcases Cl j x with a|a
 ·exact h j q a hj
 ·have e:j=x:=Qo;subst e;rw[hx]at hj;cases hj;exact hne rfl
theorem yC.all{hs:aJ->Int}{es:Array DictEntry}{xs:List dE}{k:aJ}{i:Nat}(he:es.toList=xs.map (iK hs))(h:yC xs k i)(hr:[]=io es (hs k) i):k∉xs.map (·.1):=λhm=>by
 obtain⟨x,hx,e⟩:=aj.mp hm;obtain⟨j,hj⟩:=List.mem_iff_getElem?.mp hx;have hj':xs[j]?=some (k,x.2):=by rw[hj,<-e]
 rcases Cl j i with a|a
 ·exact h j _ a hj'
 ·have hl:j<es.size:=by rw[mV he];exact(bj.mp hj').1
  have:=yA hr j a hl;rw[wC he hj']at this;cases this
theorem qg{d:Addr}{o:Obj}{es:Array DictEntry}{ep:Nat}{hs:aJ->Int}{xs:List dE}{k:aJ}{key:Value}{Q:Option Nat->Shared->Prop}(F:MFind prog w A s hs xs k key)
  (g1:s.heap.get? d=some o)(g2:o.data=.dict es ep)(he:es.toList=xs.map (iK hs))(q0:k∉xs.map (·.1)->Q none s)(q1:∀j p,xs[j]?=some (k,p)->Q (some j) s):
  wpAny (model prog w) A (dictFind d key (hs k)) Q E s:=by
 have hsz:=mV he;have at_:∀x,x<es.size->∃k' u v,xs[x]?=some (k',u,v)/\es[x]?=some ⟨hs k',u,v⟩:=λx hx=>by
  have hx':x<xs.length:=by rw[<-hsz];exact hx
  refine⟨xs[x].1,xs[x].2.1,xs[x].2.2,a_ hx',?_⟩;rw[wD he x,a_ hx'];rfl
 have plain:wpAny (model prog w) A (dictWalkPlain d key (hs k) es (io es (hs k) 0)) Q E s:=by
  unfold dictWalkPlain;refine ak (qC _ (λrest b s'=>s'=s/\b=(none,())/\∃i,rest=io es (hs k) i/\yC xs k i) _ ?_ ?_ _ _ ⟨rfl,rfl,0,rfl,λ_ _ h=>absurd h (Nat.not_lt_zero _)⟩)
  ·rintro x rest b s'⟨rfl,rfl,i,hr,hno⟩;obtain⟨_,hlt,hrest,hskip⟩:=nN hr;obtain⟨k',u,v,hx,hex⟩:=at_ x hlt;have no2:=hno.skip he hskip;rw[hex];dsimp only;by_cases hh:(hs k'==hs k)=true
   ·rw[bc hh];refine ak (gk g1 g2 (ak (F.eq _ (ao hx) _ _ (ak (gk g1 g2 ?_)))));rw[aM (show¬(ep != ep)=true by simp)];by_cases hkk:k'=k
    ·rw[af hkk];subst hkk;exact ak (fk (aX (aX (q1 x _ hx))))
    ·rw[am hkk];exact ak (fk (aX ⟨rfl,rfl,x+1,hrest,no2.succ hx hkk⟩))
   ·rw[aM hh];refine aX ⟨rfl,rfl,x+1,hrest,no2.succ hx λe=>?_⟩;rw[e]at hh;simp at hh
  ·rintro b s'⟨rfl,rfl,i,hr,hno⟩;exact aX (q0 (hno.all he hr))
 have hst:∀v∈(io es (hs k) 0).filterMap (λi=>es[i]?.map (·.key)),∃x∈xs,v=x.2.1:=λv hv=>by
  obtain⟨i,_,hi⟩:=oE.mp hv;cases hei:es[i]? with
  |none=>rw[hei]at hi;cases hi
  |some e=>
   rw[hei]at hi;obtain⟨x,hx,rfl⟩:=tQ he (Array.mem_of_getElem? hei);exact⟨x,hx,(Option.some.inj hi).symm⟩
 have hany:¬(es.any λe=>e.key==key&&e.hash != hs k)=true:=λhc=>by
  rw[<-Array.any_toList,cD]at hc;obtain⟨e,hin,hc⟩:=hc;obtain⟨x,hx,rfl⟩:=tQ he (il.mp hin);simp only[iK,b7,bne_iff_ne,ne_eq]at hc;exact hc.2 (by rw[F.ref x hx (eq_of_beq hc.1)])
 have byV:∀z t,key=.str z t->wpAny (model prog w) A (foundByValue d key es z) Q E s:=λz t ek=>by
  have hf:(λe:DictEntry=>e.key.isStr z)=λe=>e.key.isStr z:=rfl;unfold foundByValue;cases hx:es.findIdx? λe=>e.key.isStr z with
  |none=>
   refine aX (q0 λhm=>?_);obtain⟨x,hxm,e⟩:=aj.mp hm;have hmem:iK hs x∈es:=il.mp (by rw[he];exact aj.mpr ⟨x,hxm,rfl⟩);have:=Array.findIdx?_eq_none_iff.mp hx _ hmem;rw[show(iK hs x).key=x.2.1 from rfl,F.str z t ek x hxm,af e]at this;cases this
  |some i=>
   obtain⟨hlt,hi,_⟩:=Array.findIdx?_eq_some_iff_getElem.mp hx;obtain⟨k',u,v,hxi,hex⟩:=at_ i hlt;have hk:k'=k:=by
    have hxm:=ao hxi;have e1:es[i].key=u:=by
     have:=Array.getElem?_eq_getElem hlt;rw[hex]at this;rw[<-Option.some.inj this]
    rw[e1]at hi;have:=F.str z t ek _ hxm;rw[show((k',u,v):dE).2.1=u from rfl,hi]at this;exact aK this.symm
   simp only[hex];refine ak (gk g1 g2 (ak (F.eq _ (ao hxi) _ _ (ak (gk g1 g2 ?_)))));rw[aM Qs,af (show((k',u,v):dE).1=k from hk)];subst hk;exact ak (fk (aX (q1 i _ hxi)))
 unfold dictFind
 try with_reducible refine cJ ?_
 refine ak (oR g1 g2 ?_);dsimp only;rw[Ds];by_cases hb:((key::(io es (hs k) 0).filterMap λi=>es[i]?.map (·.key)).all carriedByValue)=true
 ·rw[bc hb];rcases F.kd with⟨z,t,ek⟩|⟨a,ek⟩
  ·rw[ek];dsimp only;rw[<-ek];split
   ·exact byV z t ek
   ·exact plain
  ·rw[ek]at hb;simp[carriedByValue]at hb
 ·rw[aM hb];have hH0:yC xs k 0:=λ_ _ h=>absurd h (Nat.not_lt_zero _);have fin:∀(b:Option (Option Nat)×Option Nat)(s':Shared),s'=s->b.1=none->(∃i,[]=io es (hs k) i/\((b.2=none/\yC xs k i)\/∃j p,b.2=some j/\xs[j]?=some (k,p)))->Q b.2 s':=λb s' e1 _ h=>by
   subst e1;obtain⟨i,hr,h|⟨j,p,h,hj⟩⟩:=h
   ·rw[h.1];exact q0 (h.2.all he hr)
   ·rw[h];exact q1 j p hj
  rcases F.kd with⟨z,t,ek⟩|⟨a,ek⟩
  all_goals
   rw[ek];dsimp only;rw[<-ek]
   first|rw[aM hany]|(by_cases hex:(es.all λe=>isExactStrKey e.key)=true;exact(by rw[bc hex];exact byV z t ek);rw[aM hex])
   by_cases hone:((io es (hs k) 0).filterMap (λi=>es[i]?.map (·.key))== [key])=true;rw[bc hone];refine ak (aX ?_)
   rotate_left
   rw[aM hone];refine ak (Dn F hst ?_)
   all_goals
    rw[aM Qs];refine ak (qC _ (λrest b s'=>s'=s/\b.1=none/\∃i,rest=io es (hs k) i/\((b.2=none/\yC xs k i)\/∃j p,b.2=some j/\j<i/\xs[j]?=some (k,p))) _ ?_ ?_ _ _ ⟨rfl,rfl,0,rfl,.inl ⟨rfl,hH0⟩⟩)
    ·rintro x rest⟨b1,hit⟩s'⟨rfl,hb1,i,hr,hH⟩;simp only at hb1 hH;subst hb1;obtain⟨hix,hlt,hrest,hskip⟩:=nN hr;obtain⟨k',u,v,hx,hex⟩:=at_ x hlt;rw[hex];dsimp only;have hH2:¬k'=k->((hit=none/\yC xs k (x+1))\/∃j p,hit=some j/\j<x+1/\xs[j]?=some (k,p)):=λhne=>by
      rcases hH with⟨a1,a2⟩|⟨j,p,a1,a2,a3⟩
      ·exact .inl ⟨a1,(a2.skip he hskip).succ hx hne⟩
      ·exact .inr ⟨j,p,a1,Qo,a3⟩
     by_cases hh:(hs k'==hs k)=true
     ·rw[bc hh];refine ak (gk g1 g2 (ak (F.eq _ (ao hx) _ _ (ak (gk g1 g2 ?_)))));rw[aM (show¬(ep != ep)=true by simp)];by_cases hkk:k'=k
      ·rw[af (show((k',u,v):dE).1=k from hkk)];subst hkk;rcases hH with⟨rfl,_⟩|⟨j,p,_,hji,hj⟩
       ·simp only[Option.isSome_none,di,if_false,if_true];refine ak (fk ?_);split
        ·exact aX (aX (q1 x _ hx))
        ·exact aX ⟨rfl,rfl,x+1,hrest,.inr ⟨x,_,rfl,fY x,hx⟩⟩
       ·exact absurd (Dm F.nd hj hx) Qo
      ·rw[am (show¬((k',u,v):dE).1=k from hkk)];simp only[di,if_false,lZ];exact ak (fk (aX ⟨rfl,rfl,x+1,hrest,hH2 hkk⟩))
     ·rw[aM hh];refine aX ⟨rfl,rfl,x+1,hrest,hH2 λe=>?_⟩;rw[e]at hh;simp at hh
    ·rintro⟨b1,hit⟩s'⟨e1,hb1,i,hr,hH⟩;simp only at hb1 hH;subst hb1;refine aX (fin (none,hit) s' e1 rfl ⟨i,hr,?_⟩);rcases hH with h|⟨j,p,a1,_,a3⟩
     ·exact .inl h
     ·exact .inr ⟨j,p,a1,a3⟩
end
def pB(prog:Program)(w:World):aJ->Int
 |.inl x=>(b8 prog w).hash (.inr x)
 |.inr xs=>(tupleKind (b8 prog w)).hash (xs.map Sum.inr)
def mAt(xs:List dE)(k:aJ):Option Value:=(xs.find? λx=>decide (x.1=k)).map (·.2.2)
def oJ(xs:List dE)(k:aJ)(key v:Value):List dE:=if(mAt xs k).isSome=true then xs.map λx=>if x.1=k then(x.1,x.2.1,v)else x else xs++[(k,key,v)]
theorem nP{xs:List dE}{k:aJ}(h:k∉xs.map (·.1)):mAt xs k=none:=by
 unfold mAt;rw[gv.mpr λx hx z=>h (aj.mpr ⟨x,hx,aK z⟩)];rfl
theorem mY:∀{xs:List dE}{k:aJ}{j:Nat}{p:Value×Value},(xs.map (·.1)).Nodup->xs[j]?=some (k,p)->mAt xs k=some p.2
 |[],_,j,_,_,h=>by simp at h
 |x::xs,k,0,p,_,h=>by
  cases h;simp[mAt]
 |x::xs,k,j+1,p,n,h=>by
  rw[aF,bM]at n;have hm:k∈xs.map (·.1):=aj.mpr ⟨(k,p),ao h,rfl⟩;have hne:¬x.1=k:=λe=>n.1 (e▸hm);have:=mY (xs:=xs) n.2 (show xs[j]?=some (k,p)from h);unfold mAt at this⊢;rw[gK (by simp[hne])];exact this
theorem rC{xs:List dE}{k:aJ}{key v:Value}{j:Nat}{p:Value×Value}(n:(xs.map (·.1)).Nodup)(h:xs[j]?=some (k,p)):oJ xs k key v=xs.map λx=>if x.1=k then(x.1,x.2.1,v)else x:=by
 unfold oJ;rw[mY n h];exact bc rfl
theorem jH{xs:List dE}{k:aJ}{key v:Value}(h:k∉xs.map (·.1)):oJ xs k key v=xs++[(k,key,v)]:=by
 unfold oJ;rw[nP h,aM Qd]
theorem yB(xs:List dE)(k:aJ)(v:Value):(xs.map λx=>if x.1=k then(x.1,x.2.1,v)else x).map (·.1)=xs.map (·.1):=by
 rw[bm];refine iB λx _=>?_;show(if x.1=k then(x.1,x.2.1,v)else x).1=x.1;split<;>rfl
theorem rD(hs:aJ->Int){k:aJ}{v:Value}:∀{xs:List dE}{j:Nat}{p:Value×Value},(xs.map (·.1)).Nodup->xs[j]?=some (k,p)->(xs.map (iK hs)).modify j (λe=>{e with val:=v})=(xs.map λx=>if x.1=k then(x.1,x.2.1,v)else x).map (iK hs)
 |[],j,_,_,h=>by simp at h
 |x::xs,0,p,n,h=>by
  cases h;rw[aF,bM]at n;have:xs.map (λx=>if x.1=k then((x.1,x.2.1,v):dE)else x)=xs:=by
   refine(iB λy hy=>?_).trans (List.map_id' xs);rw[aM (λe=>n.1 (aj.mpr ⟨y,hy,e⟩))]
  rw[aF,aF,this,bc rfl,aF];rfl
 |x::xs,j+1,p,n,h=>by
  rw[aF,bM]at n;have hm:k∈xs.map (·.1):=aj.mpr ⟨(k,p),ao h,rfl⟩;have hne:¬x.1=k:=λe=>n.1 (e▸hm);rw[aF,aF,aM hne,aF,<-rD hs n.2 (show xs[j]?=some (k,p)from h)];rfl
def MDict(prog:Program)(w:World)(h:Heap)(d:Addr)(xs:List dE):Prop:=
 ∃(o:Obj)(es:Array DictEntry)(ep:Nat),h.get? d=some o/\o.ExactDict/\o.data=.dict es ep/\es.toList=xs.map (iK (pB prog w))/\(xs.map (·.1)).Nodup
structure gT(prog:Program)(w:World)(A:Around)(s:Shared)(xs:List dE)(k:aJ)(key:Value):Prop where
 hash:∀(E:Value->Shared->Prop)(Q:Int->Shared->Prop),(∀n,Q (pB prog w k) {s with toks:=n})->wpAny (model prog w) A (pyHash key) Q E s
 find:∀n,MFind prog w A {s with toks:=n} (pB prog w) xs k key
section
variable{prog:Program}{w:World}{A:Around}{E:Value->Shared->Prop}{s:Shared}{d:Addr}{xs:List dE}{k:aJ}{key:Value}
theorem MDict.typeIs(D:MDict prog w s.heap d xs):s.TypeIs (.ref d) "dict":=let⟨o,_,_,g,c,_⟩:=D;⟨o,g,c.1⟩
theorem qf{Q:Option Value->Shared->Prop}(S:gT prog w A s xs k key)(D:MDict prog w s.heap d xs)(h:∀n,Q (mAt xs k) {s with toks:=n}):wpAny (model prog w) A (dictGet d key) Q E s:=by
 obtain⟨o,es,ep,g1,_,g2,he,nd⟩:=D;unfold dictGet
 try with_reducible refine cJ ?_
 refine ak (S.hash _ _ λn=>ak (qg (S.find n) g1 g2 he (λhn=>?_) λj p hj=>?_))
 ·rw[nP hn]at h;exact aX (h n)
 ·rw[mY nd hj]at h;refine ak (oR (s:={s with toks:=n}) g1 g2 ?_);rw[wD he j,hj];exact aX (h n)
theorem tP{v:Value}{Q:Unit->Shared->Prop}(S:gT prog w A s xs k key)(D:MDict prog w s.heap d xs)(hz:xs.length<=sizeLine)(h:∀h' n,MDict prog w h' d (oJ xs k key v)->Heap.SameBut d s.heap h'->Q () {s with heap:=h',toks:=n}):wpAny (model prog w) A (dictSet d key v) Q E s:=by
 obtain⟨o,es,ep,g1,c,g2,he,nd⟩:=D;unfold dictSet
 try with_reducible refine cJ ?_
 refine ak (S.hash _ _ λn=>?_);unfold dictSetHashed
 try with_reducible refine cJ ?_
 refine ak (qg (S.find n) g1 g2 he (λhn=>?_) λj p hj=>?_)
 ·refine ak (fk (DR (hz:=by have e:=mV he;omega) (s:={s with toks:=n}) g1 g2 (h _ n ⟨_,_,ep+1,g7 _ g1 (mK (ij g2 _)),c.mapDictKeys _,ij g2 _,?_,?_⟩ (Heap.SameBut.update ..))))
  ·rw[jH hn];simp[he,iK]
  ·rw[jH hn,ah,cS];refine⟨nd,Qs,λx hx y hy=>?_⟩;simp only[aF,gJ,ar]at hy;subst hy;exactλe=>hn (e▸hx)
 ·refine ak (fk (ak (wpAny_updateDict (s:={s with toks:=n}) g1 g2 (wpAny_point (h _ n ⟨_,_,ep,g7 _ g1 (mK (Obj.data_mapDict g2 _)),c.mapDict _,Obj.data_mapDict g2 _,?_,?_⟩ (Heap.SameBut.update ..))))))
  ·rw[rC nd hj,<-rD (pB prog w) nd hj,<-he];obtain⟨l⟩:=es;simp
  ·rw[rC nd hj,yB];exact nd
theorem Do{v:Value}{Q:Value->Shared->Prop}(S:gT prog w A s xs k key)(D:MDict prog w s.heap d xs)(hz:xs.length<=sizeLine)(h1:∀u n,mAt xs k=some u->Q u {s with toks:=n})(h2:∀h' n,mAt xs k=none->MDict prog w h' d (oJ xs k key v)->Heap.SameBut d s.heap h'->Q v {s with heap:=h',toks:=n}):wpAny (model prog w) A (dictSetDefault d key v) Q E s:=by
 obtain⟨o,es,ep,g1,c,g2,he,nd⟩:=D;unfold dictSetDefault
 try with_reducible refine cJ ?_
 refine ak (S.hash _ _ λn=>ak (qg (S.find n) g1 g2 he (λhn=>?_) λj p hj=>?_))
 ·refine ak (fk (ak (DR (hz:=by have e:=mV he;omega) (s:={s with toks:=n}) g1 g2 (aX (h2 _ n (nP hn) ⟨_,_,ep+1,g7 _ g1 (mK (ij g2 _)),c.mapDictKeys _,ij g2 _,?_,?_⟩ (Heap.SameBut.update ..))))))
  ·rw[jH hn];simp[he,iK]
  ·rw[jH hn,ah,cS];refine⟨nd,Qs,λx hx y hy=>?_⟩;simp only[aF,gJ,ar]at hy;subst hy;exactλe=>hn (e▸hx)
 ·refine ak (oR (s:={s with toks:=n}) g1 g2 ?_);rw[wD he j,hj];exact ak (fk (aX (h1 _ n (mY nd hj))))
theorem Bu{Q:Bool->Shared->Prop}(S:gT prog w A.in1 s xs k key)(hd:(d==sysModules)=false)(D:MDict prog w s.heap d xs)(h:∀n,Q (mAt xs k).isSome {s with toks:=n}):wpAny (model prog w) A (contains (.ref d) key) Q E s:=by
 unfold contains
 try with_reducible refine cJ ?_
 refine ak (wpAny_specialOf D.typeIs slot_dict_contains.lookup ?_);show wpAny _ _ (if(some (Value.builtin "dict.__contains__")==some Value.none)=true then _ else _) _ _ _;rw[aM (by rw[beq_builtin_none];decide)];refine ak (wpAny_callSpecialUnlessNone?_slot (name:=Str.ofString "__contains__") D.typeIs slot_dict_contains (fX slot_dict_contains D.typeIs entry_dict_contains ?_ (args_dict_contains _ _)));show wpAny _ _ (dictGet d key>>=_) _ _ s;refine ak (qf S D λn=>?_);have h:=h n;cases hf:mAt xs k with
 |some p=>
  rw[hf]at h;exact aX ⟨_,rfl,cR h⟩
 |none=>
  rw[hf]at h;show wpAny _ _ (Builtin.Dict.pendingKey? d key>>=_) _ _ _;exact ak (wpAny_pendingKey_other hd (aX ⟨_,rfl,cR h⟩))
theorem F5{Q:Value->Shared->Prop}(S:gT prog w A.in1 s xs k key)(hd:(d==sysModules)=false)(D:MDict prog w s.heap d xs)(h:∀n,Q (.bool (mAt xs k).isSome) {s with toks:=n}):wpAny (model prog w) A (compareOp .In key (.ref d)) Q E s:=by
 show wpAny _ _ (do return Value.bool (<-contains (.ref d) key)) _ _ _;exact ak (Bu S hd D λn=>aX (h n))
theorem Bt{Q:Value->Shared->Prop}(S:gT prog w A.in1 s xs k key)(hd:(d==sysModules)=false)(D:MDict prog w s.heap d xs)(h:∀n,Q (.bool (!(mAt xs k).isSome)) {s with toks:=n}):wpAny (model prog w) A (compareOp .NotIn key (.ref d)) Q E s:=by
 show wpAny _ _ (do return Value.bool (!(<-contains (.ref d) key))) _ _ _;exact ak (Bu S hd D λn=>aX (h n))
theorem tR{u:Value}{Q:Value->Shared->Prop}(S:gT prog w A.in1 s xs k key)(D:MDict prog w s.heap d xs)(e:mAt xs k=some u)(h:∀n,Q u {s with toks:=n}):wpAny (model prog w) A (getItem (.ref d) key) Q E s:=by
 unfold getItem
 try with_reducible refine cJ ?_
 refine ak (wpAny_sequenceKey D.typeIs Qd ?_);refine ak (eV (name:=Str.ofString "__getitem__") D.typeIs slot_dict_getitem (fX slot_dict_getitem D.typeIs entry_dict_getitem ?_ (args_dict_getitem _ _)));show wpAny _ _ (dictGet d key>>=_) _ _ s;refine ak (qf S D λn=>?_);rw[e];exact aX ⟨u,rfl,aX (h n)⟩
theorem tO{v:Value}{Q:Unit->Shared->Prop}(S:gT prog w A.in1 s xs k key)(D:MDict prog w s.heap d xs)(hz:xs.length<=sizeLine)(h:∀h' n,MDict prog w h' d (oJ xs k key v)->Heap.SameBut d s.heap h'->Q () {s with heap:=h',toks:=n}):wpAny (model prog w) A (setItem (.ref d) key v) Q E s:=by
 unfold setItem
 try with_reducible refine cJ ?_
 refine ak (wpAny_sequenceKey D.typeIs Qd ?_);refine ak (eV (name:=Str.ofString "__setitem__") D.typeIs slot_dict_setitem (fX slot_dict_setitem D.typeIs entry_dict_setitem ?_ (args_dict_setitem _ _ _)));show wpAny _ _ (Builtin.Dict.notOrdered "__setitem__" ⟨[.ref d,key,v],[]⟩>>=_) _ _ s;refine ak (lD D.typeIs ?_);show wpAny _ _ (dictSet d key v>>=_) _ _ s;exact ak (tP S D hz λh' n D' hs=>aX ⟨.none,rfl,aX (h h' n D' hs)⟩)
variable(prog w d key)
theorem qe(hd:(d==sysModules)=false):MeetsIn prog w (Builtin.«dict.get» ⟨[.ref d,key],[]⟩) (λA R s=>∃k xs,gT prog w A.in1 s xs k key/\MDict prog w s.heap d xs/\∀n,R (.ok (.ret ((mAt xs k).getD .none))) {s with toks:=n}):=
 .of_wp λA R s⟨k,xs,S,D,h⟩=>by
  show wpAny _ _ (dictGet d key>>=_) _ _ s;refine ak (qf S D λn=>?_);have h:=h n;cases e:mAt xs k with
  |some u=>
   rw[e]at h;exact aX ⟨u,rfl,h⟩
  |none=>
   rw[e]at h;show wpAny _ _ (Builtin.Dict.missed d key>>=_) _ _ _;exact ak (wpAny_missed_other hd (aX ⟨.none,rfl,h⟩))
theorem oI(hd:(d==sysModules)=false)(v:Value):MeetsIn prog w (Builtin.«dict.get» ⟨[.ref d,key,v],[]⟩) (λA R s=>∃k xs,gT prog w A.in1 s xs k key/\MDict prog w s.heap d xs/\∀n,R (.ok (.ret ((mAt xs k).getD v))) {s with toks:=n}):=
 .of_wp λA R s⟨k,xs,S,D,h⟩=>by
  show wpAny _ _ (dictGet d key>>=_) _ _ s;refine ak (qf S D λn=>?_);have h:=h n;cases e:mAt xs k with
  |some u=>
   rw[e]at h;exact aX ⟨u,rfl,h⟩
  |none=>
   rw[e]at h;show wpAny _ _ (Builtin.Dict.missed d key>>=_) _ _ _;exact ak (wpAny_missed_other hd (aX ⟨v,rfl,h⟩))
theorem oH(hd:(d==sysModules)=false)(v:Value):MeetsIn prog w (Builtin.«dict.setdefault» ⟨[.ref d,key,v],[]⟩) (λA R s=>∃k xs,gT prog w A.in1 s xs k key/\MDict prog w s.heap d xs/\xs.length<=sizeLine/\
  (∀u n,mAt xs k=some u->R (.ok (.ret u)) {s with toks:=n})/\∀h' n,mAt xs k=none->MDict prog w h' d (oJ xs k key v)->Heap.SameBut d s.heap h'->R (.ok (.ret v)) {s with heap:=h',toks:=n}):=
 .of_wp λA R s⟨k,xs,S,D,hz,h1,h2⟩=>by
  unfold Builtin.«dict.setdefault» Builtin.Dict.keyAndDefault;refine ak (ak (lD D.typeIs ?_));refine aX ?_;show wpAny _ _ (if(d==sysModules)=true then _ else(dictSetDefault d key v>>=_)) _ _ s;rw[aM (by rw[hd];decide)];exact ak (Do S D hz (λu n e=>aX ⟨u,rfl,h1 u n e⟩) λh' n e D' hs=>aX ⟨v,rfl,h2 h' n e D' hs⟩)
end
def mI(P:Program)(w:World)(h:Heap):aJ->Value->Prop
 |.inl x,u=>(∃t,u=.str x t)/\PyData.strOk x=true
 |.inr xs,u=>(∃b,u=.ref b/\IsTupleKey (b8 P w) h (xs.map Sum.inr) b)/\∀x∈xs,PyData.strOk x=true
section
variable{P:Program}{w:World}{A:Around}{s:Shared}
theorem rB{h:Heap}:∀{xs:List Str}{vs:List Value},ItemsAre (b8 P w) (xs.map Sum.inr) vs->(∀x∈xs,PyData.strOk x=true)->(∃as,ReadsAll h vs (xs.map PyData.str) as)/\PyData.canLayAll0 (xs.map PyData.str)=true
 |[],_,i,_=>by cases i;exact⟨⟨_,.nil⟩,rfl⟩
 |x::xs,_,i,o=>by
  cases i with
  |cons h1 i=>
   obtain⟨⟨as,r⟩,c⟩:=rB (h:=h) i λy hy=>o y (aq _ hy);rcases dk (show kZ (Sum.inr x) _=true from h1)with⟨_,_,e,_⟩|⟨y,t,e,rfl⟩
   ·cases e
   ·cases e;exact⟨⟨_,.cons (.str x t) r⟩,by rw[aF,PyData.canLayAll0,c,zL];exact o x au⟩
theorem rA{h:Heap}{xs:List Str}{b:Addr}(k:IsTupleKey (b8 P w) h (xs.map Sum.inr) b)(o:∀x∈xs,PyData.strOk x=true):(∃as,Reads h (.ref b) (.tuple (xs.map PyData.str)) as)/\(PyData.tuple (xs.map PyData.str)).canLay0=true:=by
 obtain⟨ob,items,n,g1,g2,g3,i⟩:=k;obtain⟨⟨as,r⟩,c⟩:=rB (h:=h) i o;exact⟨⟨_,.tuple g1 g2 g3 r⟩,by simpa[PyData.canLay0]using c⟩
theorem Bw{xs ys:List Str}(h:xs.map (Sum.inr:Str->dU)=ys.map Sum.inr):xs=ys:=List.map_inj_right (λa b e=>Sum.inr.inj e) |>.mp h
theorem mI.eq{E:Value->Shared->Prop}{Q:Bool->Shared->Prop}(hu:A.units<cLine):∀{k k':aJ}{u v:Value},mI P w s.heap k' v->mI P w s.heap k u->Q (decide (k'=k)) s->wpAny (model P w) A (eqBool v u) Q E s
 |.inl x,.inl y,_,_,⟨⟨t,e⟩,_⟩,⟨⟨t',e'⟩,_⟩,q=>by
  subst e e';refine(b8 P w).eqBool (fU P w y t) (fU P w x t') ?_;rw[BG];rwa[show decide ((Sum.inl y:aJ)=Sum.inl x)=decide (y=x)from by by_cases e:y=x<;>simp[e]]at q
 |.inr xs,.inr ys,_,_,⟨⟨b,e,k⟩,_⟩,⟨⟨b',e',k'⟩,_⟩,q=>by
  subst e e';refine wpAny_eqBool_tuple hu k k' ?_;rwa[show decide (ys.map (Sum.inr:Str->dU)=xs.map Sum.inr)=decide ((Sum.inr ys:aJ)=Sum.inr xs)from decide_eq_decide.mpr ⟨λe=>b6 Sum.inr (Bw e),λe=>by rw[Sum.inr.inj e]⟩]
 |.inl x,.inr ys,_,_,⟨⟨b,e,k⟩,o⟩,⟨⟨t,e'⟩,o'⟩,q=>by
  subst e e';obtain⟨⟨as,r⟩,c⟩:=rA k o;refine SeqAt.eqAt_reads (.tuple (ys.map PyData.str)) (.str x) A s _ _ _ _ r (.str x t) c o' (by rw[show(PyData.str x).depth=0 from rfl,Nat.min_zero];exact hu) P w _ _ ?_;rw[show PyData.eqv (.tuple (ys.map PyData.str)) (.str x)=false by simp[PyData.eqv]];exact q
 |.inr xs,.inl y,_,_,⟨⟨t,e⟩,o⟩,⟨⟨b,e',k⟩,o'⟩,q=>by
  subst e e';obtain⟨⟨as,r⟩,c⟩:=rA k o';refine SeqAt.eqAt_reads (.str y) (.tuple (xs.map PyData.str)) A s _ _ _ _ (.str y t) r o c (by rw[show(PyData.str y).depth=0 from rfl,Nat.zero_min];exact hu) P w _ _ ?_;rw[show PyData.eqv (.str y) (.tuple (xs.map PyData.str))=false by simp[PyData.eqv]];exact q
theorem mI.quiet:∀{k:aJ}{u:Value}{E:Value->Shared->Prop}{Q:Bool->Shared->Prop},mI P w s.heap k u->Q true s->wpAny (model P w) A (eqIsQuiet 8 u) Q E s
 |.inl x,_,_,_,⟨⟨t,e⟩,_⟩,q=>by
  subst e;rw[eqIsQuiet_byValue 8 rfl];exact aX q
 |.inr xs,_,_,_,⟨⟨b,e,k⟩,_⟩,q=>by
  subst e;exact wpAny_eqIsQuiet_tuple k q
theorem mI.inj{h:Heap}:∀{k k':aJ}{u:Value},mI P w h k u->mI P w h k' u->k=k'
 |.inl x,.inl y,_,⟨⟨t,e⟩,_⟩,⟨⟨t',e'⟩,_⟩=>by rw[e]at e';cases e';rfl
 |.inr xs,.inr ys,_,⟨⟨b,e,k⟩,_⟩,⟨⟨b',e',k'⟩,_⟩=>by
  rw[e]at e';cases e';rw[Bw (k.inj k')]
 |.inl x,.inr ys,_,⟨⟨t,e⟩,_⟩,⟨⟨b',e',k'⟩,_⟩=>by rw[e]at e';cases e'
 |.inr xs,.inl y,_,⟨⟨b,e,k⟩,_⟩,⟨⟨t',e'⟩,_⟩=>by rw[e]at e';cases e'
theorem gT.of{xs:List dE}{k:aJ}{key:Value}(hu:A.units<cLine)(nd:(xs.map (·.1)).Nodup)(his:∀x∈xs,mI P w s.heap x.1 x.2.1)(hk:mI P w s.heap k key):gT P w A s xs k key:=by
 refine⟨λE Q q=>?_,λn=>⟨?_,nd,λx hx E Q q=>mI.eq (s:={s with toks:=n}) hu (his x hx) hk q,λE Q q=>mI.quiet (s:={s with toks:=n}) hk q,λx hx E Q q=>mI.quiet (s:={s with toks:=n}) (his x hx) q,λx hx e=>mI.inj (e▸his x hx) hk,λz t e x hx=>?_⟩⟩
 ·match k,hk with
  |.inl x,⟨⟨t,e⟩,_⟩=>subst e;exact(b8 P w).pyHash (fU P w x t) (q _)
  |.inr xs,⟨⟨b,e,i⟩,_⟩=>subst e;exact(tupleKind (b8 P w)).pyHash hu i (q _)
 ·match k,hk with
  |.inl x,⟨⟨t,e⟩,_⟩=>exact .inl ⟨x,t,e⟩
  |.inr xs,⟨⟨b,e,i⟩,_⟩=>exact .inr ⟨b,e⟩
 ·subst e;have ek:k=.inl z:=match k,hk with
   |.inl x,⟨⟨t,e⟩,_⟩=>by cases e;rfl
   |.inr xs,⟨⟨b,e,i⟩,_⟩=>nomatch e
  subst ek;have hx:=his x hx;obtain⟨kx,u,v⟩:=x
  match kx,hx with
  |.inl y,⟨⟨t,e⟩,_⟩=>
   have e:u=.str y t:=e;subst e;show(Value.str y t).isStr z=decide ((Sum.inl y:aJ)=Sum.inl z);by_cases h:y=z
   ·subst h;simp[Value.isStr]
   ·simp[Value.isStr,h]
  |.inr ys,⟨⟨b,e,i⟩,_⟩=>
   have e:u=.ref b:=e;subst e;rfl
end
end L2
set_option maxHeartbeats 200000
namespace L2
open PySem PySem.Spec PyProof.Rows
inductive V where
 |non|bl(b:Bool)|int(i:Int)|str(x:Str)|byt(b:Array UInt8)|flt(b:UInt64)|ref(a:Addr)|ty(n:String)
 deriving DecidableEq
def bY:V->Value->Prop
 |.non,u=>u=Value.none
 |.bl b,u=>u=Value.bool b
 |.int i,u=>∃t,u=Value.int i t
 |.str x,u=>∃t,u=Value.str x t
 |.byt b,u=>∃t,u=Value.bytes b t
 |.flt b,u=>∃t,u=Value.float b t
 |.ref a,u=>u=Value.ref a
 |.ty n,u=>u=Value.type n
abbrev cI:List V->List Value->Prop:=Paired bY
theorem cI.length{xs:List V}{us:List Value}(r:cI xs us):xs.length=us.length:=Paired.length r
theorem cI.get:∀{xs:List V}{us:List Value}{i:Nat}{x:V},cI xs us->xs[i]?=some x->∃u,us[i]?=some u/\bY x u
 |_,_,_,_,.nil,e=>by simp at e
 |_,_,0,_,.cons r _,e=>by simp at e;subst e;exact⟨_,rfl,r⟩
 |_,_,i+1,x,.cons _ t,e=>by
  obtain⟨u,h1,h2⟩:=cI.get (i:=i) (x:=x) t (by simpa using e);exact⟨u,by simpa using h1,h2⟩
theorem cI.append:∀{xs ys:List V}{us ws:List Value},cI xs us->cI ys ws->cI (xs++ys) (us++ws)
 |_,_,_,_,.nil,s=>s
 |_,_,_,_,.cons r t,s=>.cons r (cI.append t s)
theorem cI.take:∀{xs:List V}{us:List Value}(n:Nat),cI xs us->cI (xs.take n) (us.take n)
 |_,_,0,_=>.nil
 |_,_,_+1,.nil=>.nil
 |_,_,n+1,.cons r t=>.cons r (cI.take n t)
theorem cI.drop:∀{xs:List V}{us:List Value}(n:Nat),cI xs us->cI (xs.drop n) (us.drop n)
 |_,_,0,r=>r
 |_,_,_+1,.nil=>.nil
 |_,_,n+1,.cons _ t=>cI.drop n t
def RelO:Option V->Option Value->Prop
 |some v,some u=>bY v u
 |none,none=>True
 |_,_=>False
def KV{κ:Type}:List (κ×V)->List (κ×Value)->Prop:=Paired λ(p:κ×V)(q:κ×Value)=>p.1=q.1/\bY p.2 q.2
def kV:dU->V
 |.inl i=>.int i
 |.inr x=>.str x
inductive HO where
 |lst(xs:List V)
 |tup(xs:List V)
 |dK(kvs:List (dU×V))|dT(kvs:List (List dU×V))
 |dM(kvs:List (aJ×V))
 |set(S:Int->Bool)(n:Nat)
 |ins(C dx:Addr)(fs:List (Str×V))
 |own(x:Addr)
 |xd(fs:List (Str×V))
 |met(f x:Addr)
 |rng(lo hi:Int)
 |frz(o:Obj)(u:HO)
 |tbl(ps:Array Value)
 |ext(φ:Heap->Prop)
abbrev Hp:=Addr->Option HO
def upd(H:Hp)(a:Addr)(o:HO):Hp:=λb=>if b=a then some o else H b
theorem ai{H:Hp}{a:Addr}{o:HO}:upd H a o a=some o:=by unfold upd;rw[bc rfl]
theorem aV{H:Hp}{a b:Addr}{o:HO}(h:b≠a):upd H a o b=H b:=by unfold upd;rw[aM h]
theorem cU{H:Hp}{a b:Addr}{o u:HO}(h:H a=some o)(h':H b=some u)(d:o≠u):a≠b:=by
 intro e;subst e;rw[h]at h';exact d (Option.some.inj h')
theorem aZ{H:Hp}{a b:Addr}{o:HO}(h:H a=some o)(h':H b=none):a≠b:=by
 intro e;subst e;rw[h]at h';cases h'
def aJ.at_(H:Hp):aJ->V->Prop
 |.inl x,y=>y=.str x/\PyData.strOk x=true
 |.inr xs,y=>∃b,y=.ref b/\H b=some (.tup (xs.map V.str))/\∀x∈xs,PyData.strOk x=true
theorem aJ.at_.keep{H H':Hp}(ht:∀b xs,H b=some (.tup xs)->H' b=some (.tup xs)):∀{k:aJ}{y:V},k.at_ H y->k.at_ H' y
 |.inl _,_,h=>h
 |.inr _,_,⟨b,e,h,o⟩=>⟨b,e,ht _ _ h,o⟩
def MV(H:Hp):List (aJ×V)->List dE->Prop:=Paired λ(p:aJ×V)(q:dE)=>p.1=q.1/\(∃y,p.1.at_ H y/\bY y q.2.1)/\bY p.2 q.2.2
section
variable(P:Program)(w:World)
def ObjOk(H:Hp)(h:Heap)(a:Addr):HO->Prop
 |.lst xs=>xs.length<=sizeLine/\∃(its:List Value)(n:Nat),cI xs its/\h.get? a=some {cls:=.type "list",data:=.seq its.toArray n}
 |.tup xs=>xs.length<=sizeLine/\∃its:List Value,cI xs its/\IsTup h a its.toArray
 |.dK kvs=>kvs.length<=sizeLine/\(a==sysModules)=false/\∃vs,KV kvs vs/\h.DictOf (b8 P w) a vs
 | .dT kvs=>kvs.length<=sizeLine/\(a==sysModules)=false/\∃xs:List (List dU×Addr×Value),
   Paired (λ(p:List dU×V)(q:List dU×Addr×Value)=>p.1=q.1/\H q.2.1=some (.tup (p.1.map kV))/\bY p.2 q.2.2) kvs xs/\
   ∃o es ep,h.get? a=some o/\o.ExactDict/\o.data=.dict es ep/\es.toList=xs.map (entryOfKey (tupleKind (b8 P w)))/\(xs.map (·.1)).Nodup
 |.dM kvs=>kvs.length<=sizeLine/\(a==sysModules)=false/\∃xs:List dE,MV H kvs xs/\MDict P w h a xs
 |.set S n=>h.SetOf (intKind P w) a S n
 | .ins C dx fs=>H dx=some (.own a)/\fs.length<=1000/\dx≠a/\h.get? a=some (eG C dx)/\
   ∃mA,h.Ns1 dx mA/\(∀f,RelO (fs.lookup f) (mA f))/\PySem.Within mA (fs.map (·.1))
 |.own _=>∃o,h.get? a=some o
 |.xd fs=>∃mA,h.Ns1 a mA/\∀f,RelO (fs.lookup f) (mA f)
 |.rng lo hi=>∃t u v,h.get? a=some {cls:=.type "range",data:=.fields #[.int lo t,.int hi u,.int 1 v]}
 |.frz o u=>h.get? a=some o/\ObjOk H h a u
 |.tbl ps=>h.get? a=some {cls:=.none,data:=.fields ps}
 |.met f x=>h.get? a=some (oT (.ref f) (.ref x))
 |.ext φ=>φ h/\(∃o,h.get? a=some o)/\∀h1 h2:Heap,φ h1->(∀o,h1.get? a=some o->h2.get? a=some o)->φ h2
def kf(H:Hp)(h:Heap):Prop:=∀a o,H a=some o->ObjOk P w H h a o
end
section
variable{P:Program}{w:World}{H H':Hp}{h h':Heap}{a:Addr}{o:HO}
theorem ObjOk.lt(x:ObjOk P w H h a o):a<h.objs.size:=by
 cases o with
 |lst xs=>obtain⟨_,_,_,_,e⟩:=x;exact bh e
 |tup xs=>obtain⟨_,_,_,p⟩:=x;exact p.lt
 |dK kvs=>obtain⟨_,_,_,_,o,_,_,e,_⟩:=x;exact bh e
 |dT kvs=>obtain⟨_,_,_,_,o,_,_,e,_⟩:=x;exact bh e
 |dM kvs=>obtain⟨_,_,_,_,o,_,_,e,_⟩:=x;exact bh e
 |set S n=>obtain⟨o,_,_,_,e,_⟩:=x;exact bh e
 |ins C dx fs=>obtain⟨_,_,_,e,_⟩:=x;exact bh e
 |own y=>obtain⟨_,e⟩:=x;exact bh e
 |xd fs=>obtain⟨_,⟨_,_,_,e,_⟩,_⟩:=x;exact bh e
 |rng lo hi=>obtain⟨_,_,_,e⟩:=x;exact bh e
 |frz ob u=>obtain⟨e,_⟩:=x;exact bh e
 |tbl ps=>exact bh (show h.get? a=some _ from x)
 |met f y=>exact bh (show h.get? a=some _ from x)
 |ext φ=>obtain⟨_,⟨_,e⟩,_⟩:=x;exact bh e
theorem Paired.mapP{α β:Type}{F G:α->β->Prop}:∀{l₁:List α}{l₂:List β},Paired F l₁ l₂->(∀a b,F a b->G a b)->Paired G l₁ l₂
 |_,_,.nil,_=>.nil
 |_,_,.cons r t,f=>.cons (f _ _ r) (Paired.mapP t f)
theorem ObjOk.stay(x:ObjOk P w H h a o)(k:∀b u,(b=a\/H b=some (.own a))->h.get? b=some u->h'.get? b=some u)
  (ho:∀b,H b=some (.own a)->H' b=some (.own a))(ht:∀b xs,H b=some (.tup xs)->H' b=some (.tup xs)):ObjOk P w H' h' a o:=by
 induction o with
 |lst xs=>obtain⟨z,its,n,r,e⟩:=x;exact⟨z,its,n,r,k _ _ (.inl rfl) e⟩
 |tup xs=>obtain⟨z,its,r,ob,e,c⟩:=x;exact⟨z,its,r,ob,k _ _ (.inl rfl) e,c⟩
 |dK kvs=>obtain⟨z,y,vs,r,ob,es,ep,e,c⟩:=x;exact⟨z,y,vs,r,ob,es,ep,k _ _ (.inl rfl) e,c⟩
 |dT kvs=>
  obtain⟨z,y,xs,r,ob,es,ep,e,c⟩:=x;exact⟨z,y,xs,Paired.mapP r λp q z=>⟨z.1,ht _ _ z.2.1,z.2.2⟩,ob,es,ep,k _ _ (.inl rfl) e,c⟩
 |dM kvs=>
  obtain⟨z,y,xs,r,ob,es,ep,e,c⟩:=x;exact⟨z,y,xs,Paired.mapP r λp q z=>⟨z.1,let⟨v,hv,rv⟩:=z.2.1;⟨v,hv.keep ht,rv⟩,z.2.2⟩,ob,es,ep,k _ _ (.inl rfl) e,c⟩
 |set S n=>obtain⟨ob,es,ep,t,e,c⟩:=x;exact⟨ob,es,ep,t,k _ _ (.inl rfl) e,c⟩
 |ins C dx fs=>
  obtain⟨d,z,ne,e,mA,⟨od,es,ep,e2,c⟩,r⟩:=x;exact⟨ho _ d,z,ne,k _ _ (.inl rfl) e,mA,⟨od,es,ep,k _ _ (.inr d) e2,c⟩,r⟩
 |own y=>obtain⟨ob,e⟩:=x;exact⟨ob,k _ _ (.inl rfl) e⟩
 |xd fs=>obtain⟨mA,⟨od,es,ep,e,c⟩,r⟩:=x;exact⟨mA,⟨od,es,ep,k _ _ (.inl rfl) e,c⟩,r⟩
 |rng lo hi=>obtain⟨t,u,v,e⟩:=x;exact⟨t,u,v,k _ _ (.inl rfl) e⟩
 |frz ob u ih=>obtain⟨e,q⟩:=x;exact⟨k _ _ (.inl rfl) e,ih q⟩
 |tbl ps=>
  have e:h.get? a=some {cls:=.none,data:=.fields ps}:=x;show h'.get? a=some {cls:=.none,data:=.fields ps};exact k a _ (.inl rfl) e
 |met f y=>
  have e:h.get? a=some (oT (.ref f) (.ref y)):=x;show h'.get? a=some (oT (.ref f) (.ref y));exact k a _ (.inl rfl) e
 |ext φ=>obtain⟨p,⟨o,e⟩,st⟩:=x;exact⟨st _ _ p λo q=>k _ _ (.inl rfl) q,⟨o,k _ _ (.inl rfl) e⟩,st⟩
theorem kf.lt(x:kf P w H h)(e:H a=some o):a<h.objs.size:=(x a o e).lt
theorem kf.fresh(x:kf P w H h)(e:h.objs.size<=a):H a=none:=by
 cases q:H a with
 |none=>rfl
 |some u=>exact absurd (bR (x.lt q) e) (dW _)
theorem kf.kept(x:kf P w H h)(k:∀b u,h.get? b=some u->h'.get? b=some u):kf P w H h':=λa o e=>
 (x a o e).stay (λb u _ q=>k b u q) (λ_ q=>q) λ_ _ q=>q
theorem kf.laid(x:kf P w H h)(k:∀b u,h.get? b=some u->h'.get? b=some u)(hp:h.objs.size<=a)(new:ObjOk P w (upd H a o) h' a o):kf P w (upd H a o) h':=λb u e=>by
 have hn:=x.fresh hp;by_cases hb:b=a
 ·subst hb;rw[ai]at e;cases e;exact new
 ·rw[aV hb]at e;exact(x b u e).stay (λc v _ q=>k c v q) (λc q=>by rw[aV (aZ q hn)];exact q) λc xs q=>by rw[aV (aZ q hn)];exact q
end
def Rd(H:Hp)(a:Addr)(u:HO):Prop:=H a=some u\/∃o,H a=some (.frz o u)
theorem Rd.ok{P:Program}{w:World}{H:Hp}{h:Heap}{a:Addr}{u:HO}(r:Rd H a u)(x:kf P w H h):ObjOk P w H h a u:=by
 rcases r with r|⟨o,r⟩
 ·exact x a u r
 ·obtain⟨_,q⟩:=x a _ r;exact q
def GE:Option HO->Prop
 |some (.lst _)=>True
 |some (.dK _)=>True
 |some (.dT _)=>True
 |some (.dM _)=>True
 |some (.set _ _)=>True
 |some (.ins _ _ _)=>True
 |some (.ext _)=>True
 |_=>False
section
variable{P:Program}{w:World}{H:Hp}{h h':Heap}{x e:Addr}{o':HO}
theorem kf.write(ok:kf P w H h)(mu:GE (H x))(he:e=x\/H e=some (.own x))(k:∀b u,b≠e->h.get? b=some u->h'.get? b=some u)(heo:∃u,h'.get? e=some u)
  (new:ObjOk P w (upd H x o') h' x o'):kf P w (upd H x o') h':=λb u q=>by
 have nown:∀c y,H c=some (.own y)->c≠x:=λc y r z=>by subst z;rw[r]at mu;exact mu
 have ntup:∀c xs,H c=some (.tup xs)->c≠x:=λc xs r z=>by subst z;rw[r]at mu;exact mu
 by_cases hb:b=x
 ·subst hb;rw[ai]at q;cases q;exact new
 ·rw[aV hb]at q;by_cases hbe:b=e
  ·have q':H b=some (.own x):=by
    rcases he with z|z
    ·exact absurd (hbe.trans z) hb
    ·rw[hbe];exact z
   rw[q]at q';cases q';obtain⟨v,hv⟩:=heo;exact⟨v,by rw[hbe];exact hv⟩
  ·refine(ok b u q).stay (λc v hc r=>k c v ?_ r) (λc r=>by rw[aV (nown c b r)];exact r) λc xs r=>by rw[aV (ntup c xs r)];exact r
   rcases hc with rfl|hc
   ·exact hbe
   ·rintro rfl;rcases he with z|z
    ·exact nown c b hc z
    ·rw[hc]at z;cases z;exact hb rfl
end
structure Un(fs ex:List Addr)(H H':Hp)(h h':Heap):Prop where
 keep:∀b o,h.get? b=some o->H b=none->b∉fs->b∉ex->h'.get? b=some o
 slot:∀b o,h.get? b=some o->H b=none->b∈fs->b∉ex->∃sl,h'.get? b=some {o with slots:=sl}
 free:∀b o,h.get? b=some o->H b=none->b∉ex->H' b=none
 there:∀b o,h.get? b=some o->b∉ex->∃o',h'.get? b=some o'
 tups:∀b xs,H b=some (.tup xs)->H' b=some (.tup xs)
 frzs:∀b o u,H b=some (.frz o u)->H' b=some (.frz o u)
 tbls:∀b ps,H b=some (.tbl ps)->∃more,H' b=some (.tbl (ps++more))
section
variable{fs fs' ex ex':List Addr}{H H1 H2:Hp}{h h1 h2 h':Heap}{a x e:Addr}{o:HO}
theorem Un.any(u:Un fs ex H H1 h h1){b:Addr}{ob:Obj}(q:h.get? b=some ob)(n:H b=none)(hx:b∉ex):∃sl,h1.get? b=some {ob with slots:=sl}:=by
 by_cases hb:b∈fs
 ·exact u.slot b ob q n hb hx
 ·exact⟨ob.slots,u.keep b ob q n hb hx⟩
theorem Un.kept(k:∀b u,h.get? b=some u->h'.get? b=some u):Un fs ex H H h h':=
 ⟨λb ob q _ _ _=>k b ob q,λb ob q _ _ _=>⟨ob.slots,k b ob q⟩,λ_ _ _ n _=>n,λb ob q _=>⟨ob,k b ob q⟩,λ_ _ q=>q,λ_ _ _ q=>q,λ_ ps q=>⟨#[],by rw[q];simp⟩⟩
theorem Un.refl:Un fs ex H H h h:=Un.kept λ_ _ q=>q
theorem Un.laid(k:∀b u,h.get? b=some u->h'.get? b=some u)(hp:h.objs.size<=a)(hn:H a=none):Un fs ex H (upd H a o) h h' where
 keep:=λb u q _ _ _=>k b u q
 slot:=λb u q _ _ _=>⟨u.slots,k b u q⟩
 free:=λb u q n _=>by rw[aV (bp (bR (bh q) hp))];exact n
 there:=λb u q _=>⟨u,k b u q⟩
 tups:=λb xs q=>by rw[aV (aZ q hn)];exact q
 frzs:=λb u xs q=>by rw[aV (aZ q hn)];exact q
 tbls:=λb ps q=>⟨#[],by rw[aV (aZ q hn),q];simp⟩
theorem Un.write(mu:GE (H x))(he:e=x\/H e=some (.own x))(k:∀b u,b≠e->h.get? b=some u->h'.get? b=some u)(heo:∃u,h'.get? e=some u):Un fs ex H (upd H x o) h h':=by
 have hx:∀b,H b=none->b≠x:=λb n z=>by subst z;rw[n]at mu;exact mu
 have hb:∀b,H b=none->b≠e:=λb n z=>by
  subst z;rcases he with r|r
  ·exact hx b n r
  ·rw[n]at r;cases r
 have hm:∀b u,H b=some u->¬GE (some u)->b≠x:=λb u q nm z=>by subst z;rw[q]at mu;exact nm mu
 refine⟨λb u q n _ _=>k b u (hb b n) q,λb u q n _ _=>⟨u.slots,k b u (hb b n) q⟩,λb u q n _=>by rw[aV (hx b n)];exact n,λb u q _=>?_,
  λb xs q=>by rw[aV (hm b _ q λz=>z)];exact q,λb u xs q=>by rw[aV (hm b _ q λz=>z)];exact q,λb ps q=>⟨#[],by rw[aV (hm b _ q λz=>z),q];simp⟩⟩
 by_cases hbe:b=e
 ·subst hbe;exact heo
 ·exact⟨u,k b u hbe q⟩
end
def GK(h:Heap)(H:Hp):List Addr:=(List.range h.objs.size).filter λa=>(H a).isSome
def qr(h:Heap)(H:Hp):Heap:=PySem.W.hideAll h (GK h H)
theorem yL(h:Heap)(H:Hp):(qr h H).objs.size=h.objs.size:=PySem.W.hideAll_size _ _
theorem BL{h:Heap}{H:Hp}{b:Addr}{o:Obj}(e:h.get? b=some o)(n:H b=none):(qr h H).get? b=some o:=
 PySem.W.hideAll_get _ e λhm=>by
  have q:(H b).isSome=true:=(bK.mp hm).2;rw[n]at q;simp at q
theorem Dj{h:Heap}{H:Hp}{b:Addr}{o:Obj}(e:(qr h H).get? b=some o):h.get? b=some o/\H b=none:=by
 have e':h.get? b=some o:=PySem.W.of_hideAll (GK h H) e;refine⟨e',?_⟩;cases q:H b with
 |none=>rfl
 |some x=>
  have hm:b∈GK h H:=bK.mpr ⟨gI.mpr (bh e'),by simp[q]⟩;have z:(qr h H).get? b=none:=PySem.W.hideAll_none (GK h H) hm;rw[z]at e;cases e
end L2
namespace L2
open PySem PySem.Spec PyProof.Rows
structure Mod(K:ag)(mg:Str->Option Value)(base:Heap):Prop where
 kin:K.In base
 glob:base.Ns mainGlobals mg
 blt:∃mb,base.Ns builtinsNs mb/\∀x:Str,x≠"__name__"->mb x=bootBuiltins x
 nolimit:base.NoLimit
structure Cx where
 prog:Program
 w:World
 K:ag
 mg:Str->Option Value
 base:Heap
 A:Around
 N:List Str
 s₀:Shared
 H₀:Hp
 env:Env
 outer:List Env
 stack:List Env
 ex:List Addr
 fn:Str->Bool
 calm:Bool
 pn:List (Addr×Obj)
 xe:Value->Shared->Prop
def yN(l:List Env):List Addr:=l.filterMap (·.frame)
abbrev Cx.fs(X:Cx):List Addr:=yN X.outer
def Hx(sc:Scope)(x:Str):Prop:=sc.names.lookup x=some .local \/sc.names.lookup x=some .cell \/sc.names.lookup x=some .free
def GO(sc:Scope)(x:Str):Prop:=sc.names.lookup x=some .local \/sc.names.lookup x=some .cell
def HI(env:Env)(h:Heap)(m:Str->Option Value)(x:Str)(u:Value):Prop:=
 (env.kindOf x=some .local/\m x=some u)\/((env.kindOf x=some .cell \/env.kindOf x=some .free)/\∃c,env.cells.lookup x=some c/\h.IsCell c (some u))
structure Cx.Ok(X:Cx):Prop where
 mod:Mod X.K X.mg X.base
 kind:X.env.scope.kind=.function
 glob:X.env.globals=mainGlobals
 blt:X.env.builtins=builtinsNs
 above:X.s₀.heap.objs.size<=X.env.locals
 inj:∀x y c,X.env.cells.lookup x=some c->X.env.cells.lookup y=some c->x=y
 has:∀x,(X.env.kindOf x=some .cell \/X.env.kindOf x=some .free)->∃c,X.env.cells.lookup x=some c
 cab:∀x c,X.fn x=true->X.env.cells.lookup x=some c->X.s₀.heap.objs.size<=c
 hd:X.calm=true->X.A.handled=none
 frames:X.A.frames=some X.stack
 stk:X.stack=X.outer\/(X.stack=X.env::X.outer/\X.env.frame=some X.env.locals)
 exf:∀b∈X.ex,b≠X.env.locals/\∀x c,X.env.cells.lookup x=some c->c≠b
 bs:∀b o,X.base.get? b=some o->X.s₀.heap.get? b=some o/\X.H₀ b=none
 bsz:X.base.objs.size<=X.s₀.heap.objs.size
 noex:∀b o,X.base.get? b=some o->b∉X.ex
 exfs:∀b∈X.ex,b∉X.fs
 funs:X.s₀.heap.FunFrames X.base X.outer
 frf:∀b∈X.fs,X.H₀ b=none
structure Inv(X:Cx)(pins:List (Addr×Obj))(σ:List (Option V))(H:Hp)(s:Shared):Prop where
 ok:X.Ok
 os:s.os=X.s₀.os
 bare:AllBare s.gens
 base:Un X.fs X.ex X.H₀ H X.s₀.heap s.heap
 loc:∃m,s.heap.Ns X.env.locals m/\∀(i:Nat)(x:Str)(v:V),X.N[i]?=some x->σ[i]?=some (some v)->Hx X.env.scope x->∃u,bY v u/\HI X.env s.heap m x u
 cell:∀x c,X.env.cells.lookup x=some c->∃v,s.heap.IsCell c v
 free:H X.env.locals=none
 freeC:∀x c,X.env.cells.lookup x=some c->H c=none
 pin:∀p∈X.pn++pins,s.heap.get? p.1=some p.2/\H p.1=none/\p.1≠X.env.locals/\p.1∉X.fs/\∀v,p.2.data≠ .cell v
 hok:kf X.prog X.w H s.heap
 len:σ.length=X.N.length
section
variable{X:Cx}{pins:List (Addr×Obj)}{σ:List (Option V)}{H H':Hp}{s:Shared}{h':Heap}
theorem Cx.Ok.nofr(ok:X.Ok){b:Addr}{o:Obj}(e:X.base.get? b=some o):b∉X.fs:=λhb=>by
 have:=(ok.funs.mem hb).1;rw[e]at this;cases this
theorem Inv.bs(I:Inv X pins σ H s):∀b o,X.base.get? b=some o->s.heap.get? b=some o/\H b=none:=λb o e=>
 ⟨I.base.keep b o (I.ok.bs b o e).1 (I.ok.bs b o e).2 (I.ok.nofr e) (I.ok.noex b o e),I.base.free b o (I.ok.bs b o e).1 (I.ok.bs b o e).2 (I.ok.noex b o e)⟩
theorem Inv.bk(I:Inv X pins σ H s):∀b o,X.base.get? b=some o->s.heap.get? b=some o:=λb o e=>(I.bs b o e).1
theorem Inv.mod(I:Inv X pins σ H s):Mod X.K X.mg X.base:=I.ok.mod
theorem Inv.kIn(I:Inv X pins σ H s):X.K.In s.heap:=I.ok.mod.kin.keeps I.bk
theorem Inv.lt(I:Inv X pins σ H s):X.env.locals<s.heap.objs.size:=let⟨_,hn,_⟩:=I.loc;hn.lt
theorem Inv.sz(I:Inv X pins σ H s):X.s₀.heap.objs.size<=s.heap.objs.size:=ay I.ok.above (fZ I.lt)
theorem Inv.nofs(I:Inv X pins σ H s){a:Addr}(h:s.heap.objs.size<=a):a∉X.fs:=λhb=>by
 obtain⟨_,o,ho,_⟩:=I.ok.funs.mem hb;exact absurd (bR (bh ho) (ay I.sz h)) (dW _)
theorem Inv.cne(I:Inv X pins σ H s):∀x c,X.env.cells.lookup x=some c->c≠X.env.locals:=λx c e z=>by
 obtain⟨v,o,ho,hd⟩:=I.cell x c e;obtain⟨m,⟨o',es,ep,ho',hd',_⟩,_⟩:=I.loc;rw[z,ho']at ho;cases ho;rw[hd']at hd;cases hd
theorem Inv.funs(I:Inv X pins σ H s):s.heap.FunFrames X.base X.outer:=by
 have all:∀(l:List Env),(∀b∈yN l,b∈X.fs)->X.s₀.heap.FunFrames X.base l->s.heap.FunFrames X.base l:=by
  intro l;induction l with
  |nil=>intro _ _;trivial
  |cons env r ih=>
   intro hs hl;obtain⟨hk,⟨L,o,hf,hn,ho,hd⟩,hr⟩:=hl;have hL:L∈X.fs:=hs L (by unfold yN;rw[mM,hf];exact au);obtain⟨sl,e⟩:=I.base.slot L o ho (I.ok.frf L hL) hL λz=>I.ok.exfs L z hL;exact⟨hk,⟨L,_,hf,hn,e,hd⟩,ih (λb hb=>hs b (by unfold yN;rw[mM,hf];exact aq _ hb)) hr⟩
 exact all X.outer (λ_ hb=>hb) I.ok.funs
theorem Inv.stack(I:Inv X pins σ H s):s.heap.FunFrames X.base X.stack:=by
 rcases I.ok.stk with e|⟨e,hf⟩
 ·rw[e];exact I.funs
 ·rw[e];obtain⟨m,hn,_⟩:=I.loc;refine .cons (by rw[I.ok.kind];decide) hf hn ?_ I.funs;exact Heap.get?_none_of_le (ay I.ok.bsz I.ok.above)
theorem Inv.stkSub(I:Inv X pins σ H s):∀b∈yN X.stack,b∈X.env.locals::X.fs:=λb hb=>by
 rcases I.ok.stk with e|⟨e,hf⟩
 ·rw[e]at hb;exact aq _ hb
 ·rw[e]at hb;unfold yN at hb;rw[mM,hf]at hb;exact hb
theorem Inv.stkFree(I:Inv X pins σ H s):∀b∈yN X.stack,H b=none:=λb hb=>by
 rcases bd.mp (I.stkSub b hb)with e|hb
 ·rw[e];exact I.free
 ·obtain⟨_,o,ho,_⟩:=I.ok.funs.mem hb;exact I.base.free b o ho (I.ok.frf b hb) λz=>I.ok.exfs b z hb
theorem Inv.step{g':Array GenState}{t':Nat}{d':Drawn}{ch:List Addr}(I:Inv X pins σ H s)
  (hch:∀b∈ch,(b∈X.ex\/X.s₀.heap.objs.size<=b)/\b≠X.env.locals/\(∀x c,X.env.cells.lookup x=some c->c≠b)/\∀p∈X.pn++pins,p.1≠b)
  (keep:∀b o,b≠X.env.locals->b∉X.fs->b∉ch->s.heap.get? b=some o->H b=none->h'.get? b=some o)
  (slot:∀b o,b≠X.env.locals->b∈X.fs->b∉ch->s.heap.get? b=some o->H b=none->∃sl,h'.get? b=some {o with slots:=sl})(free:∀b o,b∉ch->s.heap.get? b=some o->H b=none->H' b=none)
  (there:∀b o,b∉ch->s.heap.get? b=some o->∃o',h'.get? b=some o')
  (tups:∀b xs,H b=some (.tup xs)->H' b=some (.tup xs))(frzs:∀b o u,H b=some (.frz o u)->H' b=some (.frz o u))(tbls:∀b ps,H b=some (.tbl ps)->∃more,H' b=some (.tbl (ps++more)))
  (ns:∀m,s.heap.Ns X.env.locals m->h'.Ns X.env.locals m)(hok:kf X.prog X.w H' h')(hg:AllBare g'):
  Inv X pins σ H' {s with heap:=h',gens:=g',drawn:=d',toks:=t'}:=by
 have neL:∀b o,X.s₀.heap.get? b=some o->b≠X.env.locals:=λb o e=>bp (bR (bh e) I.ok.above);have neC:∀b o,X.s₀.heap.get? b=some o->b∉X.ex->b∉ch:=λb o e hx hb=>by
  rcases(hch b hb).1 with z|z
  ·exact hx z
  ·exact absurd (bR (bh e) z) (dW _)
 have cellK:∀x c,X.env.cells.lookup x=some c->∀v,s.heap.IsCell c v->h'.IsCell c v:=λx c e v⟨o,ho,hd⟩=>by
  have nch:c∉ch:=λz=>(hch c z).2.2.1 x c e rfl;by_cases hc:c∈X.fs
  ·obtain⟨sl,q⟩:=slot c o (I.cne x c e) hc nch ho (I.freeC x c e);exact⟨_,q,hd⟩
  ·exact⟨o,keep c o (I.cne x c e) hc nch ho (I.freeC x c e),hd⟩
 refine⟨I.ok,I.os,hg,⟨λb o e n hb hx=>?_,λb o e n hb hx=>?_,λb o e n hx=>?_,λb o e hx=>?_,λb xs e=>tups b xs (I.base.tups b xs e),λb o xs e=>frzs b o xs (I.base.frzs b o xs e),λb ps e=>?_⟩,?_,λx c e=>?_,?_,λx c e=>?_,λp hp=>?_,hok,I.len⟩
 ·exact keep b o (neL b o e) hb (neC b o e hx) (I.base.keep b o e n hb hx) (I.base.free b o e n hx)
 ·obtain⟨sl,e1⟩:=I.base.slot b o e n hb hx;obtain⟨sl',e2⟩:=slot b _ (neL b o e) hb (neC b o e hx) e1 (I.base.free b o e n hx);exact⟨sl',e2⟩
 ·obtain⟨o',e1⟩:=I.base.there b o e hx;exact free b o' (neC b o e hx) e1 (I.base.free b o e n hx)
 ·obtain⟨o',e1⟩:=I.base.there b o e hx;exact there b o' (neC b o e hx) e1
 ·obtain⟨m1,e1⟩:=I.base.tbls b ps e;obtain⟨m2,e2⟩:=tbls b _ e1;exact⟨m1++m2,by rw[e2,Array.append_assoc]⟩
 ·obtain⟨m,hn,hl⟩:=I.loc;refine⟨m,ns m hn,λi x v e1 e2 e3=>?_⟩;obtain⟨u,r,l⟩:=hl i x v e1 e2 e3;refine⟨u,r,?_⟩;rcases l with l|⟨k,c,e,z⟩
  ·exact .inl l
  ·exact .inr ⟨k,c,e,cellK x c e _ z⟩
 ·obtain⟨v,z⟩:=I.cell x c e;exact⟨v,cellK x c e v z⟩
 ·obtain⟨m,⟨o,_,_,ho,_⟩,_⟩:=I.loc;exact free _ o (λz=>(hch _ z).2.1 rfl) ho I.free
 ·obtain⟨v,o,ho,hd⟩:=I.cell x c e;exact free c o (λz=>(hch c z).2.2.1 x c e rfl) ho (I.freeC x c e)
 ·obtain⟨e,n,ne,nf,d⟩:=I.pin p hp;have nch:p.1∉ch:=λz=>(hch p.1 z).2.2.2 p hp rfl;exact⟨keep p.1 p.2 ne nf nch e n,free p.1 p.2 nch e n,ne,nf,d⟩
theorem Inv.un{t':Nat}(I:Inv X pins σ H s)(u:Un X.fs [] H H' s.heap h')(hok:kf X.prog X.w H' h'):Inv X pins σ H' {s with heap:=h',toks:=t'}:=by
 obtain⟨m,⟨o,es,ep,ho,r⟩,_⟩:=id I.loc;obtain⟨sl,hL⟩:=u.any ho I.free Qs;exact I.step (g':=s.gens) (d':=s.drawn) (ch:=[]) (λ_ z=>nomatch z) (λb o _ hb _ e n=>u.keep b o e n hb Qs) (λb o _ hb _ e n=>u.slot b o e n hb Qs) (λb o _ e n=>u.free b o e n Qs) (λb o _ e=>u.there b o e Qs) u.tups u.frzs u.tbls (λm' hm=>by
  obtain⟨o',es',ep',ho',r'⟩:=hm;rw[ho]at ho';cases ho';exact⟨_,es',ep',hL,r'⟩) hok I.bare
theorem Inv.call{g':Array GenState}{t':Nat}{d':Drawn}{ch:List Addr}(I:Inv X pins σ H s)(u:Un (yN X.stack) ch H H' s.heap h')(hok:kf X.prog X.w H' h')(hg:AllBare g')
  (hch:∀b∈ch,(b∈X.ex\/X.s₀.heap.objs.size<=b)/\b≠X.env.locals/\(∀x c,X.env.cells.lookup x=some c->c≠b)/\∀p∈X.pn++pins,p.1≠b):
  Inv X pins σ H' {s with heap:=h',gens:=g',drawn:=d',toks:=t'}:=by
 obtain⟨m,⟨o,es,ep,ho,r⟩,_⟩:=id I.loc;obtain⟨sl,hL⟩:=u.any ho I.free λz=>(hch _ z).2.1 rfl;exact I.step (ch:=ch) hch (λb o hL hb hc e n=>u.keep b o e n (λz=>(bd.mp (I.stkSub b z)).elim hL hb) hc) (λb o _ _ hc e n=>u.any e n hc) (λb o hc e n=>u.free b o e n hc) (λb o hc e=>u.there b o e hc) u.tups u.frzs u.tbls (λm' hm=>by
  obtain⟨o',es',ep',ho',r'⟩:=hm;rw[ho]at ho';cases ho';exact⟨_,es',ep',hL,r'⟩) hok hg
theorem Inv.turned{t':Nat}{it:Addr}(I:Inv X pins σ H s)(k:∀b o,b≠it->s.heap.get? b=some o->h'.get? b=some o)(hn:H it=none)(hL:it≠X.env.locals)
  (h1:it∈X.ex\/X.s₀.heap.objs.size<=it)(h2:∀x c,X.env.cells.lookup x=some c->c≠it)(h3:∀p∈X.pn++pins,p.1≠it):Inv X pins σ H {s with heap:=h',toks:=t'}:=by
 have nit:∀b u,H b=some u->b≠it:=λb u e z=>by rw[z,hn]at e;cases e
 refine I.step (g':=s.gens) (d':=s.drawn) (ch:=[it]) (λb hb=>?_) (λb o _ _ hc e _=>k b o (λz=>hc (by simp[z])) e) (λb o _ _ hc e _=>⟨o.slots,k b o (λz=>hc (by simp[z])) e⟩) (λ_ _ _ _ n=>n)
  (λb o hc e=>⟨o,k b o (λz=>hc (by simp[z])) e⟩) (λ_ _ e=>e) (λ_ _ _ e=>e) (λb ps e=>⟨#[],by rw[e];simp⟩) (λm hm=>?_) (λb u e=>?_) I.bare
 ·have e:b=it:=by simpa using hb
  subst e;exact⟨h1,hL,h2,h3⟩
 ·obtain⟨o,es,ep,ho,r⟩:=hm;exact⟨o,es,ep,k _ o (Ne.symm hL) ho,r⟩
 ·refine(I.hok b u e).stay (λc v hc q=>k c v ?_ q) (λ_ q=>q) λ_ _ q=>q;rcases hc with z|z
  ·rw[z];exact nit b u e
  ·exact nit c _ z
theorem Inv.tok(I:Inv X pins σ H s)(t:Nat):Inv X pins σ H {s with toks:=t}:=I.un (h':=s.heap) (t':=t) Un.refl I.hok
theorem Inv.kept{t':Nat}(I:Inv X pins σ H s)(k:∀b u,s.heap.get? b=some u->h'.get? b=some u):Inv X pins σ H {s with heap:=h',toks:=t'}:=I.un (Un.kept k) (I.hok.kept k)
theorem Inv.laid{a:Addr}{o:HO}{t':Nat}(I:Inv X pins σ H s)(k:∀b u,s.heap.get? b=some u->h'.get? b=some u)(hp:s.heap.objs.size<=a)(new:ObjOk X.prog X.w (upd H a o) h' a o):
  Inv X pins σ (upd H a o) {s with heap:=h',toks:=t'}:=I.un (Un.laid k hp (I.hok.fresh hp)) (I.hok.laid k hp new)
theorem Inv.write{x e:Addr}{o:HO}{t':Nat}(I:Inv X pins σ H s)(mu:GE (H x))(he:e=x\/H e=some (.own x))(k:∀b u,b≠e->s.heap.get? b=some u->h'.get? b=some u)(heo:∃u,h'.get? e=some u)
  (new:ObjOk X.prog X.w (upd H x o) h' x o):Inv X pins σ (upd H x o) {s with heap:=h',toks:=t'}:=I.un (Un.write mu he k heo) (I.hok.write mu he k heo new)
theorem Inv.pins_of{pins':List (Addr×Obj)}(I:Inv X pins σ H s)(h:∀p∈pins',s.heap.get? p.1=some p.2/\H p.1=none/\p.1≠X.env.locals/\p.1∉X.fs/\∀v,p.2.data≠ .cell v):Inv X pins' σ H s:=
 ⟨I.ok,I.os,I.bare,I.base,I.loc,I.cell,I.free,I.freeC,λp hp=>(aw.mp hp).elim (λz=>I.pin p (bo _ z)) (h p),I.hok,I.len⟩
theorem nM{N:List Str}(hN:N.Nodup){i j:Nat}{x:Str}(a:N[i]?=some x)(b:N[j]?=some x):i=j:=by
 obtain⟨h1,e1⟩:=bj.mp a;obtain⟨h2,e2⟩:=bj.mp b;exact(List.getElem_inj hN).mp (e1.trans e2.symm)
theorem pc{M:Model}{A:Around}{E:Value->Shared->Prop}{i:Nat}{x:Str}{v:V}{u:Value}{Q:Unit->Shared->Prop}(I:Inv X pins σ H s)(hN:X.N.Nodup)(hi:X.N[i]?=some x)(hx:GO X.env.scope x)(r:bY v u)
  (h:∀s',Inv X pins (σ.set i (some v)) H s'->(∃a,Heap.SameBut a s.heap s'.heap/\(a=X.env.locals\/X.env.cells.lookup x=some a))->Q () s')(hf:X.fn x=true\/X.env.scope.names.lookup x=some .local:=by first|exact .inl rfl|exact .inr rfl|assumption):wpAny M A (storeName X.env x u) Q E s:=by
 obtain⟨m,hn,hl⟩:=id I.loc;have hcls:(X.env.scope.kind== .class ||(X.env.scope.kind== .module &&X.env.locals != X.env.globals))=false:=by rw[I.ok.kind];rfl
 have hiσ:i<σ.length:=by rw[I.len];exact(bj.mp hi).1
 have cne:=I.cne;have tracked:∀{a:Addr}{h':Heap},(∃o,s.heap.get? a=some o/\H a=none)->Heap.SameBut a s.heap h'->kf X.prog X.w H h':=λ{a h'}ha hs b ob e=>by
  obtain⟨_,_,hfree⟩:=ha;refine(I.hok b ob e).stay (λc w' hc q=>(hs.2 c ?_).trans q) (λ_ q=>q) λ_ _ q=>q;rintro rfl;rcases hc with rfl|hc
  ·rw[hfree]at e;cases e
  ·rw[hfree]at hc;cases hc
 rcases hx with hk|hk
 ·refine wpAny_storeName_local hk hn (λh' hn' hs=>?_) hcls;obtain⟨oL,_,_,hoL,_⟩:=id hn;refine h _ ⟨I.ok,I.os,I.bare,⟨λb o e n hb hx=>?_,λb o e n hb hx=>?_,I.base.free,λb o e hx=>?_,I.base.tups,I.base.frzs,I.base.tbls⟩,⟨_,hn',λj y v' e1 e2 e3=>?_⟩,λy c e=>?_,I.free,I.freeC,λp hp=>?_,tracked ⟨oL,hoL,I.free⟩ hs,by simpa using I.len⟩ ⟨_,hs,.inl rfl⟩
  ·exact(hs.2 b (bp (bR (bh e) I.ok.above))).trans (I.base.keep b o e n hb hx)
  ·obtain⟨sl,e1⟩:=I.base.slot b o e n hb hx;exact⟨sl,(hs.2 b (bp (bR (bh e) I.ok.above))).trans e1⟩
  ·obtain⟨o',e1⟩:=I.base.there b o e hx;exact⟨o',(hs.2 b (bp (bR (bh e) I.ok.above))).trans e1⟩
  ·by_cases hj:j=i
   ·subst hj;rw[hi]at e1;cases e1;rw[Cn hiσ]at e2;cases e2;exact⟨u,r,.inl ⟨hk,Qs⟩⟩
   ·rw[DW (Ne.symm hj)]at e2;obtain⟨u',r',q⟩:=hl j y v' e1 e2 e3;refine⟨u',r',?_⟩;rcases q with⟨k,e⟩|⟨k,c,e,z⟩
    ·refine .inl ⟨k,?_⟩;have:y≠x:=λe=>hj (nM hN e1 (e▸hi));simp[this,e]
    ·exact .inr ⟨k,c,e,z.sameBut hs (cne y c e)⟩
  ·obtain⟨w',z⟩:=I.cell y c e;exact⟨w',z.sameBut hs (cne y c e)⟩
  ·obtain⟨e,n,ne,nf,d⟩:=I.pin p hp;exact⟨(hs.2 p.1 ne).trans e,n,ne,nf,d⟩
 ·have hfn:X.fn x=true:=by
   rcases hf with z|z
   ·exact z
   ·rw[z]at hk;cases hk
  obtain⟨c,hc⟩:=I.ok.has x (.inl hk);obtain⟨w',z⟩:=I.cell x c hc;refine wpAny_storeName_cell I.ok.kind hk hc z (λh' hc' hs=>?_);obtain⟨oc,hoc,hocd⟩:=id z;refine h {s with heap:=h'} ⟨I.ok,I.os,I.bare,⟨λb o e n hb hx=>?_,λb o e n hb hx=>?_,I.base.free,λb o e hx=>?_,I.base.tups,I.base.frzs,I.base.tbls⟩,⟨m,hn.sameBut hs (Ne.symm (cne x c hc)),λj y v' e1 e2 e3=>?_⟩,λy c' e=>?_,I.free,I.freeC,λp hp=>?_,tracked ⟨oc,hoc,I.freeC x c hc⟩ hs,by simpa using I.len⟩ ⟨c,hs,.inr hc⟩
  ·exact(hs.2 b (bp (bR (bh e) (I.ok.cab x c hfn hc)))).trans (I.base.keep b o e n hb hx)
  ·obtain⟨sl,e1⟩:=I.base.slot b o e n hb hx;exact⟨sl,(hs.2 b (bp (bR (bh e) (I.ok.cab x c hfn hc)))).trans e1⟩
  ·obtain⟨o',e1⟩:=I.base.there b o e hx;exact⟨o',(hs.2 b (bp (bR (bh e) (I.ok.cab x c hfn hc)))).trans e1⟩
  ·by_cases hj:j=i
   ·subst hj;rw[hi]at e1;cases e1;rw[Cn hiσ]at e2;cases e2;exact⟨u,r,.inr ⟨.inl hk,c,hc,hc'⟩⟩
   ·rw[DW (Ne.symm hj)]at e2;obtain⟨u',r',q⟩:=hl j y v' e1 e2 e3;refine⟨u',r',?_⟩;rcases q with q|⟨k,c',e,z'⟩
    ·exact .inl q
    ·refine .inr ⟨k,c',e,z'.sameBut hs ?_⟩;rintro rfl;exact hj (nM hN e1 (I.ok.inj _ _ _ e hc▸hi))
  ·by_cases hcc:c'=c
   ·subst hcc;exact⟨_,hc'⟩
   ·obtain⟨w2,z2⟩:=I.cell y c' e;exact⟨w2,z2.sameBut hs hcc⟩
  ·obtain⟨e,n,ne,nf,d⟩:=I.pin p hp;refine⟨(hs.2 p.1 ?_).trans e,n,ne,nf,d⟩;intro q;rw[q,hoc]at e;have q':oc=p.2:=Option.some.inj e;exact d w' (by rw[<-q'];exact hocd)
theorem qS{M:Model}{A:Around}{E:Value->Shared->Prop}{i:Nat}{x:Str}{v:V}{u:Value}{Q:Unit->Shared->Prop}(I:Inv X pins σ H s)(hN:X.N.Nodup)(hi:X.N[i]?=some x)(hx:GO X.env.scope x)(r:bY v u)
  (h:∀s',Inv X pins (σ.set i (some v)) H s'->Q () s')(hf:X.fn x=true\/X.env.scope.names.lookup x=some .local:=by first|exact .inl rfl|exact .inr rfl|assumption):wpAny M A (storeName X.env x u) Q E s:=
 pc I hN hi hx r (λs' I' _=>h s' I') hf
theorem Inv.call'{s':Shared}{ch:List Addr}(I:Inv X pins σ H s)(ho:s'.os=s.os)(u:Un (yN X.stack) ch H H' s.heap s'.heap)(hok:kf X.prog X.w H' s'.heap)(hg:AllBare s'.gens)
  (hch:∀b∈ch,(b∈X.ex\/X.s₀.heap.objs.size<=b)/\b≠X.env.locals/\(∀x c,X.env.cells.lookup x=some c->c≠b)/\∀p∈X.pn++pins,p.1≠b):Inv X pins σ H' s':=by
 obtain⟨h',g',d',t',o'⟩:=s';have e:o'=s.os:=ho;subst e;exact I.call (g':=g') (t':=t') (d':=d') u hok hg hch
end
abbrev XK:=Value->Option Addr->Hp->Prop
abbrev St:=List (Option V)
abbrev VK:=V->Hp->Prop
abbrev TE:=St->Hp->VK->Prop
abbrev TT:=St->Hp->(Bool->Hp->Prop)->Prop
abbrev TA:=St->Hp->(List V->Hp->Prop)->Prop
structure oB where
 nx:St->Hp->Prop
 rt:VK
 bk:St->Hp->Prop:=λ_ _=>False
 ct:St->Hp->Prop:=λ_ _=>False
abbrev TS:=oB->St->Hp->Prop
def EP(X:Cx)(pins:List (Addr×Obj))(σ:St)(Q:VK)(u:Value)(s':Shared):Prop:=∃v H',Inv X pins σ H' s'/\bY v u/\Q v H'
def TP(X:Cx)(pins:List (Addr×Obj))(σ:St)(Q:Bool->Hp->Prop)(b:Bool)(s':Shared):Prop:=∃H',Inv X pins σ H' s'/\Q b H'
def AP(X:Cx)(pins:List (Addr×Obj))(σ:St)(Q:List V->Hp->Prop)(us:List Value)(s':Shared):Prop:=∃vs H',Inv X pins σ H' s'/\cI vs us/\Q vs H'
def SP(X:Cx)(pins:List (Addr×Obj))(D:oB)(f:Flow)(s':Shared):Prop:=
 match f with
 |.next=>∃σ' H',Inv X pins σ' H' s'/\D.nx σ' H'
 |.brk=>∃σ' H',Inv X pins σ' H' s'/\D.bk σ' H'
 |.cont=>∃σ' H',Inv X pins σ' H' s'/\D.ct σ' H'
 |.ret u=>∃v σ' H',Inv X pins σ' H' s'/\bY v u/\D.rt v H'
def PE(X:Cx)(e:Expr)(t:TE):Prop:=
 ∀(pins:List (Addr×Obj))(s:Shared)(σ:St)(H:Hp)(Q:VK),Inv X pins σ H s->t σ H Q->wpAny (model X.prog X.w) X.A (eval e X.env) (EP X pins σ Q) X.xe s
def PT(X:Cx)(e:Expr)(t:TT):Prop:=
 ∀(pins:List (Addr×Obj))(s:Shared)(σ:St)(H:Hp)(Q:Bool->Hp->Prop),Inv X pins σ H s->t σ H Q->wpAny (model X.prog X.w) X.A (isTrue e X.env (eval e X.env)) (TP X pins σ Q) X.xe s
def PW(X:Cx)(e:Expr)(t:TT):Prop:=
 ∀(whole:Sem Value)(pins:List (Addr×Obj))(s:Shared)(σ:St)(H:Hp)(Q:Bool->Hp->Prop),Inv X pins σ H s->t σ H Q->wpAny (model X.prog X.w) X.A (isTrue e X.env whole) (TP X pins σ Q) X.xe s
theorem PW.pt{X:Cx}{e:Expr}{t:TT}(h:PW X e t):PT X e t:=h _
def PA(X:Cx)(es:List Expr)(t:TA):Prop:=
 ∀(pos:Pos)(pins:List (Addr×Obj))(s:Shared)(σ:St)(H:Hp)(Q:List V->Hp->Prop),Inv X pins σ H s->t σ H Q->wpAny (model X.prog X.w) X.A (spliced (backTo pos (starEach es X.env))) (AP X pins σ Q) X.xe s
def PS(X:Cx)(st:Stmt)(t:TS):Prop:=
 ∀(pins:List (Addr×Obj))(s:Shared)(σ:St)(H:Hp)(D:oB),Inv X pins σ H s->t D σ H->wpAny (model X.prog X.w) X.A (exec st X.env) (SP X pins D) X.xe s
def PSs(X:Cx)(st:List Stmt)(t:TS):Prop:=
 ∀(pins:List (Addr×Obj))(s:Shared)(σ:St)(H:Hp)(D:oB),Inv X pins σ H s->t D σ H->wpAny (model X.prog X.w) X.A (execs st X.env) (SP X pins D) X.xe s
theorem dr{α:Type}{t:Sem α}{Q Q':α->Shared->Prop}{M:Model}{A:Around}{E:Value->Shared->Prop}{s:Shared}(h:wpAny M A t Q E s)(hQ:∀a s,Q a s->Q' a s):wpAny M A t Q' E s:=d6 h hQ λ_ _ x=>x
end L2
namespace L2
open PySem PySem.Spec PyProof.Rows
section
variable{X:Cx}
def CB(i:Nat):TE:=λσ H Q=>∃v,σ[i]?=some (some v)/\Q v H
def tC(v:V):TE:=λ_ H Q=>Q v H
theorem EJ{i:Nat}{x:Str}{pos:Pos}(hN:X.N[i]?=some x)(hv:Hx X.env.scope x)(hd:(x==("__debug__":Str))=false:=by decide)(hcd:(x==("__classdict__":Str))=false:=by decide):PE X (.Name x pos) (CB i):=by
 intro pins s σ H Q I h;obtain⟨v,e,h⟩:=h;obtain⟨m,hn,hl⟩:=I.loc;obtain⟨u,r,l⟩:=hl i x v hN e hv;have fin:EP X pins σ Q u s:=⟨v,H,I,r,h⟩;rcases l with⟨hk,hm⟩|⟨hk,c,hc,hcell⟩
 ·exact wpAny_Name (wpAny_loadName_local I.ok.kind hk hn hm fin) hd
 ·rcases hk with hk|hk
  ·exact wpAny_Name (wpAny_loadName_cell I.ok.kind hk hc hcell fin) hd
  ·exact wpAny_Name (wpAny_loadName_free I.ok.kind hk hc hcell fin hcd) hd
theorem aD{i j pos}:PE X (.Constant (.int i) j pos) (tC (.int i)):=λ_ _ _ H _ I h=>wpAny_Constant_int ⟨.int i,H,I.tok _,⟨_,rfl⟩,h⟩
theorem jh{b j pos}:PE X (.Constant (.bool b) j pos) (tC (.bl b)):=λ_ _ _ H _ I h=>Constant_bool ⟨.bl b,H,I,rfl,h⟩
theorem h_{j pos}:PE X (.Constant .none j pos) (tC .non):=λ_ _ _ H _ I h=>Constant_none ⟨.non,H,I,rfl,h⟩
theorem bQ{x j pos}:PE X (.Constant (.str x) j pos) (tC (.str x)):=λ_ _ _ H _ I h=>Calls.Constant_str ⟨.str x,H,I.tok _,⟨_,rfl⟩,h⟩
def Gl(X:Cx)(x:Str):Prop:=X.env.kindOf x=some .globalImplicit
theorem qo{E:Value->Shared->Prop}{pins:List (Addr×Obj)}{s:Shared}{σ:St}{H:Hp}{x:Str}{u:Value}{pos:Pos}{Q:Value->Shared->Prop}(I:Inv X pins σ H s)(hg:Gl X x)(hm:X.mg x=some u)(h:Q u s)
  (hd:(x==("__debug__":Str))=false:=by decide):wpAny (model X.prog X.w) X.A (eval (.Name x pos) X.env) Q E s:=
 Calls.Name_function_global I.ok.kind hg (Calls.loadGlobal_global (by rw[I.ok.glob];exact I.mod.glob.keeps I.bk) hm h) hd
theorem ky{E:Value->Shared->Prop}{pins:List (Addr×Obj)}{s:Shared}{σ:St}{H:Hp}{x:Str}{u:Value}{pos:Pos}{Q:Value->Shared->Prop}(I:Inv X pins σ H s)(hg:Gl X x)(hm:X.mg x=none)(hv:bootBuiltins x=some u)(h:Q u s)
  (hn:x≠"__name__":=by decide)(hd:(x==("__debug__":Str))=false:=by decide):wpAny (model X.prog X.w) X.A (eval (.Name x pos) X.env) Q E s:=by
 obtain⟨mb,h1,h2⟩:=I.mod.blt;exact Calls.Name_function_global I.ok.kind hg (Calls.loadGlobal_builtin (by rw[I.ok.glob];exact I.mod.glob.keeps I.bk) hm (by rw[I.ok.blt];exact h1.keeps I.bk) ((h2 x hn).trans hv) h) hd
theorem C4{x:Str}{v:V}{u:Value}{pos:Pos}(hg:Gl X x)(hm:X.mg x=some u)(r:bY v u)(hd:(x==("__debug__":Str))=false:=by decide):PE X (.Name x pos) (tC v):=
 λ_ _ _ H _ I h=>qo I hg hm ⟨v,H,I,r,h⟩ hd
theorem C8{x:Str}{v:V}{u:Value}{pos:Pos}(hg:Gl X x)(hm:X.mg x=none)(hv:bootBuiltins x=some u)(r:bY v u)(hn:x≠"__name__":=by decide)(hd:(x==("__debug__":Str))=false:=by decide):PE X (.Name x pos) (tC v):=
 λ_ _ _ H _ I h=>ky I hg hm hv ⟨v,H,I,r,h⟩ hn hd
variable{a b:Expr}{ta tb:TE}{pos:Pos}
def PC(X:Cx)(op:CmpOp)(a b:Expr)(t:TE):Prop:=
 ∀(pins:List (Addr×Obj))(s:Shared)(σ:St)(H:Hp)(Q:VK),Inv X pins σ H s->t σ H Q->
  wpAny (model X.prog X.w) X.A (eval a X.env) (λv s₁=>wpAny (model X.prog X.w) X.A (eval b X.env) (λu s₂=>wpAny (model X.prog X.w) X.A (compareOp op v u) (EP X pins σ Q) X.xe s₂) X.xe s₁) X.xe s
theorem Bn(b:Expr){op:CmpOp}(h:op≠ .In)(h2:op≠ .NotIn):behindInMarks op b=false:=by
 have e1:(op==CmpOp.In)=false:=by cases op<;>first|rfl|exact absurd rfl h
 have e2:(op==CmpOp.NotIn)=false:=by cases op<;>first|rfl|exact absurd rfl h2
 cases b<;>simp[behindInMarks,e1,e2]
def GX(ta:TE):TE:=λσ H Q=>ta σ H λx H1=>Q (.bl (decide (x=.non))) H1
def FE(ta:TE):TE:=λσ H Q=>ta σ H λx H1=>Q (.bl (!decide (x=.non))) H1
theorem bY.none_iff{x:V}{v:Value}(r:bY x v):(v==Value.none)=decide (x=.non):=by
 cases x with
 |non=>cases r;rfl
 |bl _=>cases r;rfl
 |int _=>obtain⟨t,rfl⟩:=r;rfl
 |str _=>obtain⟨t,rfl⟩:=r;rfl
 |byt _=>obtain⟨t,rfl⟩:=r;rfl
 |flt _=>obtain⟨t,rfl⟩:=r;rfl
 |ref _=>cases r;rfl
 |ty _=>cases r;rfl
theorem AY{j pos'}(ha:PE X a ta):PC X .Is a (.Constant .none j pos') (GX ta):=by
 intro pins s σ H Q I h;refine dr (ha pins s σ H _ I h) λv s1⟨x,H1,I1,r1,q1⟩=>?_;exact Constant_none (is_none_gen ⟨.bl _,H1,I1,by rw[r1.none_iff];rfl,q1⟩)
theorem vU{j pos'}(ha:PE X a ta):PC X .IsNot a (.Constant .none j pos') (FE ta):=by
 intro pins s σ H Q I h;refine dr (ha pins s σ H _ I h) λv s1⟨x,H1,I1,r1,q1⟩=>?_;exact Constant_none (isnot_none_gen ⟨.bl _,H1,I1,by rw[r1.none_iff];rfl,q1⟩)
def tB(t:TE):TT:=λσ H Q=>t σ H λx H1=>∃c,x=.bl c/\Q c H1
theorem gc{op:CmpOp}{t:TE}(h:PC X op a b t)(h1:behindInMarks op b=false:=by first|exact Bn _ Qd Qd|rfl):PT X (.Compare a [op] [b] pos) (tB t):=by
 intro pins s σ H Q I hw;refine Cr (dr (h pins s σ H _ I hw) λv s1 h1=>dr h1 λu s2 h2=>dr h2 λc s3⟨x,H1,I1,r1,q1⟩=>?_) h1;obtain⟨d,rfl,q⟩:=q1;cases r1;exact cR ⟨H1,I1,q⟩
theorem cY{e:Expr}{t:TE}(h:PE X e t)(he:∀whole,isTrue e X.env whole=(do let v<-whole;standAt e.pos;holding [v] (truthy v)):=by intro _;rfl):PT X e (tB t):=by
 intro pins s σ H Q I hw;refine isTrue_plain (dr (h pins s σ H _ I hw) λv s1⟨x,H1,I1,r1,q1⟩=>?_) (he _);obtain⟨d,rfl,q⟩:=q1;cases r1;exact cR ⟨H1,I1,q⟩
variable{tA tB':TT}{rest:List Expr}
def G6(t u:TT):TT:=λσ H Q=>t σ H λc H1=>if c=true then u σ H1 Q else Q false H1
def Id(t u:TT):TT:=λσ H Q=>t σ H λc H1=>if c=true then Q true H1 else u σ H1 Q
def GV(t:TT):TT:=λσ H Q=>t σ H λc H1=>Q (!c) H1
theorem kT(ha:PT X a tA):PW X (.BoolOp .And [a] pos) tA:=by
 intro wh pins s σ H Q I h;refine isTrue_and (dr (ha pins s σ H Q I h) λc s1 e=>?_);cases c with
 |true=>exact isTrue_and_nil e
 |false=>exact e
theorem iS(ha:PT X a tA):PW X (.BoolOp .Or [a] pos) tA:=by
 intro wh pins s σ H Q I h;refine isTrue_or (dr (ha pins s σ H Q I h) λc s1 e=>?_);cases c with
 |false=>exact isTrue_or_nil e
 |true=>exact e
theorem nz(ha:PT X a tA)(hb:PW X (.BoolOp .And (b::rest) pos) tB'):PW X (.BoolOp .And (a::b::rest) pos) (G6 tA tB'):=by
 intro wh pins s σ H Q I h;refine isTrue_and (dr (ha pins s σ H _ I h) λc s1⟨H1,I1,q1⟩=>?_);cases c with
 |true=>exact hb wh pins s1 σ H1 Q I1 q1
 |false=>exact⟨H1,I1,q1⟩
theorem jg(ha:PT X a tA)(hb:PW X (.BoolOp .Or (b::rest) pos) tB'):PW X (.BoolOp .Or (a::b::rest) pos) (Id tA tB'):=by
 intro wh pins s σ H Q I h;refine isTrue_or (dr (ha pins s σ H _ I h) λc s1⟨H1,I1,q1⟩=>?_);cases c with
 |true=>exact⟨H1,I1,q1⟩
 |false=>exact hb wh pins s1 σ H1 Q I1 q1
theorem dB(ha:PT X a tA):PT X (.UnaryOp .Not a pos) (GV tA):=by
 intro pins s σ H Q I h;exact isTrue_not (ha pins s σ H (λc H1=>Q (!c) H1) I h)
def FO(ta tb:TE):TE:=λσ H Q=>ta σ H λx H1=>∃c,x=.bl c/\if c=true then tb σ H1 Q else Q (.bl false) H1
def GU(ta tb:TE):TE:=λσ H Q=>ta σ H λx H1=>∃c,x=.bl c/\if c=true then Q (.bl true) H1 else tb σ H1 Q
def FD(ta:TE):TE:=λσ H Q=>ta σ H λx H1=>∃c,x=.bl c/\Q (.bl (!c)) H1
theorem iU{op}{t:TE}(h:PE X a t):PE X (.BoolOp op [a] pos) t:=λpins s σ H Q I hw=>BoolOp_one (h pins s σ H Q I hw)
theorem iV(ha:PE X a ta)(hb:PE X (.BoolOp .And (b::rest) pos) tb):PE X (.BoolOp .And (a::b::rest) pos) (FO ta tb):=by
 intro pins s σ H Q I h;refine BoolOp_and (dr (ha pins s σ H _ I h) λv s1⟨x,H1,I1,r1,q1⟩=>?_);obtain⟨c,rfl,q1⟩:=q1;cases r1;refine cR ?_;cases c with
 |true=>exact hb pins s1 σ H1 Q I1 q1
 |false=>exact⟨.bl false,H1,I1,rfl,q1⟩
theorem D8(ha:PE X a ta)(hb:PE X (.BoolOp .Or (b::rest) pos) tb):PE X (.BoolOp .Or (a::b::rest) pos) (GU ta tb):=by
 intro pins s σ H Q I h;refine BoolOp_or (dr (ha pins s σ H _ I h) λv s1⟨x,H1,I1,r1,q1⟩=>?_);obtain⟨c,rfl,q1⟩:=q1;cases r1;refine cR ?_;cases c with
 |false=>exact hb pins s1 σ H1 Q I1 q1
 |true=>exact⟨.bl true,H1,I1,rfl,q1⟩
theorem AQ(ha:PE X a ta):PE X (.UnaryOp .Not a pos) (FD ta):=by
 intro pins s σ H Q I h;refine UnaryOp_ (dr (ha pins s σ H _ I h) λv s1⟨x,H1,I1,r1,q1⟩=>?_);obtain⟨c,rfl,q1⟩:=q1;cases r1;exact not_of (cR ⟨.bl (!c),H1,I1,rfl,q1⟩)
def Ie(t:TT)(ta tb:TE):TE:=λσ H Q=>t σ H λc H1=>if c=true then ta σ H1 Q else tb σ H1 Q
theorem gD{c:Expr}(hc:PT X c tA)(ha:PE X a ta)(hb:PE X b tb):PE X (.IfExp c a b pos) (Ie tA ta tb):=by
 intro pins s σ H Q I h;refine wpAny_IfExp (dr (hc pins s σ H _ I h) λd s1⟨H1,I1,q1⟩=>?_);cases d with
 |true=>exact ha pins s1 σ H1 Q I1 q1
 |false=>exact hb pins s1 σ H1 Q I1 q1
end
end L2
namespace L2
open PySem PySem.Spec PyProof.Rows
def SqL(K:ag)(H:Hp)(a:Addr)(xs:List V):Prop:=
 Rd H a (.lst xs)\/
  ∃(o:Obj)(its:Array Value)(n:Nat),K.lookup a=some o/\o.cls=.type "list"/\o.dict=none/\o.data=.seq its n/\its.size<=sizeLine/\cI xs its.toList
def cG(K:ag)(H:Hp)(a:Addr)(xs:List V):Prop:=
 Rd H a (.tup xs)\/
  ∃(o:Obj)(its:Array Value)(n:Nat),K.lookup a=some o/\o.cls=.type "tuple"/\o.data=.seq its n/\its.size<=sizeLine/\cI xs its.toList
def Hv:Value->Option V
 |.none=>some .non
 |.bool b=>some (.bl b)
 |.int i _=>some (.int i)
 |.str x _=>some (.str x)
 |.bytes b _=>some (.byt b)
 |.float b _=>some (.flt b)
 |.ref a=>some (.ref a)
 |.type n=>some (.ty n)
 |_=>none
theorem bY.abs{x:V}{u:Value}(r:bY x u):Hv u=some x:=by
 cases x with
 |non=>cases r;rfl
 |bl _=>cases r;rfl
 |int _=>obtain⟨t,rfl⟩:=r;rfl
 |str _=>obtain⟨t,rfl⟩:=r;rfl
 |byt _=>obtain⟨t,rfl⟩:=r;rfl
 |flt _=>obtain⟨t,rfl⟩:=r;rfl
 |ref _=>cases r;rfl
 |ty _=>cases r;rfl
theorem bY.inj{x y:V}{u:Value}(r:bY x u)(q:bY y u):x=y:=Option.some.inj (r.abs.symm.trans q.abs)
theorem cI.inj:∀{xs ys:List V}{us:List Value},cI xs us->cI ys us->xs=ys
 |_,_,_,.nil,.nil=>rfl
 |_,_,_,.cons r t,.cons r' t'=>by rw[r.inj r',cI.inj t t']
section
variable{X:Cx}{pins:List (Addr×Obj)}{σ:St}{H:Hp}{s:Shared}{a:Addr}{xs ys:List V}
theorem SqL.of{K:ag}(h:H a=some (.lst xs)):SqL K H a xs:=.inl (.inl h)
theorem cG.of{K:ag}(h:H a=some (.tup xs)):cG K H a xs:=.inl (.inl h)
theorem Inv.list(I:Inv X pins σ H s)(h:SqL X.K H a xs):∃its:List Value,cI xs its/\PlainL s.heap a its.toArray/\xs.length<=sizeLine:=by
 rcases h with h|⟨o,its,n,hk,hc,hd,hs,hz,r⟩
 ·obtain⟨z,its,n,r,e⟩:=h.ok I.hok;exact⟨its,r,⟨_,n,e,rfl,rfl,rfl⟩,z⟩
 ·refine⟨its.toList,r,⟨o,n,I.kIn a o hk,hc,hd,by simpa using hs⟩,?_⟩;have e:=r.length;simp only[eT]at e;omega
theorem Inv.tuple(I:Inv X pins σ H s)(h:cG X.K H a xs):∃its:List Value,cI xs its/\IsTup s.heap a its.toArray/\xs.length<=sizeLine:=by
 rcases h with h|⟨o,its,n,hk,hc,hs,hz,r⟩
 ·obtain⟨z,its,r,p⟩:=h.ok I.hok;exact⟨its,r,p,z⟩
 ·refine⟨its.toList,r,⟨o,I.kIn a o hk,hc,n,by simpa using hs⟩,?_⟩;have e:=r.length;simp only[eT]at e;omega
theorem Inv.list_inj(I:Inv X pins σ H s)(h:SqL X.K H a xs)(h':SqL X.K H a ys):xs=ys:=by
 obtain⟨its,r,⟨o,n,e,_,_,d⟩,_⟩:=I.list h;obtain⟨its',r',⟨o',n',e',_,_,d'⟩,_⟩:=I.list h';rw[e]at e';cases e';rw[d]at d';injection d' with d1 _
 have:its=its':=by simpa using b6 Array.toList d1
 subst this;exact r.inj r'
theorem Inv.tuple_inj(I:Inv X pins σ H s)(h:cG X.K H a xs)(h':cG X.K H a ys):xs=ys:=by
 obtain⟨its,r,⟨o,e,_,n,d⟩,_⟩:=I.tuple h;obtain⟨its',r',⟨o',e',_,n',d'⟩,_⟩:=I.tuple h';rw[e]at e';cases e';rw[d]at d';injection d' with d1 _
 have:its=its':=by simpa using b6 Array.toList d1
 subst this;exact r.inj r'
end
abbrev Cx.wish(X:Cx)(E:Value->Shared->Prop):Cx:={X with xe:=E}
abbrev Cx.nox(X:Cx):Cx:=X.wish λ_ _=>False
theorem Cx.Ok.wish{X:Cx}(ok:X.Ok)(E:Value->Shared->Prop):(X.wish E).Ok :=
 ⟨ok.mod,ok.kind,ok.glob,ok.blt,ok.above,ok.inj,ok.has,ok.cab,ok.hd,ok.frames,ok.stk,ok.exf,ok.bs,ok.bsz,ok.noex,ok.exfs,ok.funs,ok.frf⟩
theorem Cx.Ok.unwish{X:Cx}{E:Value->Shared->Prop}(ok:(X.wish E).Ok):X.Ok:=
 ⟨ok.mod,ok.kind,ok.glob,ok.blt,ok.above,ok.inj,ok.has,ok.cab,ok.hd,ok.frames,ok.stk,ok.exf,ok.bs,ok.bsz,ok.noex,ok.exfs,ok.funs,ok.frf⟩
section
variable{X:Cx}{pins:List (Addr×Obj)}{σ:St}{H:Hp}{s:Shared}{E:Value->Shared->Prop}
theorem Inv.wish(I:Inv X pins σ H s)(E:Value->Shared->Prop):Inv (X.wish E) pins σ H s:=⟨I.ok.wish E,I.os,I.bare,I.base,I.loc,I.cell,I.free,I.freeC,I.pin,I.hok,I.len⟩
theorem Inv.unwish(I:Inv (X.wish E) pins σ H s):Inv X pins σ H s:=⟨I.ok.unwish,I.os,I.bare,I.base,I.loc,I.cell,I.free,I.freeC,I.pin,I.hok,I.len⟩
theorem SP.unwish{D:oB}{f:Flow}{s':Shared}(h:SP (X.wish E) pins D f s'):SP X pins D f s':=by
 cases f with
 |next=>obtain⟨σ',H',I,q⟩:=h;exact⟨σ',H',I.unwish,q⟩
 |brk=>obtain⟨σ',H',I,q⟩:=h;exact⟨σ',H',I.unwish,q⟩
 |cont=>obtain⟨σ',H',I,q⟩:=h;exact⟨σ',H',I.unwish,q⟩
 |ret u=>obtain⟨v,σ',H',I,r,q⟩:=h;exact⟨v,σ',H',I.unwish,r,q⟩
theorem PSs.nox{st:List Stmt}{t:TS}(h:PSs X.nox st t):PSs X st t:=λpins s σ H D I hw=>
 d6 (h pins s σ H D (I.wish _) hw) (λ_ _ q=>q.unwish) λ_ _ z=>False.elim z
end
section
variable{X:Cx}{st:Stmt}{rest:List Stmt}{t u:TS}{e:Expr}{te:TE}{pos:Pos}
def FF:TS:=λD σ H=>D.nx σ H
def cA(t u:TS):TS:=λD σ H=>t {D with nx:=u D} σ H
theorem bF:PSs X [] FF:=λ_ _ σ H _ I h=>kM ⟨σ,H,I,h⟩
theorem ax(h1:PS X st t)(h2:PSs X rest u):PSs X (st::rest) (cA t u):=by
 intro pins s σ H D I h;refine qD (dr (h1 pins s σ H {D with nx:=u D} I h) λf s1 q=>?_);cases f with
 |next=>
  obtain⟨σ',H',I',q⟩:=q;exact h2 pins s1 σ' H' D I' q
 |ret v=>exact q
 |brk=>exact q
 |cont=>exact q
theorem aS(h1:PS X st t):PSs X [st] t:=by
 intro pins s σ H D I h;refine qD (dr (h1 pins s σ H D I h) λf s1 q=>?_);cases f with
 |next=>exact kM q
 |ret v=>exact q
 |brk=>exact q
 |cont=>exact q
theorem Inv.quiet{pins:List (Addr×Obj)}{σ:St}{H:Hp}{s:Shared}(I:Inv X pins σ H s):interactive X.env=false:=by simp[interactive,I.ok.kind]
def FJ(te:TE):TS:=λD σ H=>te σ H λ_ H1=>D.nx σ H1
theorem du(he:PE X e te)(hs:swapsWith e none pos.line X.env=pure false:=by rfl):PS X (.Expr e pos) (FJ te):=by
 intro pins s σ H D I h;exact wpAny_Expr_any (dr (he pins s σ H _ I h) λv s1⟨x,H1,I1,r1,q1⟩=>⟨σ,H1,I1,q1⟩) I.quiet hs
def GT(te:TE):TS:=λD σ H=>te σ H D.rt
theorem bC(he:PE X e te):PS X (.Return (some e) pos) (GT te):=by
 intro pins s σ H D I h;exact wpAny_Return_some (dr (he pins s σ H _ I h) λv s1⟨x,H1,I1,r1,q1⟩=>⟨x,σ,H1,I1,r1,q1⟩)
def GY(c:TT)(t u:TS):TS:=λD σ H=>c σ H λb H1=>if b=true then t D σ H1 else u D σ H1
theorem b9{c:Expr}{a b:List Stmt}{tc:TT}(hc:PT X c tc)(ha:PSs X a t)(hb:PSs X b u):PS X (.If c a b pos) (GY tc t u):=by
 intro pins s σ H D I h;refine wpAny_If (dr (hc pins s σ H _ I h) λd s1⟨H1,I1,q1⟩=>?_);cases d with
 |true=>exact ha pins s1 σ H1 D I1 q1
 |false=>exact hb pins s1 σ H1 D I1 q1
def Aa:TS:=λ_ _ _=>False
theorem eB:PS X st Aa:=λ_ _ _ _ _ _ h=>h.elim
theorem gY{sts:List Stmt}:PSs X sts Aa:=λ_ _ _ _ _ _ h=>h.elim
end
abbrev TG:=V->St->Hp->(St->Hp->Prop)->Prop
abbrev Ek:=List V->St->Hp->(St->Hp->Prop)->Prop
def PG(X:Cx)(target:Expr)(t:TG):Prop:=
 ∀(pins:List (Addr×Obj))(s:Shared)(σ:St)(H:Hp)(v:V)(u:Value)(Q:St->Hp->Prop),Inv X pins σ H s->bY v u->t v σ H Q->
  wpAny (model X.prog X.w) X.A (assign target X.env u) (λ_ s'=>∃σ' H',Inv X pins σ' H' s'/\Q σ' H') X.xe s
def Gz(X:Cx)(ts:List Expr)(t:Ek):Prop:=
 ∀(pins:List (Addr×Obj))(s:Shared)(σ:St)(H:Hp)(vs:List V)(us:List Value)(Q:St->Hp->Prop),Inv X pins σ H s->cI vs us->t vs σ H Q->
  wpAny (model X.prog X.w) X.A (assignInOrder ((assignEach ts X.env).map (·.2)) us) (λ_ s'=>∃σ' H',Inv X pins σ' H' s'/\Q σ' H') X.xe s
section
variable{X:Cx}{pos:Pos}
def rO(i:Nat):TG:=λv σ H Q=>Q (σ.set i (some v)) H
theorem be{i:Nat}{x:Str}(hN:X.N.Nodup)(hi:X.N[i]?=some x)(hx:GO X.env.scope x)(hf:X.fn x=true\/X.env.scope.names.lookup x=some .local:=by first|exact .inl rfl|exact .inr rfl|assumption):PG X (.Name x pos) (rO i):=by
 intro pins s σ H v u Q I r h;exact wpAny_assign_Name (qS I hN hi hx r (λs' I'=>⟨_,H,I',h⟩) hf)
def Hr:Ek:=λvs σ H Q=>vs=[]/\Q σ H
def Gi(t:TG)(u:Ek):Ek:=λvs σ H Q=>∃v r,vs=v::r/\t v σ H λσ' H'=>u r σ' H' Q
theorem dI:Gz X [] Hr:=by
 intro pins s σ H vs us Q I r h;obtain⟨e,h⟩:=h;subst e;cases r;exact assignInOrder_nil ⟨σ,H,I,h⟩
theorem bq{e:Expr}{es:List Expr}{t:TG}{u:Ek}(h1:PG X e t)(h2:Gz X es u)
  (hs:(assignEach (e::es) X.env).map (·.2)=assign e X.env::(assignEach es X.env).map (·.2):=by rfl):Gz X (e::es) (Gi t u):=by
 intro pins s σ H vs us Q I r h;obtain⟨v,vr,e1,h⟩:=h;subst e1;cases r with
 |cons r rr=>
  rw[hs];refine assignInOrder_cons (dr (h1 pins s σ H _ _ _ I r h) λ_ s1⟨σ1,H1,I1,q1⟩=>?_);exact h2 pins s1 σ1 H1 _ _ Q I1 rr q1
def Gh(K:ag)(n:Nat)(t:Ek):TG:=λv σ H Q=>∃a xs,v=.ref a/\cG K H a xs/\xs.length=n/\t xs σ H Q
theorem ge{es:List Expr}{k:Nat}{t:Ek}{n:Nat}(hc:X.calm=true)(h:Gz X es t)
  (hn:(assignEach es X.env).length=n:=by rfl)(hst:(assignEach es X.env).findIdx? (·.1)=none:=by rfl):PG X (.Tuple es k pos) (Gh X.K n t):=by
 intro pins s σ H v u Q I r hw;obtain⟨a,xs,e1,hq,hl,hw⟩:=hw;subst e1;cases r;obtain⟨its,rv,ht,hz⟩:=I.tuple hq;refine assign_Tuple_tuple (I.ok.hd hc) ht (by simp[hn,<-hl,rv.length]) hst λh' hx=>?_;have I1:Inv X pins σ H {s with heap:=h'}:=I.kept (t':=s.toks) λb o e=>hx b o (bp (bh e)) e;exact h pins _ σ H xs _ Q I1 (by simpa using rv) hw
def EF(te:TE)(g:TG):TS:=λD σ H=>te σ H λx H1=>g x σ H1 D.nx
theorem tj{tg e:Expr}{te:TE}{g:TG}(he:PE X e te)(hg:PG X tg g)(hs:swapsWithSole [tg] e pos.line X.env=pure false:=by rfl)(hw:swappedStores [tg] e X.env=pure none:=by rfl)
  (h1:(assignEach [tg] X.env).map (·.2)=[assign tg X.env]:=by rfl):PS X (.Assign [tg] e pos) (EF te g):=by
 intro pins s σ H D I h;refine wpAny_Assign_stores (dr (he pins s σ H _ I h) λv s1⟨x,H1,I1,r1,q1⟩=>?_) hs hw;rw[h1];exact dr (hg pins s1 σ H1 x v _ I1 r1 q1) λ_ s2 q=>q
theorem bH{i:Nat}{x:Str}{e:Expr}{te:TE}{pos':Pos}(hN:X.N.Nodup)(hi:X.N[i]?=some x)(hx:GO X.env.scope x)(he:PE X e te)(hs:swapsWith e (some (.Name x pos')) pos.line X.env=pure false:=by rfl)(hf:X.fn x=true\/X.env.scope.names.lookup x=some .local:=by first|exact .inl rfl|exact .inr rfl|assumption):
  PS X (.Assign [.Name x pos'] e pos) (EF te (rO i)):=by
 intro pins s σ H D I h;refine wpAny_Assign_Name (dr (he pins s σ H _ I h) λv s1⟨y,H1,I1,r1,q1⟩=>?_) hs;exact qS I1 hN hi hx r1 (λs2 I2=>⟨_,H1,I2,q1⟩) hf
end
section
variable{X:Cx}{pos:Pos}
def Ev(c:TT)(tb:TS):TS:=λD σ H=>∃W:Nat->St->Hp->Prop,(∃m,W m σ H)/\∀m σ H,W m σ H->
 c σ H λb H1=>if b=true then∃N:St->Hp->Prop,(∀σ' H',N σ' H'->∃m',m'<m/\W m' σ' H')/\tb {D with nx:=N,ct:=N,bk:=D.nx} σ H1 else D.nx σ H1
theorem nA{c:Expr}{body:List Stmt}{tc:TT}{tb:TS}(hp:PassesOwn (model X.prog X.w) X.A X.env X.xe)(hc:PT X c tc)(hb:PSs X body tb):PS X (.While c body [] pos) (Ev tc tb):=by
 intro pins s σ H D I h;obtain⟨W,⟨m0,w0⟩,turn⟩:=h;refine wpAny_While (codeAny_whileLoop (λn s'=>∃σ' H',Inv X pins σ' H' s'/\W n σ' H') ?_ m0 ⟨σ,H,I,w0⟩);rintro n s1⟨σ1,H1,I1,w1⟩;refine fB hp (dr (hc pins s1 σ1 H1 _ I1 (turn n σ1 H1 w1)) λb s2⟨H2,I2,q2⟩=>?_);cases b with
 |true=>
  obtain⟨N,hN,q2⟩:=q2;rw[bc rfl];refine fB hp (dr (hb pins s2 σ1 H2 _ I2 q2) λf s3 q3=>?_);cases f with
  |next=>
   obtain⟨σ3,H3,I3,n3⟩:=q3;obtain⟨m',hm,w3⟩:=hN σ3 H3 n3;exact⟨m',hm,σ3,H3,I3,w3⟩
  |cont=>
   obtain⟨σ3,H3,I3,n3⟩:=q3;obtain⟨m',hm,w3⟩:=hN σ3 H3 n3;exact⟨m',hm,σ3,H3,I3,w3⟩
  |brk=>exact q3
  |ret v=>exact q3
 |false=>
  rw[aM aG];exact kM ⟨σ1,H2,I2,q2⟩
end
structure It where
 go:Nat->Hp->Prop
 yld:Nat->Hp->V->Hp->Prop
 stop:Nat->Hp->Prop
def lA(X:Cx)(pins:List (Addr×Obj))(H:Hp)(b:Addr):Prop:=
 H b=none/\b≠X.env.locals/\b∉X.fs/\(b∈X.ex\/X.s₀.heap.objs.size<=b)/\(∀x c,X.env.cells.lookup x=some c->c≠b)/\∀p∈X.pn++pins,p.1≠b
theorem Inv.fpOk{X:Cx}{pins:List (Addr×Obj)}{σ:St}{H H':Hp}{s:Shared}{b:Addr}(I:Inv X pins σ H s)(hb:s.heap.objs.size<=b)(hn:H' b=none):lA X pins H' b:=by
 refine⟨hn,Ck (bR I.lt hb),I.nofs hb,.inr (ay I.sz hb),λx c e z=>?_,λp hp z=>?_⟩
 ·obtain⟨v,q⟩:=I.cell x c e;exact absurd (bR q.lt (by rw[z];exact hb)) (dW _)
 ·exact absurd (bR (bh (I.pin p hp).1) (by rw[z];exact hb)) (dW _)
structure sk(P:Program)(w:World)(K:ag)(tg:Expr)(J:It)(fp:List Addr)(it:Addr)(tn:Nat->Heap->Prop):Prop where
 mem:it∈fp
 obj:∀i h,tn i h->∀b∈fp,∃o,h.get? b=some o/\∀v,o.data≠ .cell v
 keep:∀i h h',tn i h->(∀b∈fp,∀o,h.get? b=some o->h'.get? b=some o)->tn i h'
 item:∀(X:Cx),X.prog=P->X.w=w->X.K=K->X.calm=true->∀(i:Nat)(pins:List (Addr×Obj))(s:Shared)(σ:St)(H:Hp)(E:Value->Shared->Prop),Inv X pins σ H s->(∀b∈fp,lA X pins H b)->tn i s.heap->J.go i H->
  wpAny (model P w) X.A (pyNext (.ref it)) (λr s1=>∃u,r=some u/\
   wpAny (model P w) X.A (letOwnedTupleGo tg (.ref it) u) (λ_ s2=>∃x H',Inv X pins σ H' s2/\bY x u/\J.yld i H x H'/\tn (i+1) s2.heap/\∀b∈fp,H' b=none) E s1) E s
 done:∀(X:Cx),X.prog=P->X.w=w->X.K=K->X.calm=true->∀(i:Nat)(pins:List (Addr×Obj))(s:Shared)(σ:St)(H:Hp)(E:Value->Shared->Prop),Inv X pins σ H s->(∀b∈fp,lA X pins H b)->tn i s.heap->J.stop i H->
  wpAny (model P w) X.A (pyNext (.ref it)) (λr s1=>r=none/\Inv X pins σ H s1) E s
 self:∀(A:Around)(i:Nat)(s:Shared)(Q:Value->Shared->Prop)(E:Value->Shared->Prop),tn i s.heap->Q (.ref it) s->wpAny (model P w) A (pyIter (.ref it)) Q E s
abbrev TI:=St->Hp->(It->Hp->Prop)->Prop
def GN(X:Cx)(pins:List (Addr×Obj))(σ:St)(tg:Expr)(R:It->Hp->Prop)(itv:Value)(s2:Shared):Prop:=
 ∃(it:Addr)(fp:List Addr)(tn:Nat->Heap->Prop)(J:It)(H':Hp),itv=.ref it/\Inv X pins σ H' s2/\sk X.prog X.w X.K tg J fp it tn/\tn 0 s2.heap/\(∀b∈fp,lA X pins H' b)/\R J H'
def PI(X:Cx)(tg iter:Expr)(wi:TI):Prop:=
 ∀(pins:List (Addr×Obj))(s:Shared)(σ:St)(H:Hp)(R:It->Hp->Prop),Inv X pins σ H s->wi σ H R->
  wpAny (model X.prog X.w) X.A (eval iter X.env) (λv s1=>wpAny (model X.prog X.w) X.A (pyIter v) (GN X pins σ tg R) X.xe s1) X.xe s
theorem rL{M:Model}{A:Around}{E:Value->Shared->Prop}{s:Shared}{tg:Expr}{it:Addr}{u:Value}{o:Obj}{n:String}{vs:Array Value}{Q:Unit->Shared->Prop}(ho:s.heap.get? it=some o)(hc:o.cls=.type n)(hd:o.data=.fields vs)
    (hn:["enumerate","zip","dict_itemiterator","dict_reverseitemiterator","odict_iterator","itertools.zip_longest","itertools.pairwise"].contains n=false)(hQ:Q () s):wpAny M A (letOwnedTupleGo tg (.ref it) u) Q E s:=by
  unfold letOwnedTupleGo;cases tg<;>first
    |exact aX hQ
    |(cases u<;>first
        |exact aX hQ
        | (refine ak (wpAny_load ho ?_)
           rw[hc,hd];show wpAny M A (if(["enumerate","zip","dict_itemiterator","dict_reverseitemiterator","odict_iterator","itertools.zip_longest","itertools.pairwise"].contains n&&vs[0]? ==some (rawInt _))=true then _ else _) Q E s;rw[aM (by intro h;rw[hn,lZ]at h;cases h)];exact aX hQ))
def El(K:ag)(a:Addr):It:=
 ⟨λi H=>∃xs x,SqL K H a xs/\xs[i]?=some x,λi H x H'=>H'=H/\∀xs,SqL K H a xs->xs[i]?=some x,λi H=>∃xs,SqL K H a xs/\xs.length<=i⟩
def Fx(K:ag)(a:Addr):It:=
 ⟨λi H=>∃xs x,cG K H a xs/\xs[i]?=some x,λi H x H'=>H'=H/\∀xs,cG K H a xs->xs[i]?=some x,λi H=>∃xs,cG K H a xs/\xs.length<=i⟩
def Fs(lo:Int)(n:Nat):It:=⟨λi _=>i<n,λi H x H'=>H'=H/\x=.int (lo+i),λi _=>n<=i⟩
theorem wY{P:Program}{w:World}{K:ag}{tg:Expr}(a it:Addr):sk P w K tg (El K a) [it] it (λi h=>h.IsListIter it a i) where
 mem:=Qs
 obj:=λi h st b hb=>by
  have e:b=it:=by simpa using hb
  subst e;obtain⟨o,e,c,d⟩:=st;exact⟨o,e,λv z=>by rw[d]at z;cases z⟩
 keep:=λi h h' st k=>st.at λo e=>k it Qs o e
 item:=by
  intro X hP hw hK hc i pins s σ H E I hf st hg;subst hP hw hK;obtain⟨xs,x,hq,hx⟩:=hg;obtain⟨its,rv,p,hz⟩:=I.list hq;obtain⟨u,hu,ru⟩:=rv.get hx;obtain⟨f0,f1,f2,f3,f4,f5⟩:=hf it Qs;refine wpAny_pyNext_list_item st p.isList (x:=u) (by simpa using hu) λh' st' sb=>?_;have I1:Inv X pins σ H {s with heap:=h'}:=I.turned (t':=s.toks) (λb o hb e=>(sb.2 b hb).trans e) f0 f1 f3 f4 f5;obtain⟨o,e,c,d⟩:=id st';exact⟨u,rfl,rL (s:={s with heap:=h'}) e c d Qd ⟨x,H,I1,ru,⟨rfl,λys hy=>by rw[I.list_inj hy hq];exact hx⟩,st',λb hb=>(hf b hb).1⟩⟩
 done:=by
  intro X hP hw hK hc i pins s σ H E I hf st hg;subst hP hw hK;obtain⟨xs,hq,hx⟩:=hg;obtain⟨its,rv,p,hz⟩:=I.list hq;obtain⟨f0,f1,f2,f3,f4,f5⟩:=hf it Qs;have hl:=rv.length;exact wpAny_pyNext_list_end (I.ok.hd hc) st p.isList (by simp;omega) λh' eb=>⟨rfl,I.turned (t':=s.toks) (λb o hb e=>eb b o hb e) f0 f1 f3 f4 f5⟩
 self:=λ_ _ _ _ _ st h=>wpAny_pyIter_listiter st h
theorem sJ{P:Program}{w:World}{K:ag}{tg:Expr}(a it:Addr):sk P w K tg (Fx K a) [it] it (λi h=>h.IsTupleIter it a i) where
 mem:=Qs
 obj:=λi h st b hb=>by
  have e:b=it:=by simpa using hb
  subst e;obtain⟨o,e,c,d⟩:=st;exact⟨o,e,λv z=>by rw[d]at z;cases z⟩
 keep:=λi h h' st k=>st.at λo e=>k it Qs o e
 item:=by
  intro X hP hw hK hc i pins s σ H E I hf st hg;subst hP hw hK;obtain⟨xs,x,hq,hx⟩:=hg;obtain⟨its,rv,p,hz⟩:=I.tuple hq;obtain⟨u,hu,ru⟩:=rv.get hx;obtain⟨f0,f1,f2,f3,f4,f5⟩:=hf it Qs;refine wpAny_pyNext_tuple_item st (show s.heap.IsTuple a its.toArray from p) (x:=u) (by simpa using hu) λh' st' sb=>?_;have I1:Inv X pins σ H {s with heap:=h'}:=I.turned (t':=s.toks) (λb o hb e=>(sb.2 b hb).trans e) f0 f1 f3 f4 f5;obtain⟨o,e,c,d⟩:=id st';exact⟨u,rfl,rL (s:={s with heap:=h'}) e c d Qd ⟨x,H,I1,ru,⟨rfl,λys hy=>by rw[I.tuple_inj hy hq];exact hx⟩,st',λb hb=>(hf b hb).1⟩⟩
 done:=by
  intro X hP hw hK hc i pins s σ H E I hf st hg;subst hP hw hK;obtain⟨xs,hq,hx⟩:=hg;obtain⟨its,rv,p,hz⟩:=I.tuple hq;obtain⟨f0,f1,f2,f3,f4,f5⟩:=hf it Qs;have hl:=rv.length;exact wpAny_pyNext_tuple_end (I.ok.hd hc) st (show s.heap.IsTuple a its.toArray from p) (by simp;omega) λh' eb=>⟨rfl,I.turned (t':=s.toks) (λb o hb e=>eb b o hb e) f0 f1 f3 f4 f5⟩
 self:=λ_ _ _ _ _ st h=>wpAny_pyIter_tupleiter st h
theorem sK{P:Program}{w:World}{K:ag}{tg:Expr}(it:Addr)(lo:Int)(n:Nat):sk P w K tg (Fs lo n) [it] it (λi h=>IsRangeIter h it (lo+(i:Nat)*1) ((n:Int)-(i:Nat)) 1) where
 mem:=Qs
 obj:=λi h st b hb=>by
  have e:b=it:=by simpa using hb
  subst e;exact⟨_,st,λv z=>by
   have z':Data.fields _=Data.cell v:=z;cases z'⟩
 keep:=λi h h' st k=>k it Qs _ st
 item:=by
  intro X hP hw hK hc i pins s σ H E I hf st hg;subst hP hw hK;obtain⟨f0,f1,f2,f3,f4,f5⟩:=hf it Qs;have W:=Walks.range (prog:=X.prog) (w:=X.w) (I.ok.hd hc) it lo 1 n;refine W.item i s _ _ hg st λv h' tk hv st' kk=>?_;obtain⟨t,rfl⟩:=hv;have I1:Inv X pins σ H {s with heap:=h',toks:=tk}:=I.turned (λb o hb e=>kk b o (by simpa using hb) e) f0 f1 f3 f4 f5;refine⟨_,rfl,rL (s:={s with heap:=h',toks:=tk}) (n:="range_iterator") st' rfl rfl Qd ⟨.int (lo+i),H,I1,⟨t,?_⟩,⟨rfl,rfl⟩,st',λb hb=>(hf b hb).1⟩⟩;rw[Int.mul_one]
 done:=by
  intro X hP hw hK hc i pins s σ H E I hf st hg;subst hP hw hK;obtain⟨f0,f1,f2,f3,f4,f5⟩:=hf it Qs;exact wpAny_pyNext_range_end (I.ok.hd hc) st (by have:n<=i:=hg;omega) λh' eb=>⟨rfl,I.turned (t':=s.toks) (λb o hb e=>eb b o hb e) f0 f1 f3 f4 f5⟩
 self:=λ_ _ _ _ _ st h=>wpAny_pyIter_rangeiter st h
end L2
namespace L2
open PySem PySem.Spec PyProof.Rows
section
variable{X:Cx}{tg:Expr}
def Gf(K:ag)(tl:TE):TI:=λσ H R=>tl σ H λx H1=>∃a,x=.ref a/\(∃xs,SqL K H1 a xs)/\R (El K a) H1
def Ho(K:ag)(tl:TE):TI:=λσ H R=>tl σ H λx H1=>∃a,x=.ref a/\(∃xs,cG K H1 a xs)/\R (Fx K a) H1
theorem bU{l:Expr}{tl:TE}(hl:PE X l tl):PI X tg l (Gf X.K tl):=by
 intro pins s σ H R I h;refine dr (hl pins s σ H _ I h) λv s1⟨x,H1,I1,r1,q1⟩=>?_;obtain⟨a,e,⟨xs,hq⟩,q⟩:=q1;subst e;cases r1;obtain⟨its,rv,p,hz⟩:=I1.list hq;refine jq p.isList ?_;refine⟨s1.heap.objs.size,[s1.heap.objs.size],_,_,H1,rfl,I1.kept (t':=s1.toks) λb o e=>av _ e,wY a _,⟨_,br _ rfl,rfl,rfl⟩,λb hb=>?_,q⟩;have e:b=s1.heap.objs.size:=by simpa using hb
 subst e;exact I1.fpOk (aY _) (I1.hok.fresh (aY _))
theorem AN{l:Expr}{tl:TE}(hl:PE X l tl):PI X tg l (Ho X.K tl):=by
 intro pins s σ H R I h;refine dr (hl pins s σ H _ I h) λv s1⟨x,H1,I1,r1,q1⟩=>?_;obtain⟨a,e,⟨xs,hq⟩,q⟩:=q1;subst e;cases r1;obtain⟨its,rv,p,hz⟩:=I1.tuple hq;refine wpAny_pyIter_tuple (show s1.heap.IsTuple a its.toArray from p) ?_;refine⟨s1.heap.objs.size,[s1.heap.objs.size],_,_,H1,rfl,I1.kept (t':=s1.toks) λb o e=>av _ e,sJ a _,⟨_,br _ rfl,rfl,rfl⟩,λb hb=>?_,q⟩;have e:b=s1.heap.objs.size:=by simpa using hb
 subst e;exact I1.fpOk (aY _) (I1.hok.fresh (aY _))
theorem AK{pins:List (Addr×Obj)}{σ:St}{H:Hp}{s:Shared}{R:It->Hp->Prop}{E:Value->Shared->Prop}{lo hi:Int}{t u v:Tok}{tk:Nat}(I:Inv X pins σ H s)(h1:-(2^62)<=lo)(h2:lo<2^62)(h3:-(2^62)<=hi)(h4:hi<2^62)
  (q:R (Fs lo (hi-lo).toNat) H):wpAny (model X.prog X.w) X.A (pyIter (.ref s.heap.objs.size)) (GN X pins σ tg R) E {s with heap:=s.heap.push {cls:=.type "range",data:=.fields #[.int lo t,.int hi u,.int 1 v]},toks:=tk}:=by
 refine wpAny_pyIter_range (IsRange.new ..) (small_one h1 h2 h3 h4) ?_;have I1:Inv X pins σ H {s with heap:=s.heap.push {cls:=.type "range",data:=.fields #[.int lo t,.int hi u,.int 1 v]},toks:=tk}:=I.kept λb o e=>av _ e;refine⟨(s.heap.push {cls:=.type "range",data:=.fields #[.int lo t,.int hi u,.int 1 v]}).objs.size,[(s.heap.push {cls:=.type "range",data:=.fields #[.int lo t,.int hi u,.int 1 v]}).objs.size],_,_,H,rfl,
  I1.kept (t':=tk) λb o e=>av _ e,sK _ lo (hi-lo).toNat,?_,λb hb=>?_,q⟩
 ·have e1:lo+((0:Nat):Int)*1=lo:=Qs;have e2:(((hi-lo).toNat:Nat):Int)-((0:Nat):Int)=Builtin.Range.rangeSize lo hi 1:=by rw[rangeSize_one];split<;>omega
  show IsRangeIter _ _ (lo+((0:Nat):Int)*1) ((((hi-lo).toNat:Nat):Int)-((0:Nat):Int)) 1;rw[e1,e2];exact br _ rfl
 ·have e:b=(s.heap.push {cls:=.type "range",data:=.fields #[.int lo t,.int hi u,.int 1 v]}).objs.size:=by simpa using hb
  subst e;exact I1.fpOk (aY _) (I1.hok.fresh (aY _))
def Ge(ta:TA):TI:=λσ H R=>ta σ H λvs H1=>∃j:Int,vs=[.int j]/\-(2^62)<=j/\j<2^62/\R (Fs 0 j.toNat) H1
theorem j3{a:Expr}{ta:TA}{p pos:Pos}(hg:Gl X "range")(hm:X.mg "range"=none)(ha:PA X [a] ta)(hs:starEach [a] X.env=[(false,eval a X.env)]:=by rfl):PI X tg (.Call (.Name "range" p) [a] [] pos) (Ge ta):=by
 intro pins s σ H R I h;refine Call_ (ky I hg hm boot_range (dR (dr (ha pos pins s σ H _ I h) λus s1⟨vs,H1,I1,r1,q1⟩=>?_) hs rfl));obtain⟨j,e,q1,q2,q⟩:=q1;subst e;cases r1 with
 |cons r rr=>
  cases rr;obtain⟨t,rfl⟩:=r;exact call_range_1 (AK I1 Qo Qo q1 q2 (by simpa using q))
def GZ(wi:TI)(g:TG)(tb:TS):TS:=λD σ H=>wi σ H λJ H1=>∃W:Nat->Nat->St->Hp->Prop,(∃m,W 0 m σ H1)/\∀i m σ H,W i m σ H->
 (J.stop i H/\D.nx σ H)\/(J.go i H/\∃N:St->Hp->Prop,(∀σ' H',N σ' H'->∃m',m'<m/\W (i+1) m' σ' H')/\∀x H',J.yld i H x H'->g x σ H' λσ2 H2=>tb {D with nx:=N,ct:=N,bk:=D.nx} σ2 H2)
def nB(fp:List Addr)(h:Heap):List (Addr×Obj):=fp.filterMap λb=>(h.get? b).map λo=>(b,o)
theorem i3{fp:List Addr}{h:Heap}{b:Addr}{o:Obj}(hb:b∈fp)(e:h.get? b=some o):(b,o)∈nB fp h:=oE.mpr ⟨b,hb,by rw[e];rfl⟩
theorem xY{fp:List Addr}{h:Heap}{p:Addr×Obj}(hp:p∈nB fp h):p.1∈fp/\h.get? p.1=some p.2:=by
 obtain⟨b,hb,e⟩:=oE.mp hp;cases q:h.get? b with
 |none=>rw[q]at e;cases e
 |some o=>
  rw[q]at e;have e':(b,o)=p:=Option.some.inj e;subst e';exact⟨hb,q⟩
theorem Inv.pinned{pins:List (Addr×Obj)}{σ:St}{H:Hp}{s:Shared}{fp:List Addr}(I:Inv X pins σ H s)(hf:∀b∈fp,lA X pins H b)(ho:∀b∈fp,∃o,s.heap.get? b=some o/\∀v,o.data≠ .cell v):Inv X (pins++nB fp s.heap) σ H s:=
 I.pins_of λp hp=>(aw.mp hp).elim (λz=>I.pin p (bn _ z)) λz=>by
  obtain⟨hb,e⟩:=xY z;obtain⟨f0,f1,f2,_⟩:=hf p.1 hb;obtain⟨o,e',d⟩:=ho p.1 hb;rw[e]at e';cases e';exact⟨e,f0,f1,f2,d⟩
theorem Inv.unpinned{pins pl:List (Addr×Obj)}{σ:St}{H:Hp}{s:Shared}(I:Inv X (pins++pl) σ H s):Inv X pins σ H s:=I.pins_of λp hp=>I.pin p (bn _ (bo _ hp))
theorem fg{iter:Expr}{body:List Stmt}{wi:TI}{g:TG}{tb:TS}{pos:Pos}(hp:PassesOwn (model X.prog X.w) X.A X.env X.xe)(hc:X.calm=true)(hi:PI X tg iter wi)(hg:PG X tg g)(hb:PSs X body tb)
  (hs:∀x,foldedSetIterable iter X.env x=pure x:=by intro _;rfl):PS X (.For tg iter body [] pos) (GZ wi g tb):=by
 intro pins s σ H D I h;refine wpAny_For (dr (hi pins s σ H _ I h) λv s1 h1=>dr h1 λitv s2 h2=>?_) hs;obtain⟨it,fp,tn,J,H2,e,I2,T,st2,f2,W,⟨m0,w0⟩,turn⟩:=h2;subst e;have stat:∀{H':Hp},(∀b∈fp,H' b=none)->∀b∈fp,lA X pins H' b:=λhn b hb=>⟨hn b hb,(f2 b hb).2⟩;refine codeAny_forLoop_any (λn s'=>∃i σ' H',Inv X pins σ' H' s'/\tn i s'.heap/\(∀b∈fp,H' b=none)/\W i n σ' H') ?_ m0 ⟨0,σ,H2,I2,st2,λb hb=>(f2 b hb).1,w0⟩;rintro n s3⟨i,σ3,H3,I3,st3,fr3,w3⟩;rcases turn i n σ3 H3 w3 with⟨stop,qn⟩|⟨go,N,hN,step⟩
 ·refine fB hp (dr (T.done X rfl rfl rfl hc i pins s3 σ3 H3 X.xe I3 (stat fr3) st3 stop) λr s4⟨hr,I4⟩=>?_);subst hr;exact kM ⟨σ3,H3,I4,qn⟩
 ·refine fB hp (dr (T.item X rfl rfl rfl hc i pins s3 σ3 H3 X.xe I3 (stat fr3) st3 go) λr s4⟨u,hr,h4⟩=>?_);subst hr;refine fB hp (dr h4 λ_ s5⟨x,H5,I5,r5,y5,st5,fr5⟩=>?_);have I5':=I5.pinned (stat fr5) (T.obj _ _ st5);refine fB hp (dr (hg _ s5 σ3 H5 x u _ I5' r5 (step x H5 y5)) λ_ s6⟨σ6,H6,I6,q6⟩=>?_);refine fB hp (dr (hb _ s6 σ6 H6 _ I6 q6) λf s7 q7=>?_);have again:∀{σ7:St}{H7:Hp},Inv X (pins++nB fp s5.heap) σ7 H7 s7->N σ7 H7->∃m,m<n/\∃i σ' H',Inv X pins σ' H' s7/\tn i s7.heap/\(∀b∈fp,H' b=none)/\W i m σ' H':=λ{σ7 H7}I7 n7=>by
   obtain⟨m',hm,w7⟩:=hN σ7 H7 n7;refine⟨m',hm,i+1,σ7,H7,I7.unpinned,T.keep _ _ _ st5 λb hb o e=>(I7.pin (b,o) (bn _ (bn _ (i3 hb e)))).1,λb hb=>?_,w7⟩;obtain⟨o,e,d⟩:=T.obj _ _ st5 b hb;exact(I7.pin (b,o) (bn _ (bn _ (i3 hb e)))).2.1
  cases f with
  |next=>obtain⟨σ7,H7,I7,n7⟩:=q7;exact again I7 n7
  |cont=>obtain⟨σ7,H7,I7,n7⟩:=q7;exact again I7 n7
  |brk=>obtain⟨σ7,H7,I7,q7⟩:=q7;exact⟨σ7,H7,I7.unpinned,q7⟩
  |ret v=>obtain⟨x7,σ7,H7,I7,r7,q7⟩:=q7;exact⟨x7,σ7,H7,I7.unpinned,r7,q7⟩
end
theorem fi{K:ag}{a:Addr}{xs:List V}{g:TG}{tb:TS}{D:oB}{σ:St}{H:Hp}(Pv:Nat->St->Hp->Prop)(h0:Pv 0 σ H)(hl:∀i σ H,i<=xs.length->Pv i σ H->SqL K H a xs)
  (hs:∀i x σ H,xs[i]?=some x->Pv i σ H->g x σ H λσ2 H2=>tb {D with nx:=Pv (i+1),ct:=Pv (i+1),bk:=D.nx} σ2 H2)(hd:∀σ H,Pv xs.length σ H->D.nx σ H):
  ∃W:Nat->Nat->St->Hp->Prop,(∃m,W 0 m σ H)/\∀i m σ H,W i m σ H->
   ((El K a).stop i H/\D.nx σ H)\/((El K a).go i H/\∃N:St->Hp->Prop,(∀σ' H',N σ' H'->∃m',m'<m/\W (i+1) m' σ' H')/\∀x H',(El K a).yld i H x H'->g x σ H' λσ2 H2=>tb {D with nx:=N,ct:=N,bk:=D.nx} σ2 H2):=by
 refine⟨λi m σ H=>m=xs.length-i/\i<=xs.length/\Pv i σ H,⟨xs.length,Qs,bO _,h0⟩,?_⟩;rintro i m σ H⟨rfl,hi,p⟩;have q:=hl i σ H hi p;by_cases hlt:i<xs.length
 ·refine .inr ⟨⟨xs,xs[i],q,by simp[hlt]⟩,Pv (i+1),λσ' H' p'=>⟨xs.length-(i+1),Qo,rfl,hlt,p'⟩,λx H' y=>?_⟩;obtain⟨e,y⟩:=y;subst e;exact hs i x σ _ (y xs q) p
 ·have e:i=xs.length:=Qo;subst e;exact .inl ⟨⟨xs,q,aY _⟩,hd σ H p⟩
theorem DA{K:ag}{a:Addr}{xs:List V}{g:TG}{tb:TS}{D:oB}{σ:St}{H:Hp}(Pv:Nat->St->Hp->Prop)(h0:Pv 0 σ H)(hl:∀i σ H,i<=xs.length->Pv i σ H->cG K H a xs)
  (hs:∀i x σ H,xs[i]?=some x->Pv i σ H->g x σ H λσ2 H2=>tb {D with nx:=Pv (i+1),ct:=Pv (i+1),bk:=D.nx} σ2 H2)(hd:∀σ H,Pv xs.length σ H->D.nx σ H):
  ∃W:Nat->Nat->St->Hp->Prop,(∃m,W 0 m σ H)/\∀i m σ H,W i m σ H->
   ((Fx K a).stop i H/\D.nx σ H)\/((Fx K a).go i H/\∃N:St->Hp->Prop,(∀σ' H',N σ' H'->∃m',m'<m/\W (i+1) m' σ' H')/\∀x H',(Fx K a).yld i H x H'->g x σ H' λσ2 H2=>tb {D with nx:=N,ct:=N,bk:=D.nx} σ2 H2):=by
 refine⟨λi m σ H=>m=xs.length-i/\i<=xs.length/\Pv i σ H,⟨xs.length,Qs,bO _,h0⟩,?_⟩;rintro i m σ H⟨rfl,hi,p⟩;have q:=hl i σ H hi p;by_cases hlt:i<xs.length
 ·refine .inr ⟨⟨xs,xs[i],q,by simp[hlt]⟩,Pv (i+1),λσ' H' p'=>⟨xs.length-(i+1),Qo,rfl,hlt,p'⟩,λx H' y=>?_⟩;obtain⟨e,y⟩:=y;subst e;exact hs i x σ _ (y xs q) p
 ·have e:i=xs.length:=Qo;subst e;exact .inl ⟨⟨xs,q,aY _⟩,hd σ H p⟩
theorem pG{lo:Int}{n:Nat}{g:TG}{tb:TS}{D:oB}{σ:St}{H:Hp}(Pv:Nat->St->Hp->Prop)(h0:Pv 0 σ H)
  (hs:∀i σ H,i<n->Pv i σ H->g (.int (lo+i)) σ H λσ2 H2=>tb {D with nx:=Pv (i+1),ct:=Pv (i+1),bk:=D.nx} σ2 H2)(hd:∀σ H,Pv n σ H->D.nx σ H):
  ∃W:Nat->Nat->St->Hp->Prop,(∃m,W 0 m σ H)/\∀i m σ H,W i m σ H->
   ((Fs lo n).stop i H/\D.nx σ H)\/((Fs lo n).go i H/\∃N:St->Hp->Prop,(∀σ' H',N σ' H'->∃m',m'<m/\W (i+1) m' σ' H')/\∀x H',(Fs lo n).yld i H x H'->g x σ H' λσ2 H2=>tb {D with nx:=N,ct:=N,bk:=D.nx} σ2 H2):=by
 refine⟨λi m σ H=>m=n-i/\i<=n/\Pv i σ H,⟨n,Qs,bO _,h0⟩,?_⟩;rintro i m σ H⟨rfl,hi,p⟩;by_cases hlt:i<n
 ·refine .inr ⟨hlt,Pv (i+1),λσ' H' p'=>⟨n-(i+1),Qo,rfl,hlt,p'⟩,λx H' y=>?_⟩;obtain⟨e,y⟩:=y;subst e y;exact hs i σ _ hlt p
 ·have e:i=n:=Qo;subst e;exact .inl ⟨aY _,hd σ H p⟩
end L2
namespace L2
open PySem PySem.Spec PyProof.Rows
abbrev R2:=V->V->Hp->VK->Prop
def kK(X:Cx)(f:Value->Value->Sem Value)(r:R2):Prop:=
 ∀(pins:List (Addr×Obj))(s:Shared)(σ:St)(H:Hp)(x y:V)(v u:Value)(Q:VK),Inv X pins σ H s->bY x v->bY y u->r x y H Q->
  wpAny (model X.prog X.w) X.A (f v u) (EP X pins σ Q) X.xe s
def Hy(X:Cx)(f:Value->Sem Value)(r:V->Hp->VK->Prop):Prop:=
 ∀(pins:List (Addr×Obj))(s:Shared)(σ:St)(H:Hp)(x:V)(v:Value)(Q:VK),Inv X pins σ H s->bY x v->r x H Q->
  wpAny (model X.prog X.w) X.A (f v) (EP X pins σ Q) X.xe s
def gj(X:Cx)(f:Value)(r:List V->Hp->VK->Prop):Prop:=
 ∀(pins:List (Addr×Obj))(s:Shared)(σ:St)(H:Hp)(xs:List V)(us:List Value)(Q:VK),Inv X pins σ H s->cI xs us->r xs H Q->
  wpAny (model X.prog X.w) X.A (call f us) (EP X pins σ Q) X.xe s
def FC(r:R2)(ta tb:TE):TE:=λσ H Q=>ta σ H λx H1=>tb σ H1 λy H2=>r x y H2 Q
def Ib(r:V->Hp->VK->Prop)(ta:TE):TE:=λσ H Q=>ta σ H λx H1=>r x H1 Q
def rI(C:Int->Int->Prop)(g:Int->Int->V):R2:=λx y H Q=>∃i j,x=.int i/\y=.int j/\C i j/\Q (g i j) H
def EH(g:Int->Int->V):R2:=λx y H Q=>∃i j,x=.int i/\y=.int j/\Q (g i j) H
def rU(g:Int->V):V->Hp->VK->Prop:=λx H Q=>∃i,x=.int i/\Q (g i) H
section
variable{X:Cx}{a b c:Expr}{ta tb tc:TE}{pos:Pos}
theorem E_(ha:PE X a ta)(hb:PE X b tb){pins:List (Addr×Obj)}{s:Shared}{σ:St}{H:Hp}{R:V->V->Hp->Prop}(I:Inv X pins σ H s)
  (h:ta σ H λx H1=>tb σ H1 λy H2=>R x y H2){Q:Value->Shared->Prop}{f:Value->Value->Sem Value}
  (hf:∀v u s2 x y H2,Inv X pins σ H2 s2->bY x v->bY y u->R x y H2->wpAny (model X.prog X.w) X.A (f v u) Q X.xe s2):
  wpAny (model X.prog X.w) X.A (eval a X.env) (λv s₁=>wpAny (model X.prog X.w) X.A (eval b X.env) (λu s₂=>wpAny (model X.prog X.w) X.A (f v u) Q X.xe s₂) X.xe s₁) X.xe s:=by
 refine dr (ha pins s σ H _ I h) λv s1⟨x,H1,I1,r1,q1⟩=>?_;refine dr (hb pins s1 σ H1 _ I1 q1) λu s2⟨y,H2,I2,r2,q2⟩=>?_;exact hf v u s2 x y H2 I2 r1 r2 q2
theorem bP{op:Operator}{r:R2}(ho:kK X (binaryOp op) r)(ha:PE X a ta)(hb:PE X b tb):PE X (.BinOp a op b pos) (FC r ta tb):=by
 intro pins s σ H Q I h;exact wpAny_BinOp (E_ ha hb I h λv u s2 x y H2 I2 rx ry q=>ho pins s2 σ H2 x y v u Q I2 rx ry q)
theorem F2{op:UnaryOp}{r:V->Hp->VK->Prop}(ho:Hy X (unaryOp op) r)(ha:PE X a ta):PE X (.UnaryOp op a pos) (Ib r ta):=by
 intro pins s σ H Q I h;exact UnaryOp_ (dr (ha pins s σ H _ I h) λv s1⟨x,H1,I1,r1,q1⟩=>ho pins s1 σ H1 x v Q I1 r1 q1)
theorem GL{f:Value->Value->Sem Value}{C:Int->Int->Prop}{g:Int->Int->Int}
  (rule:∀(i j:Int)(t u:Tok)(s:Shared)(Q:Value->Shared->Prop)(E:Value->Shared->Prop),C i j->Q (.int (g i j) s.toks) {s with toks:=s.toks+1}->wpAny (model X.prog X.w) X.A (f (.int i t) (.int j u)) Q E s):
  kK X f (rI C λi j=>.int (g i j)):=by
 intro pins s σ H x y v u Q I rx ry h;obtain⟨i,j,rfl,rfl,hc,q⟩:=h;obtain⟨t,rfl⟩:=rx;obtain⟨t',rfl⟩:=ry;exact rule i j t t' s _ _ hc ⟨.int (g i j),H,I.tok _,⟨_,rfl⟩,q⟩
theorem F3{f:Value->Value->Sem Value}{g:Int->Int->Int}
  (rule:∀(i j:Int)(t u:Tok)(s:Shared)(Q:Value->Shared->Prop)(E:Value->Shared->Prop),Q (.int (g i j) s.toks) {s with toks:=s.toks+1}->wpAny (model X.prog X.w) X.A (f (.int i t) (.int j u)) Q E s):
  kK X f (EH λi j=>.int (g i j)):=by
 intro pins s σ H x y v u Q I rx ry h;obtain⟨i,j,rfl,rfl,q⟩:=h;obtain⟨t,rfl⟩:=rx;obtain⟨t',rfl⟩:=ry;exact rule i j t t' s _ _ ⟨.int (g i j),H,I.tok _,⟨_,rfl⟩,q⟩
theorem EN{f:Value->Value->Sem Value}{g:Int->Int->Bool}
  (rule:∀(i j:Int)(t u:Tok)(s:Shared)(Q:Value->Shared->Prop)(E:Value->Shared->Prop),Q (.bool (g i j)) s->wpAny (model X.prog X.w) X.A (f (.int i t) (.int j u)) Q E s):
  kK X f (EH λi j=>.bl (g i j)):=by
 intro pins s σ H x y v u Q I rx ry h;obtain⟨i,j,rfl,rfl,q⟩:=h;obtain⟨t,rfl⟩:=rx;obtain⟨t',rfl⟩:=ry;exact rule i j t t' s _ _ ⟨.bl (g i j),H,I,rfl,q⟩
def HK(i j:Int):Prop:=0<j/\j<1073741824
def HJ(i j:Int):Prop:=0<=j/\j<=1000000/\i.natAbs<2^64
def Ft(i j:Int):Prop:=(-(2^64)<i/\i<2^64)\/(-(2^64)<j/\j<2^64)
theorem Ft.ok{i j:Int}(h:Ft i j):IntMulOk i j:=by
 rcases h with⟨h1,h2⟩|⟨h1,h2⟩
 ·exact .of_left (intBits_le_64 h1 h2)
 ·exact .of_right (intBits_le_64 h1 h2)
theorem dG:kK X (binaryOp .Add) (EH λi j=>.int (i+j)):=F3 λ_ _ _ _ _ _ _ q=>add_int q
theorem tq:kK X (binaryOp .Sub) (EH λi j=>.int (i-j)):=F3 λ_ _ _ _ _ _ _ q=>sub_int q
theorem nJ:kK X (binaryOp .Mult) (rI Ft λi j=>.int (i*j)):=GL λ_ _ _ _ _ _ _ hc q=>mul_int q hc.ok
theorem fq:kK X (binaryOp .FloorDiv) (rI HK λi j=>.int (i/j)):=GL λi j _ _ _ _ _ hc q=>by
 have h1:(0:Int)<j:=hc.1;have h2:j<1073741824:=hc.2;exact floordiv_int Qo (by rw[Int.fdiv_eq_ediv_of_nonneg i Qo];exact q) (.inl (PyProof.noPylong_small Qo))
theorem dP:kK X (binaryOp .Mod) (rI (λ_ j=>0<j) λi j=>.int (i%j)):=GL λi j _ _ _ _ _ hc q=>by
 have h1:(0:Int)<j:=hc;exact mod_int' Qo (by rw[Int.fmod_eq_emod_of_nonneg i Qo];exact q)
theorem A1:kK X (binaryOp .Pow) (rI HJ λi j=>.int (i^j.toNat)):=GL λ_ _ _ _ _ _ _ hc q=>pow_int_small hc.1 hc.2.1 hc.2.2 q
theorem Ia{f:Value->Sem Value}{g:Int->Int}
  (rule:∀(i:Int)(t:Tok)(s:Shared)(Q:Value->Shared->Prop)(E:Value->Shared->Prop),Q (.int (g i) s.toks) {s with toks:=s.toks+1}->wpAny (model X.prog X.w) X.A (f (.int i t)) Q E s):
  Hy X f (rU λi=>.int (g i)):=by
 intro pins s σ H x v Q I rx h;obtain⟨i,rfl,q⟩:=h;obtain⟨t,rfl⟩:=rx;exact rule i t s _ _ ⟨.int (g i),H,I.tok _,⟨_,rfl⟩,q⟩
theorem Eu:Hy X (unaryOp .USub) (rU λi=>.int (-i)):=Ia λ_ _ _ _ _ q=>neg_int q
end
def FR:V->V->Bool
 |.non,.non=>true|.non,.int _=>true|.int _,.non=>true|.non,.bl _=>true|.bl _,.non=>true|.non,.str _=>true|.str _,.non=>true
 |.int _,.int _=>true|.bl _,.bl _=>true|.str _,.str _=>true|.byt _,.byt _=>true
 |.int _,.str _=>true|.str _,.int _=>true|.bl _,.str _=>true|.str _,.bl _=>true
 |_,_=>false
def Ii:R2:=λx y H Q=>FR x y=true/\Q (.bl (decide (x=y))) H
def Ih:R2:=λx y H Q=>FR x y=true/\Q (.bl (!decide (x=y))) H
theorem wP{i j:Int}:decide (V.int i=V.int j)=(i==j):=by
 rw[db];simp
theorem BT{i j:Bool}:decide (V.bl i=V.bl j)=(i==j):=by
 rw[db];simp
theorem wO{i j:Str}:decide (V.str i=V.str j)=(i==j):=by
 rw[db];simp
theorem wQ{i j:Array UInt8}:decide (V.byt i=V.byt j)=(i.toList==j.toList):=by
 rw[db];cases i;cases j;simp
section
variable{X:Cx}{a b c:Expr}{ta tb tc:TE}{pos:Pos}
theorem cQ{pins:List (Addr×Obj)}{σ:St}{H:Hp}{s:Shared}{Q:VK}{k k':Bool}(I:Inv X pins σ H s)(q:Q (.bl k) H)(e:k=k'):EP X pins σ Q (.bool k') s:=by
 subst e;exact⟨.bl k,H,I,rfl,q⟩
theorem d9:kK X (compareOp .Eq) Ii:=by
 intro pins s σ H x y v u Q I rx ry h;obtain⟨hs,q⟩:=h;cases x with
 |non=>
  cases rx;cases y with
  |non=>cases ry;exact PySem.EqNone.eq_none_none (cQ I q Qs)
  |bl j=>cases ry;exact PySem.EqNone.eq_none_bool (cQ I q Qs)
  |int j=>obtain⟨t',rfl⟩:=ry;exact PySem.EqNone.eq_none_int (cQ I q Qs)
  |str j=>obtain⟨t',rfl⟩:=ry;exact PySem.EqNone.eq_none_str (cQ I q Qs)
  |_=>exact absurd (show false=true from hs) aG
 |bl i=>
  cases rx;cases y with
  |non=>cases ry;exact PySem.EqNone.eq_bool_none (cQ I q Qs)
  |bl j=>cases ry;exact eq_bool (cQ I q BT)
  |str j=>obtain⟨t',rfl⟩:=ry;exact PySem.EqMixed.eq_bool_str (cQ I q Qs)
  |_=>exact absurd (show false=true from hs) aG
 |int i=>
  obtain⟨t,rfl⟩:=rx;cases y with
  |non=>cases ry;exact PySem.EqNone.eq_int_none (cQ I q Qs)
  |int j=>obtain⟨t',rfl⟩:=ry;exact eq_int (cQ I q wP)
  |str j=>obtain⟨t',rfl⟩:=ry;exact PySem.EqMixed.eq_int_str (cQ I q Qs)
  |_=>exact absurd (show false=true from hs) aG
 |str i=>
  obtain⟨t,rfl⟩:=rx;cases y with
  |non=>cases ry;exact PySem.EqNone.eq_str_none (cQ I q Qs)
  |bl j=>cases ry;exact PySem.EqMixed.eq_str_bool (cQ I q Qs)
  |int j=>obtain⟨t',rfl⟩:=ry;exact PySem.EqMixed.eq_str_int (cQ I q Qs)
  |str j=>obtain⟨t',rfl⟩:=ry;exact eq_str (cQ I q wO)
  |_=>exact absurd (show false=true from hs) aG
 |byt i=>
  obtain⟨t,rfl⟩:=rx;cases y with
  |byt j=>obtain⟨t',rfl⟩:=ry;exact PySem.W.eq_bytes (cQ I q wQ)
  |_=>exact absurd (show false=true from hs) aG
 |_=>cases y<;>exact absurd (show false=true from hs) aG
theorem A2:kK X (compareOp .NotEq) Ih:=by
 intro pins s σ H x y v u Q I rx ry h;obtain⟨hs,q⟩:=h;cases x with
 |non=>
  cases rx;cases y with
  |non=>cases ry;exact PySem.EqNone.ne_none_none (cQ I q Qs)
  |bl j=>cases ry;exact PySem.EqNone.ne_none_bool (cQ I q Qs)
  |int j=>obtain⟨t',rfl⟩:=ry;exact PySem.EqNone.ne_none_int (cQ I q Qs)
  |str j=>obtain⟨t',rfl⟩:=ry;exact PySem.EqNone.ne_none_str (cQ I q Qs)
  |_=>exact absurd (show false=true from hs) aG
 |bl i=>
  cases rx;cases y with
  |non=>cases ry;exact PySem.EqNone.ne_bool_none (cQ I q Qs)
  |bl j=>cases ry;exact ne_bool (cQ I q (b6 not BT))
  |str j=>obtain⟨t',rfl⟩:=ry;exact PySem.EqMixed.ne_bool_str (cQ I q Qs)
  |_=>exact absurd (show false=true from hs) aG
 |int i=>
  obtain⟨t,rfl⟩:=rx;cases y with
  |non=>cases ry;exact PySem.EqNone.ne_int_none (cQ I q Qs)
  |int j=>obtain⟨t',rfl⟩:=ry;exact ne_int (cQ I q (b6 not wP))
  |str j=>obtain⟨t',rfl⟩:=ry;exact PySem.EqMixed.ne_int_str (cQ I q Qs)
  |_=>exact absurd (show false=true from hs) aG
 |str i=>
  obtain⟨t,rfl⟩:=rx;cases y with
  |non=>cases ry;exact PySem.EqNone.ne_str_none (cQ I q Qs)
  |bl j=>cases ry;exact PySem.EqMixed.ne_str_bool (cQ I q Qs)
  |int j=>obtain⟨t',rfl⟩:=ry;exact PySem.EqMixed.ne_str_int (cQ I q Qs)
  |str j=>obtain⟨t',rfl⟩:=ry;exact ne_str (cQ I q (b6 not wO))
  |_=>exact absurd (show false=true from hs) aG
 |byt i=>
  obtain⟨t,rfl⟩:=rx;cases y with
  |byt j=>obtain⟨t',rfl⟩:=ry;exact PySem.W.ne_bytes (cQ I q (b6 not wQ))
  |_=>exact absurd (show false=true from hs) aG
 |_=>cases y<;>exact absurd (show false=true from hs) aG
theorem A3:kK X (compareOp .Lt) (EH λi j=>.bl (decide (i<j))):=EN λ_ _ _ _ _ _ _ q=>lt_int q
theorem vY:kK X (compareOp .LtE) (EH λi j=>.bl (decide (i<=j))):=EN λ_ _ _ _ _ _ _ q=>le_int q
theorem D_:kK X (compareOp .Gt) (EH λi j=>.bl (decide (j<i))):=EN λ_ _ _ _ _ _ _ q=>gt_int q
theorem xN:kK X (compareOp .In) (λx y H Q=>∃i j,x=.str i/\y=.str j/\Q (.bl (!(Builtin.Str.occurrences j i 0 j.length 1).isEmpty)) H):=by
 intro pins s σ H x y v u Q I rx ry h;obtain⟨i,j,rfl,rfl,q⟩:=h;obtain⟨t,rfl⟩:=rx;obtain⟨t',rfl⟩:=ry;exact in_str (cQ I q rfl)
theorem nomark(b:Expr){op:CmpOp}(h:op≠ .In:=by decide)(h2:op≠ .NotIn:=by decide):behindInMarks op b=false:=by
 have e1:(op==CmpOp.In)=false:=by cases op<;>first|rfl|exact absurd rfl h
 have e2:(op==CmpOp.NotIn)=false:=by cases op<;>first|rfl|exact absurd rfl h2
 cases b<;>simp[behindInMarks,e1,e2]
theorem dJ{op:CmpOp}{r:R2}(ho:kK X (compareOp op) r)(ha:PE X a ta)(hb:PE X b tb)(hm:behindInMarks op b=false):PE X (.Compare a [op] [b] pos) (FC r ta tb):=by
 intro pins s σ H Q I h;exact wpAny_Compare1 (E_ ha hb I h λv u s2 x y H2 I2 rx ry q=>ho pins s2 σ H2 x y v u Q I2 rx ry q) hm
def FA(t:TE):TT:=λσ H Q=>t σ H λx H'=>∃k,x=.bl k/\Q k H'
theorem bJ{op:CmpOp}{r:R2}(ho:kK X (compareOp op) r)(ha:PE X a ta)(hb:PE X b tb)(hm:behindInMarks op b=false):PT X (.Compare a [op] [b] pos) (FA (FC r ta tb)):=by
 intro pins s σ H Q I h;refine Cr (dr (ha pins s σ H _ I h) λv s1⟨x,H1,I1,r1,q1⟩=>dr (hb pins s1 σ H1 _ I1 q1) λu s2⟨y,H2,I2,r2,q2⟩=>
  dr (ho pins s2 σ H2 x y v u _ I2 r1 r2 q2) λc s3⟨z,H3,I3,r3,k,e,q3⟩=>?_) hm
 subst e;cases r3;exact cR ⟨H3,I3,q3⟩
def EE(r r':R2)(ta tb tc:TE):TE:=λσ H Q=>ta σ H λx H1=>tb σ H1 λy H2=>r x y H2 λz H3=>∃k,z=.bl k/\
 (if k=true then tc σ H3 λw' H4=>r' y w' H4 Q else Q (.bl false) H3)
theorem AX{op op':CmpOp}{r r':R2}(ho:kK X (compareOp op) r)(ho':kK X (compareOp op') r')(ha:PE X a ta)(hb:PE X b tb)(hc:PE X c tc)
  (hm:lastMarks [op,op'] [b,c]=false:=by with_unfolding_all rfl):PE X (.Compare a [op,op'] [b,c] pos) (EE r r' ta tb tc):=by
 intro pins s σ H Q I h;refine Compare_chain (dr (ha pins s σ H _ I h) λv s1⟨x,H1,I1,r1,q1⟩=>chain_link (dr (hb pins s1 σ H1 _ I1 q1) λu s2⟨y,H2,I2,r2,q2⟩=>
  dr (ho pins s2 σ H2 x y v u _ I2 r1 r2 q2) λd s3⟨z,H3,I3,r3,k,e,q3⟩=>?_)) hm
 subst e;cases r3;refine cR ?_;cases k with
 |false=>exact ite_ff ⟨.bl false,H3,I3,rfl,q3⟩
 |true=>exact ite_tt (chain_last (dr (hc pins s3 σ H3 _ I3 q3) λw' s4⟨z',H4,I4,r4,q4⟩=>ho' pins s4 σ H4 y z' u w' Q I4 r2 r4 q4))
theorem nU:(sizeLine:Nat)<2^63:=by rw[sizeLine_eq];decide
theorem iX:kK X (binaryOp .Add) (λx y H Q=>∃i j,x=.str i/\y=.str j/\i.length+j.length<=sizeLine/\Q (.str (i++j)) H):=by
 intro pins s σ H x y v u Q I rx ry h;obtain⟨i,j,rfl,rfl,hz,q⟩:=h;obtain⟨t,rfl⟩:=rx;obtain⟨t',rfl⟩:=ry;exact add_str (λt' tk=>⟨.str (i++j),H,I.tok _,⟨_,rfl⟩,q⟩) hz
theorem gL{x:V}{us:List Value}(r:cI [x] us):∃u,us=[u]/\bY x u:=by
 cases r with
 |cons r1 r2=>cases r2;exact⟨_,rfl,r1⟩
theorem zT{x y:V}{us:List Value}(r:cI [x,y] us):∃u w',us=[u,w']/\bY x u/\bY y w':=by
 cases r with
 |cons r1 r2=>
  cases r2 with
  |cons r3 r4=>cases r4;exact⟨_,_,rfl,r1,r3⟩
theorem yX(hc:X.calm=true):gj X (.builtin "max") (λxs H Q=>∃i j,xs=[.int i,.int j]/\Q (.int (if j>i then j else i)) H):=by
 intro pins s σ H xs us Q I r h;obtain⟨i,j,rfl,q⟩:=h;obtain⟨u,w',rfl,⟨t,rfl⟩,⟨t',rfl⟩⟩:=zT r;refine max_two_ints (I.ok.hd hc) λh' tk k=>⟨_,H,I.kept k,?_,q⟩;by_cases hj:j>i
 ·rw[bc hj,bc hj];exact⟨_,rfl⟩
 ·rw[aM hj,aM hj];exact⟨_,rfl⟩
end
end L2
namespace L2
open PySem PySem.Spec PyProof.Rows
structure ObjM(h:Heap)(x dx C:Addr)(mA:Str->Option Value):Prop where
 obj:h.get? x=some (eG C dx)
 ns:h.Ns1 dx mA
 ne:dx≠x
theorem yE{h:Heap}{dx:Addr}{mA:Str->Option Value}(n:h.Ns1 dx mA):∃od,h.get? dx=some od/\∀name,PySem.W.lookIn name od=some (mA name):=by
 obtain⟨o,es,ep,ho,hd,hk,_,hm⟩:=n;refine⟨o,ho,λname=>?_⟩;have e:=hm name;unfold nsFind findBy at e;rw[<-Array.find?_toList]at e;unfold PySem.W.lookIn;rw[hd];dsimp only;split
 ·rename_i y q;rw[q]at e;exact b6 some e
 ·rename_i q;rw[q]at e;have a:es.toList.any (·.refKey)=false:=by
   rw[List.any_eq_false];intro y hy;obtain⟨z,t,hkey⟩:=hk y (il.mp hy);simp[DictEntry.refKey,hkey]
  have a':¬es.toList.any (·.refKey)=true:=by rw[a];exact aG
  rw[aM a'];exact b6 some e
theorem ObjM.look{h:Heap}{x dx C:Addr}{mA:Str->Option Value}(I:ObjM h x dx C mA):∃od,PySem.W.InstAt h x (eG C dx) C (some od)/\∀name,PySem.W.lookIn name od=some (mA name):=
 let⟨od,ho,hl⟩:=yE I.ns
 ⟨od,⟨I.obj,rfl,rfl,ho⟩,hl⟩
section
variable{prog:Program}{w:World}{A:Around}{E:Value->Shared->Prop}{s:Shared}{K:ag}{x dx C f:Addr}{mA:Str->Option Value}{name:Str}{v:Value}
theorem Dz{expr:Bool}{Q:Value->Shared->Prop}(X:K.In s.heap)(I:ObjM s.heap x dx C mA)(hg:ie K C name=true)(hh:ju K C=true)
  (ha:bS K (.ref C) name=some none)(hv:mA name=some v)(hv':PySem.W.handedIn v=true)(h:Q v {s with toks:=s.toks+1}):
  wpAny (model prog w) A (getAttr (.ref x) name expr) Q E s:=by
 obtain⟨od,J,hl⟩:=I.look;exact PySem.W.get_value X J (mJ hg).1 (PySem.W.findObj_own hh ha rfl (by rw[hl,hv])) hv' h
theorem BO{pl:Sem Bool}{Q:Value×List Value->Shared->Prop}(X:K.In s.heap)(I:ObjM s.heap x dx C mA)(hg:ie K C name=true)
  (hf:bS K (.ref C) name=some (some (.ref f)))(ht:eJ K (.ref f)=true)(hv:mA name=none)(h:Q (.ref f,[.ref x]) s):
  wpAny (model prog w) A (getMethod (.ref x) name pl) Q E s:=by
 obtain⟨od,J,hl⟩:=I.look;exact PySem.W.method_fn X J (mJ hg).1 (mJ hg).2 hf (beq_iff_eq.mp ht) (by show(PySem.W.lookIn name od).map (·.isSome)=some false;rw[hl,hv];rfl) h
theorem CJ{ns:List Str}{Q:Unit->Shared->Prop}(X:K.In s.heap)(I:ObjM s.heap x dx C mA)
  (hs:bS K (.ref C) "__setattr__"=some (some (.builtin "object.__setattr__")))(hp:oS K C=true)(ht:PySem.W.takerIn K C name=some none)(hh:ju K C=true)
  (hw:PySem.Within mA ns)(hsz:ns.length<=sizeLine)
  (h:∀h',ObjM h' x dx C (λy=>if y=name then some v else mA y)->Heap.SameBut dx s.heap h'->Q () {s with heap:=h',toks:=s.toks+2}):
  wpAny (model prog w) A (setAttr (.ref x) name v) Q E s:=by
 obtain⟨od,J,hl⟩:=I.look;refine PySem.W.set_plain X J hs (PySem.W.osa_open (s:={s with toks:=s.toks+1}) (r:=none) X J hp ht λb=>?_);obtain⟨cd,hc,hd'⟩:=PySem.W.any_some hh;have hx:s.heap.get? x=some ⟨.ref C,some dx,.plain,#[]⟩:=I.obj;refine ak (aX (ak (ak (wpAny_loadPart hx (ak (PySem.W.Looks.here (s:={s with toks:=s.toks+1}) (PySem.W.looks_clsIn X hc) ?_))))));rw[hd'];refine aX (a:=some dx) (ak (aX (ak ?_)));refine wpAny_nsSet1 (s:={s with toks:=s.toks+1}) I.ns λh' hn2 hs2=>?_;obtain⟨oD,esD,epD,hoD,hdD,hcD⟩:=hn2.count (PySem.Within.cons name v hw);refine ak (wpAny_lookBehind hoD (by rw[hdD];exact pastItsLine_dict (ay hcD (by rw[bT];omega))) ?_);exact aX (h _ ⟨(hs2.2 _ (Ne.symm I.ne)).trans I.obj,hn2,I.ne⟩ hs2)
theorem BA{R:Result->Shared->Prop}{vs:List Value}{kw:List (Str×Value)}(X:K.In s.heap)(hm:iy K C=true)
  (hi:bS K (.ref C) "__init__"=some (some (.ref f)))(hf:PySem.W.typeIn K (.ref f)=some (.type "function"))
  (h:codeAny (model prog w) (A.under (.builtin "type.__call__" ⟨.ref C::vs,kw⟩)) (.call (.ref f) ⟨.ref (s.heap.objs.size+1)::vs,kw⟩) (PySem.W.InitBack (s.heap.objs.size+1) R)
   {s with heap:=(s.heap.push dn).push (eG C s.heap.objs.size)}):
  codeAny (model prog w) A (.call (.ref C) ⟨vs,kw⟩) R s:=by
 obtain⟨hh,g,d,t,os⟩:=s;exact PySem.W.make_core (PySem.W.makes_of X hm) (PySem.W.looks_findIn X hi) (λself=>PySem.W.bind_fn X self hf) (.inl rfl) h
end
def hZ(f:Str)(v:V):List (Str×V)->List (Str×V)
 |[]=>[(f,v)]
 |(g,x)::r=>if g=f then(g,v)::r else(g,x)::hZ f v r
theorem fh(f g:Str)(v:V):∀fs:List (Str×V),(hZ f v fs).lookup g=if g=f then some v else fs.lookup g
 |[]=>by
  show List.lookup g [(f,v)]=_;by_cases h:g=f
  ·have hb:(g==f)=true:=beq_iff_eq.mpr h;simp only[List.lookup,hb,bc h]
  ·have hb:(g==f)=false:=beq_eq_false_iff_ne.mpr h;simp only[List.lookup,hb,aM h]
 |(k,x)::r=>by
  have ih:=fh f g v r;rw[show hZ f v ((k,x)::r)=(if k=f then(k,v)::r else(k,x)::hZ f v r)from rfl];by_cases hk:k=f
  ·rw[bc hk];by_cases h:g=k
   ·have hb:(g==k)=true:=beq_iff_eq.mpr h;simp only[List.lookup,hb,bc (h.trans hk)]
   ·have hb:(g==k)=false:=beq_eq_false_iff_ne.mpr h;simp only[List.lookup,hb,aM (λe:g=f=>h (e.trans hk.symm))]
  ·rw[aM hk];by_cases h:g=k
   ·have hb:(g==k)=true:=beq_iff_eq.mpr h;simp only[List.lookup,hb,aM (λe:g=f=>hk (h.symm.trans e))]
   ·have hb:(g==k)=false:=beq_eq_false_iff_ne.mpr h;simp only[List.lookup,hb];exact ih
theorem lQ(f:Str)(v:V):∀fs:List (Str×V),f∈(hZ f v fs).map (·.1)/\∀g,g∈fs.map (·.1)->g∈(hZ f v fs).map (·.1)
 |[]=>⟨by simp[hZ],λg h=>by simp at h⟩
 |(k,x)::r=>by
  obtain⟨i1,i2⟩:=lQ f v r;rw[show hZ f v ((k,x)::r)=(if k=f then(k,v)::r else(k,x)::hZ f v r)from rfl];by_cases hk:k=f
  ·rw[bc hk];subst hk;exact⟨Qs,λg h=>by simpa using h⟩
  ·rw[aM hk];refine⟨?_,λg h=>?_⟩
   ·rw[aF];exact aq _ i1
   ·rw[aF]at h⊢;rcases bd.mp h with e|e
    ·exact bd.mpr (.inl e)
    ·exact aq _ (i2 g e)
theorem mw(f:Str)(v:V):∀fs:List (Str×V),(hZ f v fs).length<=fs.length+1
 |[]=>by simp[hZ]
 |(k,x)::r=>by
  have ih:=mw f v r;rw[show hZ f v ((k,x)::r)=(if k=f then(k,v)::r else(k,x)::hZ f v r)from rfl];by_cases hk:k=f
  ·rw[bc hk,bT,bT];omega
  ·rw[aM hk,bT,bT];omega
theorem RelO.some_of{v:V}{o:Option Value}(r:RelO (some v) o):∃u,o=some u/\bY v u:=by
 cases o with
 |none=>exact(show False from r).elim
 |some u=>exact⟨u,rfl,r⟩
theorem RelO.none_of{o:Option Value}(r:RelO none o):o=none:=by
 cases o with
 |none=>rfl
 |some u=>exact(show False from r).elim
theorem yM{v:V}{u:Value}(r:bY v u):PySem.W.handedIn u=true:=by
 cases v with
 |non=>cases(show u=Value.none from r);rfl
 |bl b=>cases(show u=Value.bool b from r);rfl
 |int i=>obtain⟨t,e⟩:=(show∃t,u=Value.int i t from r);cases e;rfl
 |str x=>obtain⟨t,e⟩:=(show∃t,u=Value.str x t from r);cases e;rfl
 |byt b=>obtain⟨t,e⟩:=(show∃t,u=Value.bytes b t from r);cases e;rfl
 |flt b=>obtain⟨t,e⟩:=(show∃t,u=Value.float b t from r);cases e;rfl
 |ref a=>cases(show u=Value.ref a from r);rfl
 |ty n=>cases(show u=Value.type n from r);rfl
section
variable{P:Program}{w:World}{H H':Hp}{h h':Heap}{a C dx:Addr}{fs fs':List (Str×V)}
theorem mZ(hok:kf P w H h)(e:H a=some (.ins C dx fs)):∃mA,ObjM h a dx C mA/\(∀f,RelO (fs.lookup f) (mA f))/\PySem.Within mA (fs.map (·.1))/\fs.length<=1000/\H dx=some (.own a):=by
 obtain⟨d,z,ne,ob,mA,n,r,q⟩:=(show ObjOk P w H h a (.ins C dx fs)from hok a _ e);exact⟨mA,⟨ob,n,ne⟩,r,q,z,d⟩
end
structure zC(K:ag)(C:Addr):Prop where
 pg:ie K C Str.empty=true
 hd:ju K C=true
 po:oS K C=true
 sa:bS K (.ref C) "__setattr__"=some (some (.builtin "object.__setattr__"))
theorem zC.get{K:ag}{C:Addr}(c:zC K C)(f:Str):ie K C f=true:=c.pg
def jQ(K:ag)(C:Addr)(f:Str):Prop:=bS K (.ref C) f=some none
theorem jQ.taker{K:ag}{C:Addr}{f:Str}(n:jQ K C f):PySem.W.takerIn K C f=some none:=by
 unfold PySem.W.takerIn;rw[show bS K (.ref C) f=some none from n];rfl
structure Ce(K:ag)(C:Addr)(m:Str)(f:Addr):Prop where
 at_:bS K (.ref C) m=some (some (.ref f))
 fn:eJ K (.ref f)=true
 kp:az K (.ref f)=true
section
variable{X:Cx}{pins:List (Addr×Obj)}{σ:St}{H:Hp}{s:Shared}{a C dx:Addr}{fs:List (Str×V)}{f:Str}{v:V}{A:Around}{E:Value->Shared->Prop}
theorem t0{b:Bool}{Q:Value->Shared->Prop}(I:Inv X pins σ H s)(e:H a=some (.ins C dx fs))(c:zC X.K C)(n:jQ X.K C f)(l:fs.lookup f=some v)
  (h:∀u s',Inv X pins σ H s'->bY v u->Q u s'):wpAny (model X.prog X.w) A (getAttr (.ref a) f b) Q E s:=by
 obtain⟨mA,O,r,_,_,_⟩:=mZ I.hok e;obtain⟨u,hu,ru⟩:=RelO.some_of (v:=v) (o:=mA f) (by rw[<-l];exact r f);exact Dz I.kIn O (c.get f) c.hd n hu (yM ru) (h u _ (I.tok _) ru)
theorem nY{m:Str}{g:Addr}{pl:Sem Bool}{Q:Value×List Value->Shared->Prop}(I:Inv X pins σ H s)(e:H a=some (.ins C dx fs))(c:zC X.K C)(k:Ce X.K C m g)(l:fs.lookup m=none)
  (h:Q (.ref g,[.ref a]) s):wpAny (model X.prog X.w) A (getMethod (.ref a) m pl) Q E s:=by
 obtain⟨mA,O,r,_,_,_⟩:=mZ I.hok e;have hn:mA m=none:=RelO.none_of (by rw[<-l];exact r m);exact BO I.kIn O (c.get m) k.at_ k.fn hn h
theorem sT{y:V}{u:Value}{Q:Unit->Shared->Prop}(I:Inv X pins σ H s)(e:H a=some (.ins C dx fs))(c:zC X.K C)(n:jQ X.K C f)(hl:fs.length<1000)(ry:bY y u)
  (h:∀s',Inv X pins σ (upd H a (.ins C dx (hZ f y fs))) s'->Q () s'):wpAny (model X.prog X.w) A (setAttr (.ref a) f u) Q E s:=by
 obtain⟨mA,O,r,wi,_,ho⟩:=mZ I.hok e;have hz:(fs.map (·.1)).length<=sizeLine:=by rw[ae,sizeLine_eq];omega
 refine CJ I.kIn O c.sa c.po n.taker c.hd wi hz λh' O' sb=>h _ ?_;have hd:∃o,h'.get? dx=some o:=let⟨o,_,_,e',_⟩:=O'.ns;⟨o,e'⟩;refine I.write (x:=a) (e:=dx) (by rw[e];exact True.intro) (.inr ho) (λb q hb z=>(sb.2 b hb).trans z) hd ?_;refine⟨by rw[aV O.ne];exact ho,?_,O.ne,O'.obj,_,O'.ns,λg=>?_,λg hg=>?_⟩
 ·have:=mw f y fs;omega
 ·show RelO ((hZ f y fs).lookup g) (if g=f then some u else mA g);rw[fh];by_cases q:g=f
  ·rw[bc q,bc q];exact ry
  ·rw[aM q,aM q];exact r g
 ·by_cases q:g=f
  ·rw[q];exact(lQ f y fs).1
  ·refine(lQ f y fs).2 g (wi g λz=>hg ?_);show(if g=f then some u else mA g)=none;rw[aM q];exact z
theorem Inv.made(I:Inv X pins σ H s):Inv X pins σ (upd (upd H s.heap.objs.size (.own (s.heap.objs.size+1))) (s.heap.objs.size+1) (.ins C s.heap.objs.size []))
  {s with heap:=(s.heap.push dn).push (eG C s.heap.objs.size)}:=by
 have e1:(s.heap.push dn).get? s.heap.objs.size=some dn:=br s.heap rfl;have e2:((s.heap.push dn).push (eG C s.heap.objs.size)).get? (s.heap.objs.size+1)=some (eG C s.heap.objs.size):=by
  have:=br (s.heap.push dn) (o:=eG C s.heap.objs.size) rfl;rwa[eZ]at this
 have e3:(s.heap.push dn).Ns s.heap.objs.size (λ_=>none):=⟨dn,#[],_,e1,rfl,(λe he=>absurd he Qs),λ_=>rfl⟩;have I1:=I.laid (a:=s.heap.objs.size) (o:=.own (s.heap.objs.size+1)) (h':=s.heap.push dn) (t':=s.toks) (λb u q=>av _ q) (aY _) ⟨_,e1⟩;refine I1.laid (a:=s.heap.objs.size+1) (o:=.ins C s.heap.objs.size []) (t':=s.toks) (λb u q=>av _ q) (Nat.le_of_eq (eZ _ _)) ?_;have ne:s.heap.objs.size≠s.heap.objs.size+1:=bp (fY _);refine⟨by rw[aV ne,ai],bO _,ne,e2,λ_=>none,(Heap.Ns1.of_empty e3).at λo q=>av _ q,λ_=>True.intro,λy hy=>absurd rfl hy⟩
theorem DG{prog:Program}{w:World}{env:Env}{e:Expr}{f:Str}{pos:Pos}{s:Shared}{Q:Value->Shared->Prop}(hb:attributeBase e f env (eval e env)=eval e env)
  (h:wpAny (model prog w) A (eval e env) (λo s₁=>wpAny (model prog w) A (getAttr o f true) Q E s₁) E s):wpAny (model prog w) A (eval (.Attribute e f pos) env) Q E s:=
 Attribute_any_ h (by rw[arm_eval_Attribute,hb])
end
def FI(K:ag)(ta:TE)(f:Str):TE:=λσ H Q=>ta σ H λx H1=>∃a C dx fs v,x=.ref a/\H1 a=some (.ins C dx fs)/\zC K C/\jQ K C f/\fs.lookup f=some v/\Q v H1
def G7(K:ag)(ta tv:TE)(f:Str):TS:=λD σ H=>tv σ H λy H1=>ta σ H1 λx H2=>∃a C dx fs,x=.ref a/\H2 a=some (.ins C dx fs)/\zC K C/\jQ K C f/\fs.length<1000/\
 D.nx σ (upd H2 a (.ins C dx (hZ f y fs)))
def GH(X:Cx)(op:Operator)(rd:V->V->Hp->VK->Prop):Prop:=
 ∀(pins:List (Addr×Obj))(s:Shared)(σ:St)(H:Hp)(x y:V)(u v:Value)(Q:VK),Inv X pins σ H s->bY x u->bY y v->rd x y H Q->wpAny (model X.prog X.w) X.A (inplaceOp op u v) (EP X pins σ Q) X.xe s
section
variable{X:Cx}{o e value:Expr}{f:Str}{pos pos' tpos:Pos}{ta tv:TE}
theorem gn(he:PE X e ta)(hb:attributeBase e f X.env (eval e X.env)=eval e X.env):PE X (.Attribute e f pos) (FI X.K ta f):=by
 intro pins s σ H Q I h;refine DG hb (dr (he pins s σ H _ I h) λu s1⟨x,H1,I1,rx,a,C,dx,fs,v,ex,ea,c,n,l,q⟩=>?_);subst ex;obtain rfl:u=Value.ref a:=rx;exact t0 I1 ea c n l λu' s2 I2 ru=>⟨v,H1,I2,ru,q⟩
theorem p9(ha:PE X o ta)(hv:PE X value tv)(hs:swapsWith value (some (.Attribute o f pos')) pos.line X.env=pure false):PS X (.Assign [.Attribute o f pos'] value pos) (G7 X.K ta tv f):=by
 intro pins s σ H D I h;refine plainObj_wpAny_Assign_Attribute (dr (hv pins s σ H _ I h) λu s1⟨y,H1,I1,ry,q⟩=>dr (ha pins s1 σ H1 _ I1 q) λov s2⟨x,H2,I2,rx,a,C,dx,fs,ex,ea,c,n,l,q2⟩=>?_) hs;subst ex;obtain rfl:ov=Value.ref a:=rx;exact sT I2 ea c n l ry λs3 I3=>⟨σ,_,I3,q2⟩
def Hg:V->V->Hp->VK->Prop:=λx y H Q=>∃i j,x=.int i/\y=.int j/\Q (.int (i+j)) H
theorem E1:GH X .Add Hg:=by
 rintro pins s σ H x y u v Q I rx ry⟨i,j,rfl,rfl,q⟩;obtain⟨t,rfl⟩:=(show∃t,u=Value.int i t from rx);obtain⟨t',rfl⟩:=(show∃t',v=Value.int j t' from ry);exact PyProof.Rows.iadd_int ⟨.int (i+j),H,I.tok _,⟨_,rfl⟩,q⟩
end
section
variable{X:Cx}{pins:List (Addr×Obj)}{σ:St}{H:Hp}{s:Shared}{A:Around}{E:Value->Shared->Prop}{Q:Value->Shared->Prop}{c:Value}{b:Bool}
inductive lu(K:ag)(H:Hp):V->Value->Prop where
 |non:lu K H .non (.type "NoneType")
 |bl (x:Bool):lu K H (.bl x) (.type "bool")
 |int (i:Int):lu K H (.int i) (.type "int")
 |str (x:Str):lu K H (.str x) (.type "str")
 |flt (x:UInt64):lu K H (.flt x) (.type "float")
 |lst {a:Addr} {xs:List V} (e:H a=some (.lst xs)):lu K H (.ref a) (.type "list")
 |frz {a:Addr} {o:Obj} {xs:List V} (e:H a=some (.frz o (.lst xs))):lu K H (.ref a) (.type "list")
 |tup {a:Addr} {xs:List V} (e:H a=some (.tup xs)):lu K H (.ref a) (.type "tuple")
 |dK {a:Addr} {kvs:List (dU×V)} (e:H a=some (.dK kvs)):lu K H (.ref a) (.type "dict")
 |dT {a:Addr} {kvs:List (List dU×V)} (e:H a=some (.dT kvs)):lu K H (.ref a) (.type "dict")
 | ins {a C dx:Addr} {fs:List (Str×V)} (e:H a=some (.ins C dx fs)) (cl:zC K C) (ha:bS K (.ref C) "__class__"=some (some (.builtin "object.__class__")))
   (hn:PySem.W.specialIn K (.builtin "object.__class__") "__get__"=some (some (.builtin "getset_descriptor.__get__"))) (htk:PySem.W.takesIn K (.builtin "object.__class__")=some true)
   (hm:PySem.W.mroIn K C (.type "object")=some true):lu K H (.ref a) (.ref C)
theorem yI{x:V}{u t:Value}(I:Inv X pins σ H s)(rx:bY x u)(ty:lu X.K H x t)(e:cg X.K t c=some b)(h:∀tk,Q (.bool b) {s with toks:=tk}):
  wpAny (model X.prog X.w) A (call (.builtin "isinstance") [u,c]) Q E s:=by
 cases ty with
 |non=>cases(show u=Value.none from rx);exact da PySem.W.kitx_none I.kIn True.intro e (λz=>nomatch z) h
 |bl y=>cases(show u=Value.bool y from rx);exact da PySem.W.kitx_bool I.kIn True.intro e (λz=>nomatch z) h
 |int i=>obtain⟨t,q⟩:=(show∃t,u=Value.int i t from rx);cases q;exact da PySem.W.kitx_int I.kIn True.intro e (λz=>nomatch z) h
 |str y=>obtain⟨t,q⟩:=(show∃t,u=Value.str y t from rx);cases q;exact da PySem.W.kitx_str I.kIn True.intro e (λz=>nomatch z) h
 |flt y=>obtain⟨t,q⟩:=(show∃t,u=Value.float y t from rx);cases q;exact da PySem.W.kitx_float I.kIn True.intro e (λz=>nomatch z) h
 | @lst a xs ea=>
  cases(show u=Value.ref a from rx);obtain⟨_,_,n,_,h1⟩:=(show ObjOk X.prog X.w H s.heap a (.lst xs)from I.hok a _ ea);exact da PySem.W.kitx_list I.kIn ⟨_,h1,rfl⟩ e (λz=>nomatch z) h
 | @frz a ob xs ea=>
  cases(show u=Value.ref a from rx);obtain⟨_,_,_,n,_,h1⟩:=(show ObjOk X.prog X.w H s.heap a (.frz ob (.lst xs))from I.hok a _ ea);exact da PySem.W.kitx_list I.kIn ⟨_,h1,rfl⟩ e (λz=>nomatch z) h
 | @tup a xs ea=>
  cases(show u=Value.ref a from rx);obtain⟨_,_,_,p⟩:=(show ObjOk X.prog X.w H s.heap a (.tup xs)from I.hok a _ ea);obtain⟨o,h1,h2,_⟩:=p;exact da PySem.W.kitx_tuple I.kIn ⟨o,h1,h2⟩ e (λz=>nomatch z) h
 | @dK a kvs ea=>
  cases(show u=Value.ref a from rx);obtain⟨_,_,vs,_,p⟩:=(show ObjOk X.prog X.w H s.heap a (.dK kvs)from I.hok a _ ea);obtain⟨o,es,ep,h1,h2,_⟩:=p;exact da PySem.W.kitx_dict I.kIn ⟨o,h1,h2.1⟩ e (λz=>nomatch z) h
 | @dT a kvs ea=>
  cases(show u=Value.ref a from rx);obtain⟨_,_,xs,_,o,es,ep,h1,h2,_⟩:=(show ObjOk X.prog X.w H s.heap a (.dT kvs)from I.hok a _ ea);exact da PySem.W.kitx_dict I.kIn ⟨o,h1,h2.1⟩ e (λz=>nomatch z) h
 | @ins a C dx fs ea cl ha hn htk hm=>
  cases(show u=Value.ref a from rx);obtain⟨mA,O,_⟩:=mZ I.hok ea;obtain⟨od,J,_⟩:=O.look;exact da (PySem.W.kitx_own (cl.get _) cl.hd ha hn htk hm) I.kIn J e (λz=>nomatch z) h
end
end L2
namespace L2
open PySem PySem.Spec PyProof.Rows
structure c_(k:Nat)(A:Around):Prop where
 hd:A.handled=none
 dp:A.depth+3*k+5<recursionLimit
 un:A.units+16*k+200<cLine
theorem c_.mono{j k:Nat}{A:Around}(r:c_ k A)(h:j<=k):c_ j A:=⟨r.hd,by have:=r.dp;omega,by have:=r.un;omega⟩
theorem c_.deeper{k:Nat}{A:Around}(r:c_ (k+1) A)(env:Env):c_ k (A.deeper env):=
 ⟨r.hd,by have:=r.dp;show A.depth+1+3*k+5<_;omega,by have:=r.un;show A.units+3+16*k+200<_;omega⟩
theorem tW{A:Around}{C:Addr}{us:List Value}{kw:List (Str×Value)}:(A.under (.builtin "type.__call__" ⟨.ref C::us,kw⟩)).depth=A.depth+1:=by
 first|rfl|simp[Around.under,Code.weight,Code.isCreation,Code.isGuard,Code.isCaller,Code.frames,Code.isFrame,guardIds]
theorem tV{A:Around}{C:Addr}{us:List Value}{kw:List (Str×Value)}:(A.under (.builtin "type.__call__" ⟨.ref C::us,kw⟩)).units=A.units+1:=by
 first|rfl|simp[Around.under,Code.cUnits,Code.frames,Code.isFrame]
theorem c_.make{k:Nat}{A:Around}(r:c_ (k+1) A)(C:Addr)(us:List Value)(kw:List (Str×Value)):c_ k (A.under (.builtin "type.__call__" ⟨.ref C::us,kw⟩)):=
 ⟨r.hd,by have:=r.dp;rw[tW];omega,by have:=r.un;rw[tV];omega⟩
theorem c_.depth{k:Nat}{A:Around}(r:c_ k A):A.depth<recursionLimit:=by have:=r.dp;omega
theorem c_.units{k:Nat}{A:Around}(r:c_ k A):A.units+64<cLine:=by have:=r.un;omega
def z_:TA:=λ_ H Q=>Q [] H
def FN(ta:TE)(tr:TA):TA:=λσ H Q=>ta σ H λx H1=>tr σ H1 λxs H2=>Q (x::xs) H2
section
variable{X:Cx}{e:Expr}{es:List Expr}{te:TE}{t:TA}{pos:Pos}
theorem pa_nil:PA X [] z_:=λ_ _ _ _ H Q I h=>Calls.spliced_nil ⟨[],H,I,.nil,h⟩
theorem pa_cons(ha:PE X e te)(hr:PA X es t)(hs:starEach (e::es) X.env=(false,eval e X.env)::starEach es X.env:=by rfl):PA X (e::es) (FN te t):=by
 intro pos pins s σ H Q I h;rw[hs];show wpAny _ _ (spliced ((false,eval e X.env)::backTo pos (starEach es X.env))) _ _ s;refine Calls.spliced_cons (dr (ha pins s σ H _ I h) λu s1⟨x,H1,I1,r1,q1⟩=>?_);exact dr (hr pos pins s1 σ H1 _ I1 q1) λus s2⟨xs,H2,I2,r2,q2⟩=>⟨x::xs,H2,I2,.cons r1 r2,q2⟩
def GS(t:TA):TE:=λσ H Q=>t σ H λxs H1=>xs.length<=sizeLine/\∀p,H1 p=none->Q (.ref p) (upd H1 p (.tup xs))
def GW(t:TA):TE:=λσ H Q=>t σ H λxs H1=>xs.length<=sizeLine/\∀p,H1 p=none->Q (.ref p) (upd H1 p (.lst xs))
theorem bX{x1}(h:PA X es t):PE X (.Tuple es x1 pos) (GS t):=by
 intro pins s σ H Q I hq;refine wpAny_Tuple_spliced (dr (h pos pins s σ H _ I hq) λus s1⟨xs,H1,I1,r,z,q⟩=>⟨by rw[<-r.length];exact z,?_⟩);have hf:H1 s1.heap.objs.size=none:=I1.hok.fresh (aY _);refine⟨.ref s1.heap.objs.size,upd H1 s1.heap.objs.size (.tup xs),I1.laid (t':=s1.toks) (λb u e=>av _ e) (aY _) ?_,rfl,q _ hf⟩;exact⟨z,us,r,⟨_,br _ rfl,rfl,_,rfl⟩⟩
theorem dC(h:PA X es t):PE X (.List es pos) (GW t):=by
 intro pins s σ H Q I hq;refine wpAny_List_spliced (dr (h pos pins s σ H _ I hq) λus s1⟨xs,H1,I1,r,z,q⟩=>⟨by rw[<-r.length];exact z,?_⟩);have hf:H1 s1.heap.objs.size=none:=I1.hok.fresh (aY _);refine⟨.ref s1.heap.objs.size,upd H1 s1.heap.objs.size (.lst xs),I1.laid (t':=s1.toks) (λb u e=>av _ e) (aY _) ?_,rfl,q _ hf⟩;exact⟨z,us,0,r,br _ rfl⟩
end
abbrev Sp:=List V->Hp->VK->XK->Prop
abbrev Ch:=List Env->Hp->Shared->XK->Value->Shared->Prop
structure Env0(P:Program)(w:World)(K:ag)(mg:Str->Option Value)(base:Heap)(A:Around)(outer:List Env)(s:Shared)(H:Hp):Prop where
 frames:A.frames=some outer
 mod:Mod K mg base
 bs:∀b o,base.get? b=some o->s.heap.get? b=some o/\H b=none
 bsz:base.objs.size<=s.heap.objs.size
 funs:s.heap.FunFrames base outer
 frf:∀b∈yN outer,H b=none
 hok:kf P w H s.heap
 bare:AllBare s.gens
def CE(outer:List Env)(P:Program)(w:World)(H:Hp)(s:Shared)(Q:VK)(u:Value)(s':Shared):Prop:=
 ∃v H',s'.os=s.os/\AllBare s'.gens/\Un (yN outer) [] H H' s.heap s'.heap/\kf P w H' s'.heap/\bY v u/\Q v H'
def CR(CX:Ch)(outer:List Env)(P:Program)(w:World)(H:Hp)(s:Shared)(Q:VK)(E:XK)(r:Result)(s':Shared):Prop:=
 match r with
 |.ok (.ret u)=>CE outer P w H s Q u s'
 |.ok _=>False
 |.error e=>CX outer H s E e s'
structure FnOk(P:Program)(w:World)(K:ag)(mg:Str->Option Value)(base:Heap)(CX:Ch)(k:Nat)(f:Addr)(fd:FuncData)(ps:List Str)(sp:Sp):Prop where
 len:∀vs H Q E,sp vs H Q E->vs.length=ps.length
 run:∀(A:Around)(outer:List Env)(s:Shared)(H:Hp)(args:Args)(us:List Value)(vs:List V)(Q:VK)(E:XK),c_ k A->Env0 P w K mg base A outer s H->BindsTo s fd args (ps.zip us)->cI vs us->sp vs H Q E->
  codeAny (model P w) A (.call (.ref f) args) (CR CX outer P w H s Q E) s
theorem Env0.make{P:Program}{w:World}{K:ag}{mg:Str->Option Value}{base:Heap}{A:Around}{outer:List Env}{s:Shared}{H:Hp}(e:Env0 P w K mg base A outer s H)(C:Addr)(us:List Value)(kw:List (Str×Value)):
  Env0 P w K mg base (A.under (.builtin "type.__call__" ⟨.ref C::us,kw⟩)) outer s H:=⟨by first|exact e.frames|(simpa[Around.under,Code.envs,Code.isFrame,pushEnvs]using e.frames),e.mod,e.bs,e.bsz,e.funs,e.frf,e.hok,e.bare⟩
section
variable{X:Cx}{pins:List (Addr×Obj)}{σ:St}{H:Hp}{s s':Shared}
theorem Inv.env0(I:Inv X pins σ H s):Env0 X.prog X.w X.K X.mg X.base X.A X.stack s H:=
 ⟨I.ok.frames,I.ok.mod,I.bs,ay I.ok.bsz I.sz,I.stack,I.stkFree,I.hok,I.bare⟩
theorem Inv.after{Q:VK}{u:Value}(I:Inv X pins σ H s)(h:CE X.stack X.prog X.w H s Q u s'):EP X pins σ Q u s':=by
 obtain⟨v,H',os,bare,un,hok,r,q⟩:=h;obtain⟨hh,g,d,t,os'⟩:=s';obtain rfl:os'=s.os:=os;exact⟨v,H',I.call (h':=hh) (g':=g) (d':=d) (t':=t) (ch:=[]) un hok bare (λb z=>absurd z Qs),r,q⟩
end
def D2(sp:Sp)(dvs:List V)(E:XK)(t:TA):TE:=λσ H Q=>t σ H λvs H1=>sp (vs++dvs) H1 Q E
def uW(C:Addr)(m:Str)(sp:Sp)(dvs:List V)(E:XK)(ta:TE)(t:TA):TE:=λσ H Q=>ta σ H λx H1=>∃a dx fs,x=.ref a/\H1 a=some (.ins C dx fs)/\fs.lookup m=none/\
 t σ H1 λvs H2=>sp (x::(vs++dvs)) H2 Q E
def D0(C:Addr)(sp:Sp)(dvs:List V)(E:XK)(t:TA):TE:=λσ H Q=>t σ H λvs H1=>∀x dx,H1 x=none->H1 dx=none->dx≠x->
 sp (.ref x::(vs++dvs)) (upd (upd H1 dx (.own x)) x (.ins C dx [])) (λv H2=>v=.non/\Q (.ref x) H2) E
def jl(K:ag)(fd:FuncData)(ps:List Str)(ds:List Value):Prop:=
 ∀(s:Shared)(us:List Value),K.In s.heap->(us++ds).length=ps.length->BindsTo s fd ⟨us,[]⟩ (ps.zip (us++ds))
theorem jl.all{K:ag}{fd:FuncData}{ps:List Str}(h:∀us:List Value,us.length=ps.length->bindArgs fd ⟨us,[]⟩=pure (ps.zip us)):jl K fd ps []:=λs us _ hl=>by
 rw[b_]at hl⊢;exact .of_eq (h us hl)
def kC(CX:Ch)(X:Cx)(E:XK):Prop:=∀(pins:List (Addr×Obj))(σ:St)(H:Hp)(s:Shared)(e:Value)(s':Shared),Inv X pins σ H s->CX X.stack H s E e s'->X.xe e s'
section
variable{X:Cx}{CX:Ch}{k:Nat}{f C:Addr}{fd:FuncData}{ps:List Str}{sp:Sp}{dvs:List V}{ds:List Value}{E:XK}{x m:Str}{p pos apos:Pos}{e o:Expr}{es:List Expr}{ta:TE}{t:TA}
theorem s_{pins:List (Addr×Obj)}{σ:St}{H:Hp}{s:Shared}{Q:VK}{us:List Value}{vs:List V}(F:FnOk X.prog X.w X.K X.mg X.base CX k f fd ps sp)(hr:c_ k X.A)(hb:jl X.K fd ps ds)(hd:cI dvs ds)(hx:kC CX X E)
  (I:Inv X pins σ H s)(r:cI vs us)(h:sp (vs++dvs) H Q E):wpAny (model X.prog X.w) X.A (call (.ref f) us) (EP X pins σ Q) X.xe s:=by
 have r2:cI (vs++dvs) (us++ds):=r.append hd;have hl:(us++ds).length=ps.length:=by rw[<-r2.length];exact F.len _ _ _ _ h
 refine wpAny_call (codeAny_mono (F.run X.A X.stack s H ⟨us,[]⟩ (us++ds) (vs++dvs) Q E hr I.env0 (hb s us I.kIn hl) r2 h) λr s' hq=>?_);cases r with
 |error e=>exact hx pins σ H s e s' I hq
 |ok fl=>
  cases fl with
  |ret u=>exact I.after hq
  |next=>exact False.elim hq
  |brk=>exact False.elim hq
  |cont=>exact False.elim hq
theorem C7(F:FnOk X.prog X.w X.K X.mg X.base CX k f fd ps sp)(hr:c_ k X.A)(hg:Gl X x)(hm:X.mg x=some (.ref f))(hk:az X.K (.ref f)=true)(hb:jl X.K fd ps ds)(hd:cI dvs ds)(hx:kC CX X E)
  (ha:PA X (e::es) t)(hdb:(x==("__debug__":Str))=false:=by decide)(he:starEach (e::es) X.env=(false,eval e X.env)::starEach es X.env:=by rfl)(hpl:(backTo pos (starEach es X.env)).any (·.1)=false:=by rfl):
  PE X (.Call (.Name x p) (e::es) [] pos) (D2 sp dvs E t):=by
 intro pins s σ H Q I h;refine je (qo I hg hm ?_ hdb);refine PySem.W.callWith_K (h₀:=X.base) I.ok.mod.kin hk (dr (ha pos pins s σ H _ I h) λus s1⟨vs,H1,I1,r,q⟩=>⟨I1.kIn,?_⟩) he hpl;exact s_ F hr hb hd hx I1 r q
theorem C3{pl:Sem Bool}(he:PE X o ta)(c:zC X.K C)(hm:Ce X.K C m f)(F:FnOk X.prog X.w X.K X.mg X.base CX k f fd ps sp)(hr:c_ k X.A)(hb:jl X.K fd ps ds)(hd:cI dvs ds)(hx:kC CX X E)(ha:PA X (e::es) t)
  (hst:starEach (e::es) X.env=(false,eval e X.env)::starEach es X.env:=by rfl)(hpl:(backTo pos (starEach es X.env)).any (·.1)=false:=by rfl)
  (ht:eval (.Call (.Attribute o m apos) (e::es) [] pos) X.env=(do
   let ov<-eval o X.env
   standAt apos.atName
   let(f,first)<-holding [ov] (getMethod ov m pl)
   callWith pos f first (backTo pos (starEach (e::es) X.env)) (backToKw pos (keywordEach [] X.env))):=by rfl):
  PE X (.Call (.Attribute o m apos) (e::es) [] pos) (uW C m sp dvs E ta t):=by
 intro pins s σ H Q I h;refine Cs (pl:=pl) (dr (he pins s σ H _ I h) λu s1⟨x,H1,I1,rx,a,dx,fs,ex,ea,l,q⟩=>?_) ht;subst ex;obtain rfl:u=Value.ref a:=rx;refine nY I1 ea c hm l ?_;refine PySem.W.callWith_K (first:=[.ref a]) (h₀:=X.base) I.ok.mod.kin hm.kp (dr (ha pos pins s1 σ H1 _ I1 q) λus s2⟨vs,H2,I2,r,q2⟩=>⟨I2.kIn,?_⟩) hst hpl;exact s_ (us:=.ref a::us) (vs:=.ref a::vs) F hr hb hd hx I2 (.cons rfl r) q2
theorem AR{pl:Sem Bool}(he:PE X o ta)(c:zC X.K C)(hm:Ce X.K C m f)(F:FnOk X.prog X.w X.K X.mg X.base CX k f fd ps sp)(hr:c_ k X.A)(hb:jl X.K fd ps ds)(hd:cI dvs ds)(hx:kC CX X E)
  (ht:eval (.Call (.Attribute o m apos) [] [] pos) X.env=(do
   let ov<-eval o X.env
   standAt apos.atName
   let(f,first)<-holding [ov] (getMethod ov m pl)
   callWith pos f first (backTo pos (starEach [] X.env)) (backToKw pos (keywordEach [] X.env))):=by rfl):
  PE X (.Call (.Attribute o m apos) [] [] pos) (uW C m sp dvs E ta z_):=by
 intro pins s σ H Q I h;refine Cs (pl:=pl) (dr (he pins s σ H _ I h) λu s1⟨x,H1,I1,rx,a,dx,fs,ex,ea,l,q⟩=>?_) ht;subst ex;obtain rfl:u=Value.ref a:=rx;refine nY I1 ea c hm l ?_;exact Em (first:=[.ref a]) I1.kIn hm.kp (s_ (us:=[.ref a]) (vs:=[.ref a]) F hr hb hd hx I1 (.cons rfl .nil) q)
structure Mk(K:ag)(C f:Addr):Prop where
 makes:iy K C=true
 init:bS K (.ref C) "__init__"=some (some (.ref f))
 fn:eJ K (.ref f)=true
 kp:az K (.ref C)=true
theorem AC{pins:List (Addr×Obj)}{σ:St}{H:Hp}{s:Shared}{Q:VK}{us:List Value}{vs:List V}(M:Mk X.K C f)(F:FnOk X.prog X.w X.K X.mg X.base CX k f fd ps sp)(hr:c_ (k+1) X.A)(hb:jl X.K fd ps ds)(hd:cI dvs ds)
  (hx:kC CX X E)(I:Inv X pins σ H s)(r:cI vs us)
  (h:∀x dx,H x=none->H dx=none->dx≠x->sp (.ref x::(vs++dvs)) (upd (upd H dx (.own x)) x (.ins C dx [])) (λv H2=>v=.non/\Q (.ref x) H2) E):
  wpAny (model X.prog X.w) X.A (call (.ref C) us) (EP X pins σ Q) X.xe s:=by
 have hq:=h (s.heap.objs.size+1) s.heap.objs.size (I.hok.fresh (jv _)) (I.hok.fresh (aY _)) (bp (fY _));have I2:=Inv.made (C:=C) I;have r2:cI (V.ref (s.heap.objs.size+1)::(vs++dvs)) (Value.ref (s.heap.objs.size+1)::(us++ds)):=.cons rfl (r.append hd);have hl:(Value.ref (s.heap.objs.size+1)::us++ds).length=ps.length:=by
  have e:=r2.length;rw[F.len _ _ _ _ hq]at e;exact e.symm
 refine wpAny_call (BA (f:=f) I.kIn M.makes M.init (beq_iff_eq.mp M.fn) (codeAny_mono (F.run _ X.stack _ _ ⟨Value.ref (s.heap.objs.size+1)::us,[]⟩ (Value.ref (s.heap.objs.size+1)::(us++ds)) _ _ E (hr.make C us [])
  (I2.env0.make C us []) (hb _ (Value.ref (s.heap.objs.size+1)::us) I2.kIn hl) r2 hq) λr s' hq'=>?_))
 cases r with
 |error e=>exact hx pins σ _ _ e s' I2 hq'
 |ok fl=>
  cases fl with
  |ret u=>
   obtain⟨v,H',I3,rv,ev,q3⟩:=I2.after hq';subst ev;exact⟨rv,⟨V.ref (s.heap.objs.size+1),H',I3,rfl,q3⟩⟩
  |next=>exact False.elim hq'
  |brk=>exact False.elim hq'
  |cont=>exact False.elim hq'
theorem AS(M:Mk X.K C f)(F:FnOk X.prog X.w X.K X.mg X.base CX k f fd ps sp)(hr:c_ (k+1) X.A)(hg:Gl X x)(hm:X.mg x=some (.ref C))(hb:jl X.K fd ps ds)(hd:cI dvs ds)(hx:kC CX X E)
  (hdb:(x==("__debug__":Str))=false:=by decide):PE X (.Call (.Name x p) [] [] pos) (D0 C sp dvs E z_):=by
 intro pins s σ H Q I h;refine je (qo I hg hm ?_ hdb);exact Em I.kIn M.kp (AC (us:=[]) M F hr hb hd hx I .nil h)
end
section
variable{X:Cx}{CX:Ch}{k:Nat}{f C:Addr}{fd:FuncData}{ps ks:List Str}{sp:Sp}{E:XK}{x m:Str}{p pos apos kpos:Pos}{e o:Expr}{es:List Expr}{kws:List Keyword}{te ta:TE}{t tk:TA}{nm:Option Str}
variable{g:List Value->List Value->List Value}{gV:List V->List V->List V}
end
structure bG(N P:List Str)(sc:Scope):Prop where
 kind:sc.kind=.function
 co:sc.isCoroutine=false
 gen:sc.isGenerator=false
 nd:N.Nodup
 pre:N.take P.length=P
 par:∀x∈P,sc.names.lookup x=some .local \/sc.names.lookup x=some .cell
 nofree:∀y∈sc.names,y.2≠ .free
theorem pL{kindOf:Str->Option NameKind}{x:Str}:∀{binds:List (Str×Value)}{m:Str->Option Value},(∀v,(x,v)∉binds)->bindL kindOf binds m x=m x
 |[],_,_=>rfl
 |(n,v)::r,m,h=>by
  unfold bindL;rw[pL λw hw=>h w (aq _ hw)];split
  ·have:x≠n:=by rintro rfl;exact h v au
   simp[this]
  ·rfl
theorem pN{kindOf:Str->Option NameKind}{x:Str}:∀{binds:List (Str×Value)}{m:Str->Option Value},(∀v,(x,v)∉binds)->bindC kindOf binds m x=m x
 |[],_,_=>rfl
 |(n,v)::r,m,h=>by
  unfold bindC;rw[pN λw hw=>h w (aq _ hw)];split
  ·rfl
  ·have:x≠n:=by rintro rfl;exact h v au
   simp[this]
theorem pM{kindOf:Str->Option NameKind}{x:Str}{v:Value}:∀{P:List Str}{vs:List Value}{i:Nat}{m:Str->Option Value},P.Nodup->P[i]?=some x->vs[i]?=some v->kindOf x=some .local ->
  bindL kindOf (P.zip vs) m x=some v
 |[],_,_,_,_,h,_,_=>by simp at h
 |_::_,[],_,_,_,_,h,_=>by simp at h
 |p::P,w::vs,0,m,nd,h1,h2,hk=>by
  simp at h1 h2;subst h1;subst h2;show bindL kindOf ((p,w)::P.zip vs) m p=_;unfold bindL;rw[pL λv hv=>(bM.mp nd).1 (sF hv).1,bc hk];simp
 |p::P,w::vs,i+1,m,nd,h1,h2,hk=>by
  show bindL kindOf ((p,w)::P.zip vs) m x=_;unfold bindL;exact pM (i:=i) (bM.mp nd).2 (by simpa using h1) (by simpa using h2) hk
theorem pO{kindOf:Str->Option NameKind}{x:Str}{v:Value}:∀{P:List Str}{vs:List Value}{i:Nat}{m:Str->Option Value},P.Nodup->P[i]?=some x->vs[i]?=some v->kindOf x≠some .local ->
  bindC kindOf (P.zip vs) m x=some v
 |[],_,_,_,_,h,_,_=>by simp at h
 |_::_,[],_,_,_,_,h,_=>by simp at h
 |p::P,w::vs,0,m,nd,h1,h2,hk=>by
  simp at h1 h2;subst h1;subst h2;show bindC kindOf ((p,w)::P.zip vs) m p=_;unfold bindC;rw[pN λv hv=>(bM.mp nd).1 (sF hv).1,aM hk];simp
 |p::P,w::vs,i+1,m,nd,h1,h2,hk=>by
  show bindC kindOf ((p,w)::P.zip vs) m x=_;unfold bindC;exact pO (i:=i) (bM.mp nd).2 (by simpa using h1) (by simpa using h2) hk
def mf(N:List Str)(vs:List V):St:=vs.map some++List.replicate (N.length-vs.length) none
def yS(CX:Ch)(P:Program)(w:World)(K:ag)(mg:Str->Option Value)(base:Heap)(N:List Str)(qual:Str)(scope:Scope)(f:Addr)(cd:Value)(A:Around)(outer:List Env)(s:Shared)(H:Hp)(E:XK):Cx where
 prog:=P
 w:=w
 K:=K
 mg:=mg
 base:=base
 A:=A.deeper (envOfC qual scope s.heap.objs.size f cd)
 N:=N
 s₀:=s
 H₀:=H
 env:=envOfC qual scope s.heap.objs.size f cd
 outer:=outer
 stack:=envOfC qual scope s.heap.objs.size f cd::outer
 ex:=[]
 calm:=true
 fn:=λ_=>true
 pn:=[]
 xe:=λe s'=>wpAny (model P w) (A.deeper (envOfC qual scope s.heap.objs.size f cd)) (leaving (envOfC qual scope s.heap.objs.size f cd) e) (λ_ s''=>CX outer H s E e s'') (λe' s''=>CX outer H s E e' s'') s'
theorem sh{sc:Scope}{n:Nat}{x:Str}(h:sc.names.lookup x=some .cell):∃c,(cellsFrom n sc.names []).lookup x=some c:=by
 have q:=Ci sc.names n [] (.inl h);exact Option.isSome_iff_exists.mp q
theorem yK{CX:Ch}{P:Program}{w:World}{K:ag}{mg:Str->Option Value}{base:Heap}{N ps:List Str}{qual:Str}{scope:Scope}{f:Addr}{cd:Value}{A:Around}{outer:List Env}{s s1:Shared}{H:Hp}{E:XK}{us:List Value}{vs:List V}
  (S:bG N ps scope)(hd:A.handled=none)(e0:Env0 P w K mg base A outer s H)(hl:vs.length=ps.length)(r:cI vs us)
  (x:InCallC s s.heap.objs.size (bindL (envOfC qual scope s.heap.objs.size f cd).kindOf (ps.zip us) λ_=>none) (cellsFrom (s.heap.objs.size+1) scope.names []) (bindC (envOfC qual scope s.heap.objs.size f cd).kindOf (ps.zip us) λ_=>none) s1):
  Inv (yS CX P w K mg base N qual scope f cd A outer s H E) [] (mf N vs) H s1:=by
 have hpl:ps.length<=N.length:=by have:=b6 List.length S.pre;rw[aQ]at this;omega
 obtain⟨h1,tk,rfl,hk⟩:=x.done;have noA:∀b:Addr,b∉(yS CX P w K mg base N qual scope f cd A outer s H E).ex:=λb z=>absurd (show b∈([]:List Addr)from z) Qs;refine⟨⟨e0.mod,S.kind,rfl,rfl,aY _,λy z c h1 h2=>?_,λy hy=>?_,λy c _ h=>?_,λ_=>hd,Around.frames_deeper e0.frames,.inr ⟨rfl,rfl⟩,λb z=>absurd z (noA b),e0.bs,e0.bsz,λb _ _=>noA b,λb z=>absurd z (noA b),e0.funs,e0.frf⟩,
  rfl,e0.bare,Un.kept hk,⟨_,x.toInCall.ns,λi y v h1 h2 h3=>?_⟩,λy c h=>⟨_,x.cell y c h⟩,e0.hok.fresh (aY _),λy c h=>?_,λp hp=>absurd (show p∈([]:List (Addr×Obj))from hp) Qs,e0.hok.kept hk,?_⟩
 ·exact name_of_addr x.apart (gi h1) (gi h2)
 ·have hy:scope.names.lookup y=some .cell \/scope.names.lookup y=some .free:=hy;rcases hy with hy|hy
  ·exact sh hy
  ·exact absurd rfl (S.nofree _ (gi hy))
 ·exact fZ (x.above y c (gi h))
 ·have hi:i<vs.length:=by
   unfold mf at h2;by_cases hi:i<vs.length
   ·exact hi
   ·rw[fR (by simpa using hi)]at h2;rw[zP]at h2;split at h2<;>cases h2
  have ha:vs[i]?=some v:=by
   unfold mf at h2;rw[jp (by simpa using hi),ap]at h2;cases e:vs[i]? with
   |none=>rw[e]at h2;cases h2
   |some a=>rw[e]at h2;cases h2;rfl
  obtain⟨u,hu,rv⟩:=r.get ha;have hp:ps[i]?=some y:=by
   rw[<-S.pre,eR Qo];exact h1
  have ndP:ps.Nodup:=by rw[<-S.pre];exact S.nd.sublist (gH _ _)
  refine⟨u,rv,?_⟩;rcases S.par y (ao hp)with k|k
  ·exact .inl ⟨k,pM ndP hp hu k⟩
  ·obtain⟨c,e⟩:=sh (n:=s.heap.objs.size+1) k;refine .inr ⟨.inl k,c,e,?_⟩;have q:=x.cell y c e;rw[pO ndP hp hu (by show scope.names.lookup y≠_;rw[k];decide)]at q;exact q
 ·exact e0.hok.fresh (fZ (x.above y c (gi h)))
 ·unfold mf;show _=N.length;rw[aI,ae,lF];omega
theorem Go{CX:Ch}{P:Program}{w:World}{K:ag}{mg:Str->Option Value}{base:Heap}{k:Nat}{f:Addr}{name qual:Str}{params:Arguments}{body:List Stmt}{scope:Scope}{dV kV doc pm cdv ct oc:Value}{an od:Option Addr}
  {osl:Array (Option Value)}{N ps:List Str}{sp:Sp}(lk:K.lookup f=some ⟨oc,od,.func (aR name qual params body scope dV kV doc pm an cdv ct),osl⟩)(hcd:aH K cdv qual=true)(S:bG N ps scope)
  (len:∀vs H Q E,sp vs H Q E->vs.length=ps.length)
  (hbody:∀(A:Around)(outer:List Env)(s:Shared)(H:Hp)(vs:List V)(Q:VK)(E:XK),c_ k (A.deeper (envOfC qual scope s.heap.objs.size f cdv))->sp vs H Q E->
   ∃t,PSs (yS CX P w K mg base N qual scope f cdv A outer s H E) body t/\t {nx:=λ_ H'=>Q .non H',rt:=Q} (mf N vs) H):
  FnOk P w K mg base CX (k+1) f (aR name qual params body scope dV kV doc pm an cdv ct) ps sp:=by
 refine⟨len,λA outer s H args us vs Q E hr e0 hb r hsp=>?_⟩;have hl:=len _ _ _ _ hsp;have KX:K.In s.heap:=e0.mod.kin.keeps λb o e=>(e0.bs b o e).1;have lim:s.heap.NoLimit:=e0.mod.nolimit.keeps λb o e=>(e0.bs b o e).1;have hkind:∀y∈ps.zip us,scope.names.lookup y.1=some .local \/(scope.names.lookup y.1=some .cell/\((cellsFrom (s.heap.objs.size+1) scope.names []).lookup y.1).isSome=true):=λ⟨n,v⟩hy=>by
  rcases S.par n (sF hy).1 with q|q
  ·exact .inl q
  ·exact .inr ⟨q,Ci _ _ _ (.inl q)⟩
 refine codeAny_call_function hr.depth (KX _ _ lk) rfl S.co S.gen rfl (PySem.W.codeRec_of KX hcd) (hb _ _ _ _ ?_);refine wpAny_newFunctionEnv_cells S.kind hkind λenv he s1 x=>?_;subst he;refine⟨lim.keeps x.toInCall.keep,codeAny_func ?_⟩;obtain⟨t,ht,hq⟩:=hbody A outer s H vs Q E (hr.deeper _) hsp;have I:Inv (yS CX P w K mg base N qual scope f cdv A outer s H E) [] (mf N vs) H s1:=yK S hr.hd e0 hl r x;refine d6 (ht [] s1 (mf N vs) H _ I hq) (λfl s' hs=>?_) λe s' hs=>hs;have fin:∀{σ':St}{H':Hp}{v:V}{u:Value},Inv (yS CX P w K mg base N qual scope f cdv A outer s H E) [] σ' H' s'->bY v u->Q v H'->CE outer P w H s Q u s':=
  λ{σ' H' v u}J rv q=>⟨v,H',J.os,J.bare,J.base,J.hok,rv,q⟩
 cases fl with
 |ret u=>
  obtain⟨v,σ',H',J,rv,q⟩:=hs;exact fin J rv q
 |next=>
  obtain⟨σ',H',J,q⟩:=hs;exact fin (v:=V.non) (u:=Value.none) J rfl q
 |brk=>
  obtain⟨_,_,_,q⟩:=hs;exact False.elim q
 |cont=>
  obtain⟨_,_,_,q⟩:=hs;exact False.elim q
end L2
namespace L2
open PySem PySem.Spec PyProof.Rows
section
variable{X:Cx}{x:Str}{p pos:Pos}{e:Expr}{es:List Expr}{t:TA}{id T:String}{r:List V->Hp->VK->Prop}
def HL(r:List V->Hp->VK->Prop)(t:TA):TE:=λσ H Q=>t σ H λvs H1=>r vs H1 Q
theorem pe_callB(hc:gj X (.builtin id) r)(hg:Gl X x)(hm:X.mg x=none)(hv:bootBuiltins x=some (.builtin id))(ha:PA X (e::es) t)(hn:x≠"__name__":=by decide)(hdb:(x==("__debug__":Str))=false:=by decide)
  (he:starEach (e::es) X.env=(false,eval e X.env)::starEach es X.env:=by rfl)(hpl:(backTo pos (starEach es X.env)).any (·.1)=false:=by rfl):PE X (.Call (.Name x p) (e::es) [] pos) (HL r t):=by
 intro pins s σ H Q I h;refine je (ky I hg hm hv ?_ hn hdb);exact PyProof.Rows.callWith_builtin1 (dr (ha pos pins s σ H _ I h) λus s1⟨vs,H1,I1,r1,q1⟩=>hc pins s1 σ H1 vs us Q I1 r1 q1) he hpl
theorem fT(hc:gj X (.type T) r)(hg:Gl X x)(hm:X.mg x=none)(hv:bootBuiltins x=some (.type T))(ha:PA X (e::es) t)(hn:x≠"__name__":=by decide)(hdb:(x==("__debug__":Str))=false:=by decide)
  (he:starEach (e::es) X.env=(false,eval e X.env)::starEach es X.env:=by rfl)(hpl:(backTo pos (starEach es X.env)).any (·.1)=false:=by rfl):PE X (.Call (.Name x p) (e::es) [] pos) (HL r t):=by
 intro pins s σ H Q I h;refine je (ky I hg hm hv ?_ hn hdb);exact dR (dr (ha pos pins s σ H _ I h) λus s1⟨vs,H1,I1,r1,q1⟩=>hc pins s1 σ H1 vs us Q I1 r1 q1) he hpl
end
end L2
namespace L2
open PySem PySem.Spec PyProof.Rows
section
variable{κ:Type}[DecidableEq κ]
def valV(kvs:List (κ×V))(k:κ):Option V:=(kvs.find? λkv=>decide (kv.1=k)).map (·.2)
def fM(kvs:List (κ×V))(k:κ)(v:V):List (κ×V):=
 if(kvs.any λkv=>decide (kv.1=k))=true then kvs.map (λkv=>if kv.1=k then(kv.1,v)else kv)else kvs++[(k,v)]
theorem g8{p:κ×V}{r:List (κ×V)}{k:κ}(e:p.1=k):valV (p::r) k=some p.2:=by simp[valV,eI,e]
theorem g9{p:κ×V}{r:List (κ×V)}{k:κ}(e:¬p.1=k):valV (p::r) k=valV r k:=by simp[valV,eI,e]
theorem iC(k:κ):∀kvs:List (κ×V),(kvs.any λkv=>decide (kv.1=k))=(valV kvs k).isSome
 |[]=>rfl
 |p::r=>by
  rw[ii];by_cases e:p.1=k
  ·simp only[g8 e,af e,Bool.true_or,Option.isSome_some]
  ·rw[g9 e,am e,Bool.false_or];exact iC k r
theorem fV(kvs:List (κ×V))(k:κ)(v:V):(fM kvs k v).length<=kvs.length+1:=by
 unfold fM;split
 ·rw[ae];omega
 ·rw[aI,bT,List.length_nil];omega
theorem gC{kvs:List (κ×V)}{k:κ}(v:V)(h:valV kvs k=none):fM kvs k v=kvs++[(k,v)]:=by
 unfold fM;rw[iC,h];exact aM Qd
theorem RelO.isSome_eq{o:Option V}{u:Option Value}(r:RelO o u):o.isSome=u.isSome:=by
 cases o with
 |none=>cases u with
  |none=>rfl
  |some _=>exact(show False from r).elim
 |some _=>cases u with
  |none=>exact(show False from r).elim
  |some _=>rfl
theorem RelO.getD{o:Option V}{u:Option Value}{d:V}{d':Value}(r:RelO o u)(rd:bY d d'):bY (o.getD d) (u.getD d'):=by
 cases o with
 |none=>cases u with
  |none=>exact rd
  |some _=>exact(show False from r).elim
 |some _=>cases u with
  |none=>exact(show False from r).elim
  |some _=>exact r
theorem KV.val{kvs:List (κ×V)}{vs:List (κ×Value)}(r:KV kvs vs)(k:κ):RelO (valV kvs k) (valueAt vs k):=by
 unfold KV at r;induction r with
 |nil=>exact True.intro
 | @cons p q ps qs h t ih=>
  obtain⟨h1,h2⟩:=h;by_cases e:p.1=k
  ·have e':q.1=k:=h1.symm.trans e;have b:valueAt (q::qs) k=some q.2:=by simp[valueAt,eI,e']
   rw[g8 e,b];exact h2
  ·have e':¬q.1=k:=λz=>e (h1.trans z);have b:valueAt (q::qs) k=valueAt qs k:=by simp[valueAt,eI,e']
   rw[g9 e,b];exact ih
theorem KV.any{kvs:List (κ×V)}{vs:List (κ×Value)}(r:KV kvs vs)(k:κ):(kvs.any λkv=>decide (kv.1=k))=vs.any λkv=>decide (kv.1=k):=by
 unfold KV at r;induction r with
 |nil=>rfl
 |cons h t ih=>rw[ii,ii,ih,h.1]
theorem KV.repl{kvs:List (κ×V)}{vs:List (κ×Value)}(r:KV kvs vs)(k:κ){y:V}{u:Value}(ry:bY y u):
  KV (kvs.map λkv=>if kv.1=k then(kv.1,y)else kv) (vs.map λkv=>if kv.1=k then(kv.1,u)else kv):=by
 unfold KV at r⊢;induction r with
 |nil=>exact .nil
 | @cons p q ps qs h t ih=>
  rw[aF,aF];refine .cons ?_ ih;obtain⟨h1,h2⟩:=h;by_cases e:p.1=k
  ·rw[bc e,bc (h1.symm.trans e)];exact⟨h1,ry⟩
  ·rw[aM e,aM (λz=>e (h1.trans z))];exact⟨h1,h2⟩
theorem KV.put{kvs:List (κ×V)}{vs:List (κ×Value)}(r:KV kvs vs)(k:κ){y:V}{u:Value}(ry:bY y u):KV (fM kvs k y) (stored vs k u):=by
 unfold fM stored;rw[r.any k];by_cases e:(vs.any λkv=>decide (kv.1=k))=true
 ·rw[bc e,bc e];exact r.repl k ry
 ·rw[aM e,aM e];exact Paired.snoc r ⟨rfl,ry⟩
theorem KV.length{kvs:List (κ×V)}{vs:List (κ×Value)}(r:KV kvs vs):kvs.length=vs.length:=Paired.length r
end
theorem k_{P:Program}{w:World}{k:dU}{u:Value}(r:bY (kV k) u):(b8 P w).is k u=true:=by
 cases k with
 |inl i=>obtain⟨t,e⟩:=(show∃t,u=Value.int i t from r);subst e;exact rq P w i t
 |inr x=>obtain⟨t,e⟩:=(show∃t,u=Value.str x t from r);subst e;exact fU P w x t
theorem pD{P:Program}{w:World}:∀{ks:List dU}{us:List Value},cI (ks.map kV) us->ItemsAre (b8 P w) ks us
 |[],_,r=>by rw[gJ]at r;cases r;exact .nil
 |k::ks,_,r=>by
  rw[aF]at r;cases r with
  |cons h t=>exact .cons (k_ h) (pD t)
abbrev KT(H:Hp):List (List dU×V)->List (List dU×Addr×Value)->Prop:=Paired λp q=>p.1=q.1/\H q.2.1=some (.tup (p.1.map kV))/\bY p.2 q.2.2
theorem KT.val{H:Hp}{kvs:List (List dU×V)}{xs:List (List dU×Addr×Value)}(r:KT H kvs xs)(k:List dU):RelO (valV kvs k) ((atKey xs k).map (·.2)):=by
 induction r with
 |nil=>exact True.intro
 | @cons p q ps qs h t ih=>
  obtain⟨h1,_,h2⟩:=h;by_cases e:p.1=k
  ·have e':q.1=k:=h1.symm.trans e;have b:atKey (q::qs) k=some q.2:=by simp[atKey,eI,e']
   rw[g8 e,b];exact h2
  ·have e':¬q.1=k:=λz=>e (h1.trans z);have b:atKey (q::qs) k=atKey qs k:=by simp[atKey,eI,e']
   rw[g9 e,b];exact ih
theorem KT.repl{H:Hp}{kvs:List (List dU×V)}{xs:List (List dU×Addr×Value)}(r:KT H kvs xs)(k:List dU){y:V}{u:Value}(ry:bY y u):
  KT H (kvs.map λkv=>if kv.1=k then(kv.1,y)else kv) (xs.map (putAt k u)):=by
 induction r with
 |nil=>exact .nil
 | @cons p q ps qs h t ih=>
  rw[aF,aF];refine .cons ?_ ih;obtain⟨h1,h2,h3⟩:=h;unfold putAt;by_cases e:p.1=k
  ·rw[bc e,bc (h1.symm.trans e)];exact⟨h1,h2,ry⟩
  ·rw[aM e,aM (λz=>e (h1.trans z))];exact⟨h1,h2,h3⟩
theorem KT.put{H:Hp}{kvs:List (List dU×V)}{xs:List (List dU×Addr×Value)}(r:KT H kvs xs)(k:List dU){b:Addr}{y:V}{u:Value}(hb:H b=some (.tup (k.map kV)))(ry:bY y u):
  KT H (fM kvs k y) (storedH xs k b u):=by
 have e:(kvs.any λkv=>decide (kv.1=k))=(atKey xs k).isSome:=by
  rw[iC,(r.val k).isSome_eq,oU]
 unfold fM storedH;rw[e];by_cases q:(atKey xs k).isSome=true
 ·rw[bc q,bc q];exact r.repl k ry
 ·rw[aM q,aM q];exact Paired.snoc r ⟨rfl,hb,ry⟩
theorem KT.keeps{H H':Hp}{kvs:List (List dU×V)}{xs:List (List dU×Addr×Value)}(r:KT H kvs xs)(ht:∀b ys,H b=some (.tup ys)->H' b=some (.tup ys)):KT H' kvs xs:=
 Paired.mapP r λ_ _ z=>⟨z.1,ht _ _ z.2.1,z.2.2⟩
section
variable{P:Program}{w:World}{H:Hp}{h:Heap}{a:Addr}
theorem AI{u:HO}(ok:kf P w H h)(e:Rd H a u):ObjOk P w H h a u:=e.ok ok
theorem iM{kvs:List (dU×V)}(ok:kf P w H h)(e:Rd H a (.dK kvs)):kvs.length<=sizeLine/\(a==sysModules)=false/\∃vs,KV kvs vs/\h.DictOf (b8 P w) a vs:=
 show ObjOk P w H h a (.dK kvs)from AI ok e
theorem BS{kvs:List (dU×V)}(ok:kf P w H h)(e:H a=some (.dK kvs)):kvs.length<=sizeLine/\(a==sysModules)=false/\∃vs,KV kvs vs/\h.DictOf (b8 P w) a vs:=iM ok (.inl e)
theorem jJ{ks:List dU}(ok:kf P w H h)(e:H a=some (.tup (ks.map kV))):(tupleKind (b8 P w)).is h ks a:=by
 obtain⟨_,its,r,o,h1,h2,n,h3⟩:=(show ObjOk P w H h a (.tup (ks.map kV))from ok a _ e);exact⟨o,its.toArray,n,h1,h2,h3,by simpa using pD r⟩
theorem my{kvs:List (List dU×V)}(ok:kf P w H h)(e:Rd H a (.dT kvs)):kvs.length<=sizeLine/\(a==sysModules)=false/\
  ∃xs,KT H kvs xs/\h.DictOfH (tupleKind (b8 P w)) a xs:=by
 obtain⟨z,y,xs,r,o,es,ep,h1,h2,h3,h4,h5⟩:=(show ObjOk P w H h a (.dT kvs)from AI ok e);refine⟨z,y,xs,r,o,es,ep,h1,h2,h3,h4,λx hx=>?_,h5⟩;have all:∀{l:List (List dU×V)}{m:List (List dU×Addr×Value)},KT H l m->∀x∈m,(tupleKind (b8 P w)).is h x.1 x.2.1:=by
  intro l m q;induction q with
  |nil=>intro x hx;exact nomatch hx
  | @cons p q ps qs hq t ih=>
   intro x hx;rcases bd.mp hx with e|hx
   ·subst e;exact jJ ok (by rw[<-hq.1];exact hq.2.1)
   ·exact ih x hx
 exact all r x hx
theorem Gp{kvs:List (List dU×V)}(ok:kf P w H h)(e:H a=some (.dT kvs)):kvs.length<=sizeLine/\(a==sysModules)=false/\
  ∃xs,KT H kvs xs/\h.DictOfH (tupleKind (b8 P w)) a xs:=my ok (.inl e)
end
theorem MV.val{H:Hp}{kvs:List (aJ×V)}{xs:List dE}(r:MV H kvs xs)(k:aJ):RelO (valV kvs k) (mAt xs k):=by
 induction r with
 |nil=>exact True.intro
 | @cons p q ps qs h t ih=>
  obtain⟨h1,_,h2⟩:=h;by_cases e:p.1=k
  ·have b:mAt (q::qs) k=some q.2.2:=by simp[mAt,eI,h1.symm.trans e]
   rw[g8 e,b];exact h2
  ·have b:mAt (q::qs) k=mAt qs k:=by simp[mAt,eI,show¬q.1=k fromλz=>e (h1.trans z)]
   rw[g9 e,b];exact ih
theorem MV.repl{H:Hp}{kvs:List (aJ×V)}{xs:List dE}(r:MV H kvs xs)(k:aJ){y:V}{u:Value}(ry:bY y u):MV H (kvs.map λkv=>if kv.1=k then(kv.1,y)else kv) (xs.map λx=>if x.1=k then(x.1,x.2.1,u)else x):=by
 induction r with
 |nil=>exact .nil
 | @cons p q ps qs h t ih=>
  rw[aF,aF];refine .cons ?_ ih;obtain⟨h1,h2,h3⟩:=h;by_cases e:p.1=k
  ·rw[bc e,bc (h1.symm.trans e)];exact⟨h1,h2,ry⟩
  ·rw[aM e,aM (λz=>e (h1.trans z))];exact⟨h1,h2,h3⟩
theorem MV.put{H:Hp}{kvs:List (aJ×V)}{xs:List dE}(r:MV H kvs xs)(k:aJ){z y:V}{key u:Value}(hk:k.at_ H z)(rk:bY z key)(ry:bY y u):MV H (fM kvs k y) (oJ xs k key u):=by
 have e:(kvs.any λkv=>decide (kv.1=k))=(mAt xs k).isSome:=by rw[iC,(r.val k).isSome_eq]
 unfold fM oJ;rw[e];by_cases q:(mAt xs k).isSome=true
 ·rw[bc q,bc q];exact r.repl k ry
 ·rw[aM q,aM q];exact Paired.snoc r ⟨rfl,⟨z,hk,rk⟩,ry⟩
theorem MV.keeps{H H':Hp}{kvs:List (aJ×V)}{xs:List dE}(r:MV H kvs xs)(ht:∀b ys,H b=some (.tup ys)->H' b=some (.tup ys)):MV H' kvs xs:=
 Paired.mapP r λ_ _ z=>⟨z.1,let⟨v,hv,rv⟩:=z.2.1;⟨v,hv.keep ht,rv⟩,z.2.2⟩
theorem tT{P:Program}{w:World}{H:Hp}{h:Heap}(ok:kf P w H h):∀{k:aJ}{y:V}{u:Value},k.at_ H y->bY y u->mI P w h k u
 |.inl x,_,_,⟨e,o⟩,r=>by
  subst e;exact⟨r,o⟩
 |.inr xs,_,_,⟨b,e,hb,o⟩,r=>by
  subst e;refine⟨⟨b,r,jJ ok ?_⟩,o⟩;rw[bm];exact hb
theorem mt{P:Program}{w:World}{H:Hp}{s:Shared}{A:Around}{a:Addr}{kvs:List (aJ×V)}{xs:List dE}{k:aJ}{y:V}{u:Value}(hu:A.units<cLine)(ok:kf P w H s.heap)(rel:MV H kvs xs)(D:MDict P w s.heap a xs)(mk:k.at_ H y)(ry:bY y u):gT P w A s xs k u:=by
 refine gT.of hu (let⟨_,_,_,_,_,_,_,n⟩:=D;n) ?_ (tT ok mk ry);clear D;induction rel with
 |nil=>exactλx hx=>(nomatch hx)
 | @cons p q ps qs hq t ih=>
  intro x hx;rcases bd.mp hx with e|hx
  ·subst e;obtain⟨e1,⟨v,hv,rv⟩,_⟩:=hq;rw[<-e1];exact tT ok hv rv
  ·exact ih x hx
theorem jO{P:Program}{w:World}{H:Hp}{h:Heap}{a:Addr}{kvs:List (aJ×V)}(ok:kf P w H h)(e:Rd H a (.dM kvs)):kvs.length<=sizeLine/\(a==sysModules)=false/\∃xs:List dE,MV H kvs xs/\MDict P w h a xs:=
 show ObjOk P w H h a (.dM kvs)from AI ok e
def eh(H:Hp)(a:Addr)(y:V)(r:Option V):Prop:=
 (∃kvs k,Rd H a (.dK kvs)/\y=kV k/\r=valV kvs k)\/(∃kvs k b,Rd H a (.dT kvs)/\y=.ref b/\H b=some (.tup (k.map kV))/\r=valV kvs k)\/∃kvs k,Rd H a (.dM kvs)/\aJ.at_ H k y/\r=valV kvs k
def lB(H:Hp)(a:Addr)(y v:V)(H':Hp):Prop:=
 (∃kvs k,H a=some (.dK kvs)/\y=kV k/\kvs.length<sizeLine/\H'=upd H a (.dK (fM kvs k v)))\/
 (∃kvs k b,H a=some (.dT kvs)/\y=.ref b/\H b=some (.tup (k.map kV))/\kvs.length<sizeLine/\H'=upd H a (.dT (fM kvs k v)))\/
 ∃kvs k,H a=some (.dM kvs)/\aJ.at_ H k y/\kvs.length<sizeLine/\H'=upd H a (.dM (fM kvs k v))
theorem eh.k{H:Hp}{a:Addr}{kvs:List (dU×V)}{k:dU}(e:H a=some (.dK kvs)):eh H a (kV k) (valV kvs k):=.inl ⟨kvs,k,.inl e,rfl,rfl⟩
theorem lB.k{H:Hp}{a:Addr}{kvs:List (dU×V)}{k:dU}{v:V}(e:H a=some (.dK kvs))(hl:kvs.length<sizeLine):lB H a (kV k) v (upd H a (.dK (fM kvs k v))):=.inl ⟨kvs,k,e,rfl,hl,rfl⟩
theorem eh.m{H:Hp}{a:Addr}{kvs:List (aJ×V)}{k:aJ}{y:V}(e:H a=some (.dM kvs))(mk:k.at_ H y):eh H a y (valV kvs k):=.inr (.inr ⟨kvs,k,.inl e,mk,rfl⟩)
theorem lB.m{H:Hp}{a:Addr}{kvs:List (aJ×V)}{k:aJ}{y v:V}(e:H a=some (.dM kvs))(mk:k.at_ H y)(hl:kvs.length<sizeLine):lB H a y v (upd H a (.dM (fM kvs k v))):=.inr (.inr ⟨kvs,k,e,mk,hl,rfl⟩)
section
variable{X:Cx}{pins:List (Addr×Obj)}{σ:St}{H:Hp}{s:Shared}{a:Addr}{y v:V}{u r:Value}{o:Option V}{A:Around}{E:Value->Shared->Prop}
theorem Inv.big(I:Inv X pins σ H s):sysModules<s.heap.objs.size:=by
 have h:mainGlobals<s.heap.objs.size:=(I.mod.glob.keeps I.bk).lt;exact oW Qd h
theorem pK{Q:Value->Shared->Prop}(hu:A.units+1<cLine)(I:Inv X pins σ H s)(g:eh H a y (some v))(ry:bY y u)(h:∀w' s',Inv X pins σ H s'->bY v w'->Q w' s'):
  wpAny (model X.prog X.w) A (getItem (.ref a) u) Q E s:=by
 rcases g with⟨kvs,k,e,ey,l⟩|⟨kvs,k,b,e,ey,eb,l⟩|⟨kvs,k,e,mk,l⟩
 ·subst ey;obtain⟨z,hd,vs,rel,dd⟩:=iM I.hok e;obtain⟨w',hw,rw'⟩:=RelO.some_of (v:=v) (o:=valueAt vs k) (by rw[l];exact rel.val k);exact wpAny_getItem_of (k_ ry) dd.mapOf hw (h w' _ (I.tok _) rw')
 ·subst ey;cases(show u=Value.ref b from ry);obtain⟨z,hd,xs,rel,dd⟩:=my I.hok e;obtain⟨w',hw,rw'⟩:=RelO.some_of (v:=v) (o:=(atKey xs k).map (·.2)) (by rw[l];exact rel.val k);obtain⟨p,hp,hp2⟩:=Option.map_eq_some_iff.mp hw;refine wpAny_getItem_heap (tupleKind_room_in1 hu) (jJ I.hok eb) dd hp ?_;rw[hp2];exact h w' _ (I.tok _) rw'
 ·obtain⟨z,hd,xs,rel,dd⟩:=jO I.hok e;obtain⟨w',hw,rw'⟩:=RelO.some_of (v:=v) (o:=mAt xs k) (by rw[l];exact rel.val k);exact tR (mt hu I.hok rel dd mk ry) dd hw λn=>h w' _ (I.tok _) rw'
theorem Hu{Q:Value->Shared->Prop}(hu:A.units+1<cLine)(I:Inv X pins σ H s)(g:eh H a y o)(ry:bY y u)(h:∀s',Inv X pins σ H s'->Q (.bool o.isSome) s'):
  wpAny (model X.prog X.w) A (compareOp .In u (.ref a)) Q E s:=by
 rcases g with⟨kvs,k,e,ey,l⟩|⟨kvs,k,b,e,ey,eb,l⟩|⟨kvs,k,e,mk,l⟩
 ·subst ey;obtain⟨z,hd,vs,rel,dd⟩:=iM I.hok e;refine wpAny_in_of (k_ ry) hd dd.mapOf ?_;rw[<-(rel.val k).isSome_eq,<-l];exact h _ (I.tok _)
 ·subst ey;cases(show u=Value.ref b from ry);obtain⟨z,hd,xs,rel,dd⟩:=my I.hok e;refine wpAny_in_heap (tupleKind_room_in1 hu) (jJ I.hok eb) hd dd ?_;have q:=(rel.val k).isSome_eq;rw[oU]at q;rw[<-q,<-l];exact h _ (I.tok _)
 ·obtain⟨z,hd,xs,rel,dd⟩:=jO I.hok e;refine F5 (mt hu I.hok rel dd mk ry) hd dd λn=>?_;rw[<-(rel.val k).isSome_eq,<-l];exact h _ (I.tok _)
theorem DD{Q:Value->Shared->Prop}(hu:A.units+1<cLine)(I:Inv X pins σ H s)(g:eh H a y o)(ry:bY y u)(h:∀s',Inv X pins σ H s'->Q (.bool (!o.isSome)) s'):
  wpAny (model X.prog X.w) A (compareOp .NotIn u (.ref a)) Q E s:=by
 rcases g with⟨kvs,k,e,ey,l⟩|⟨kvs,k,b,e,ey,eb,l⟩|⟨kvs,k,e,mk,l⟩
 ·subst ey;obtain⟨z,hd,vs,rel,dd⟩:=iM I.hok e;refine wpAny_notIn_of (k_ ry) hd dd.mapOf ?_;rw[<-(rel.val k).isSome_eq,<-l];exact h _ (I.tok _)
 ·subst ey;cases(show u=Value.ref b from ry);obtain⟨z,hd,xs,rel,dd⟩:=my I.hok e;refine wpAny_notIn_heap (tupleKind_room_in1 hu) (jJ I.hok eb) hd dd ?_;have q:=(rel.val k).isSome_eq;rw[oU]at q;rw[<-q,<-l];exact h _ (I.tok _)
 ·obtain⟨z,hd,xs,rel,dd⟩:=jO I.hok e;refine Bt (mt hu I.hok rel dd mk ry) hd dd λn=>?_;rw[<-(rel.val k).isSome_eq,<-l];exact h _ (I.tok _)
theorem i_{h':Heap}{t':Nat}{ob:HO}(I:Inv X pins σ H s)(mu:GE (H a))(hs:Heap.SameBut a s.heap h')(he:∃q,h'.get? a=some q)(new:ObjOk X.prog X.w (upd H a ob) h' a ob):
  Inv X pins σ (upd H a ob) {s with heap:=h',toks:=t'}:=
 I.write (x:=a) (e:=a) mu (.inl rfl) (λb q hb z=>(hs.2 b hb).trans z) he new
theorem qu{P:Program}{w:World}{H':Hp}{h':Heap}{kvs:List (dU×V)}{vs:List (dU×Value)}(z:kvs.length<=sizeLine)(hd:(a==sysModules)=false)(rel:KV kvs vs)(dd:h'.DictOf (b8 P w) a vs):
  ObjOk P w H' h' a (.dK kvs):=⟨z,hd,vs,rel,dd⟩
theorem pJ{H':Hp}{Q:Unit->Shared->Prop}(hu:A.units+1<cLine)(I:Inv X pins σ H s)(g:lB H a y v H')(ry:bY y u)(rv:bY v r)(h:∀s',Inv X pins σ H' s'->Q () s'):
  wpAny (model X.prog X.w) A (setItem (.ref a) u r) Q E s:=by
 rcases g with⟨kvs,k,e,ey,l,eH⟩|⟨kvs,k,b,e,ey,eb,l,eH⟩|⟨kvs,k,e,mk,l,eH⟩
 ·subst ey eH;obtain⟨z,hd,vs,rel,dd⟩:=BS I.hok e;have hz:vs.length<=sizeLine:=by rw[<-rel.length];exact z
  have hl:(fM kvs k v).length<=sizeLine:=by have:=fV kvs k v;omega
  refine wpAny_setItem_pairs (hsz:=hz) (k_ ry) dd λh' dd' hs=>h _ ?_;have he:∃q,h'.get? a=some q:=let⟨q,_,_,hq,_⟩:=dd';⟨q,hq⟩;exact i_ I (by rw[e];exact True.intro) hs he (qu hl hd (rel.put k rv) dd')
 ·subst ey eH;cases(show u=Value.ref b from ry);obtain⟨z,hd,xs,rel,dd⟩:=Gp I.hok e;have hz:xs.length<=sizeLine:=by rw[<-Paired.length rel];exact z
  have hl:(fM kvs k v).length<=sizeLine:=by have:=fV kvs k v;omega
  refine wpAny_setItem_heap (hsz:=hz) (tupleKind_room_in1 hu) (jJ I.hok eb) dd λh' dd' hs=>h _ ?_;obtain⟨q,es,ep,hq,h2,h3,h4,_,h5⟩:=dd';refine i_ I (by rw[e];exact True.intro) hs ⟨q,hq⟩ ⟨hl,hd,_,(rel.put k eb rv).keeps λc ys ec=>?_,q,es,ep,hq,h2,h3,h4,h5⟩;rw[aV (cU ec e (λz=>nomatch z))];exact ec
 ·subst eH;obtain⟨z,hd,xs,rel,dd⟩:=jO I.hok (.inl e);have hz:xs.length<=sizeLine:=by rw[<-Paired.length rel];exact z
  have hl:(fM kvs k v).length<=sizeLine:=by have:=fV kvs k v;omega
  refine tO (mt hu I.hok rel dd mk ry) dd hz λh' n dd' hs=>h _ ?_;have he:∃q,h'.get? a=some q:=let⟨q,_,_,hq,_⟩:=dd';⟨q,hq⟩;refine i_ I (by rw[e];exact True.intro) hs he ⟨hl,hd,_,(rel.put k mk ry rv).keeps λc ys ec=>?_,dd'⟩;rw[aV (cU ec e (λz=>nomatch z))];exact ec
end
section
variable{X:Cx}{pins:List (Addr×Obj)}{σ:St}{H:Hp}{s:Shared}{a:Addr}{kvs:List (dU×V)}{k:dU}{u:Value}{A:Around}{E:Value->Shared->Prop}
theorem Gr{Q:Value->Shared->Prop}(I:Inv X pins σ H s)(e:Rd H a (.dK kvs))(h:∀t s',Inv X pins σ H s'->Q (.int kvs.length t) s'):wpAny (model X.prog X.w) A (call (.builtin "len") [.ref a]) Q E s:=by
 obtain⟨z,hd,vs,rel,dd⟩:=iM I.hok e;refine call_len_dict hd dd (by rw[<-rel.length];rw[sizeLine_eq]at z;omega) ?_;rw[<-rel.length];exact h _ _ (I.tok _)
end
def GB(i:Expr):Prop:=∀ov iv,subscripted i false ov iv=operate [ov,iv] (getItem ov iv)
theorem CF{prog:Program}{w:World}{A:Around}{E:Value->Shared->Prop}{s:Shared}{env:Env}{value slice:Expr}{pos:Pos}{T id:String}{Q:Value->Shared->Prop}
  (hl:typeLookup (.type T) "__getitem__"=pure (some (.builtin id)))(hs:GB slice)
  (h:wpAny (model prog w) A (eval value env) (λo s₁=>wpAny (model prog w) A (eval slice env) (λi s₂=>s₂.TypeIs o T/\wpAny (model prog w) A (getItem o i) Q E s₂) E s₁) E s):
  wpAny (model prog w) A (eval (.Subscript value slice pos) env) Q E s:=by
 refine Subscript_ (d6 h (λo s₁ h₁=>d6 h₁ (λi s₂ h₂=>?_) λ_ _ x=>x) λ_ _ x=>x);obtain⟨hT,h₂⟩:=h₂;unfold subscriptTail;refine ak ?_;rw[getitemInPython_of_ne hT.not_modules];refine ak (wpAny_specialOf hT hl ?_);have fin:wpAny (model prog w) A (subscripted slice false o i) (λr s₃=>wpAny (model prog w) A (letTemporaryGo value o r>>=λ_=>pure r) Q E s₃) E s₂:=by
  rw[hs o i];exact wpAny_operating (d6 h₂ (λr s₃ h₃=>ak (wpAny_letTemporaryGo (aX h₃))) λ_ _ x=>x)
 first
  |exact aX (ak fin)
  |exact ak (aX (ak fin))
  |exact ak fin
theorem rZ{X:Cx}{pins:List (Addr×Obj)}{σ:St}{H:Hp}{s:Shared}{a:Addr}{y:V}{o:Option V}(I:Inv X pins σ H s)(g:eh H a y o):s.TypeIs (.ref a) "dict":=by
 rcases g with⟨kvs,k,e,_,_⟩|⟨kvs,k,b,e,_,_,_⟩|⟨kvs,k,e,_,_⟩
 ·obtain⟨_,_,vs,_,dd⟩:=iM I.hok e;exact dd.typeIs
 ·obtain⟨_,_,xs,_,dd⟩:=my I.hok e;exact dd.typeIs
 ·obtain⟨_,_,xs,_,dd⟩:=jO I.hok e;exact dd.typeIs
def FL(td ty:TE):TE:=λσ H Q=>td σ H λx H1=>ty σ H1 λy H2=>∃a v,x=.ref a/\eh H2 a y (some v)/\Q v H2
def G0(ty td:TE):TE:=λσ H Q=>ty σ H λy H1=>td σ H1 λx H2=>∃a o,x=.ref a/\eh H2 a y o/\Q (.bl o.isSome) H2
def CD(ty td:TE):TE:=λσ H Q=>ty σ H λy H1=>td σ H1 λx H2=>∃a o,x=.ref a/\eh H2 a y o/\Q (.bl (!o.isSome)) H2
def FS(td ty tv:TE):TS:=λD σ H=>tv σ H λv H1=>td σ H1 λx H2=>ty σ H2 λy H3=>∃a H4,x=.ref a/\lB H3 a y v H4/\D.nx σ H4
def FU(td ty tv:TE)(rd:V->V->Hp->VK->Prop):TS:=λD σ H=>td σ H λx H1=>ty σ H1 λy H2=>∃a v,x=.ref a/\eh H2 a y (some v)/\
 tv σ H2 λy2 H3=>rd v y2 H3 λz H4=>∃H5,lB H4 a y z H5/\D.nx σ H5
section
variable{X:Cx}{o i e value:Expr}{pos pos' tpos:Pos}{td ty tv:TE}
theorem gx(hu:X.A.units+1<cLine)(ho:PE X o td)(hi:PE X i ty)(hs:GB i):PE X (.Subscript o i pos) (FL td ty):=by
 intro pins s σ H Q I h;refine CF PySem.F.slot_dict_getitem.lookup hs (dr (ho pins s σ H _ I h) λu s1⟨x,H1,I1,rx,q1⟩=>dr (hi pins s1 σ H1 _ I1 q1) λiv s2⟨y,H2,I2,ry,a,v,ex,g,q2⟩=>?_);subst ex;obtain rfl:u=Value.ref a:=rx;exact⟨rZ I2 g,pK hu I2 g ry λw' s3 I3 rw'=>⟨v,H2,I3,rw',q2⟩⟩
theorem lO(hu:X.A.units+1<cLine)(hi:PE X i ty)(ho:PE X o td):PC X .In i o (G0 ty td):=by
 intro pins s σ H Q I h;refine dr (hi pins s σ H _ I h) λiv s1⟨y,H1,I1,ry,q1⟩=>dr (ho pins s1 σ H1 _ I1 q1) λu s2⟨x,H2,I2,rx,a,ov,ex,g,q2⟩=>?_;subst ex;obtain rfl:u=Value.ref a:=rx;exact Hu hu I2 g ry λs3 I3=>⟨.bl ov.isSome,H2,I3,rfl,q2⟩
theorem j4(hu:X.A.units+1<cLine)(hi:PE X i ty)(ho:PE X o td):PC X .NotIn i o (CD ty td):=by
 intro pins s σ H Q I h;refine dr (hi pins s σ H _ I h) λiv s1⟨y,H1,I1,ry,q1⟩=>dr (ho pins s1 σ H1 _ I1 q1) λu s2⟨x,H2,I2,rx,a,ov,ex,g,q2⟩=>?_;subst ex;obtain rfl:u=Value.ref a:=rx;exact DD hu I2 g ry λs3 I3=>⟨.bl (!ov.isSome),H2,I3,rfl,q2⟩
theorem j2(hu:X.A.units+1<cLine)(ho:PE X o td)(hi:PE X i ty)(hv:PE X value tv)(hs:swapsWith value (some (.Subscript o i pos')) pos.line X.env=pure false):
  PS X (.Assign [.Subscript o i pos'] value pos) (FS td ty tv):=by
 intro pins s σ H D I h;refine wpAny_Assign_Subscript (dr (hv pins s σ H _ I h) λr s1⟨v,H1,I1,rv,q1⟩=>dr (ho pins s1 σ H1 _ I1 q1) λu s2⟨x,H2,I2,rx,q2⟩=>dr (hi pins s2 σ H2 _ I2 q2) λiv s3⟨y,H3,I3,ry,a,H4,ex,g,q3⟩=>?_) hs;subst ex;obtain rfl:u=Value.ref a:=rx;exact pJ hu I3 g ry rv λs4 I4=>⟨σ,H4,I4,q3⟩
theorem C0{op:Operator}{rd:V->V->Hp->VK->Prop}(hu:X.A.units+1<cLine)(ho:PE X o td)(hi:PE X i ty)(hv:PE X value tv)(hop:GH X op rd)
  (ha:∀ov iv new,augStore i ov iv new=(do holding [new,ov,iv] (setItem ov iv new);release [new,ov,iv] [];pure .next)):PS X (.AugAssign (.Subscript o i tpos) op value pos) (FU td ty tv rd):=by
 intro pins s σ H D I h;refine wpAny_AugAssign_SubscriptAny (dr (ho pins s σ H _ I h) λu s1⟨x,H1,I1,rx,q1⟩=>dr (hi pins s1 σ H1 _ I1 q1) λiv s2⟨y,H2,I2,ry,a,v,ex,g,q2⟩=>?_) ha;subst ex;obtain rfl:u=Value.ref a:=rx;refine pK hu I2 g ry λw' s3 I3 rw'=>dr (hv pins s3 σ H2 _ I3 q2) λw2 s4⟨y2,H3,I4,ry2,q3⟩=>dr (hop pins s4 σ H3 v y2 w' w2 _ I4 rw' ry2 q3) λw3 s5⟨z,H4,I5,rz,H5,g5,q4⟩=>?_;exact pJ hu I5 g5 ry rz λs6 I6=>⟨σ,H5,I6,q4⟩
end
theorem rY{P:Program}{w:World}{H:Hp}(h:Heap)(hb:sysModules<h.objs.size):ObjOk P w H (h.push {cls:=.type "dict",data:=.dict #[]}) h.objs.size (.dK []):=
 ⟨bO _,beq_eq_false_iff_ne.mpr (Ne.symm (bp hb)),[],.nil,Heap.DictOf.new h⟩
def EB:TE:=λ_ H Q=>∀p,H p=none->Q (.ref p) (upd H p (.dK []))
section
variable{X:Cx}{pos:Pos}
theorem kW:PE X (.Dict [] [] pos) EB:=λpins s σ H Q I h=>
 wpAny_Dict_empty ⟨.ref s.heap.objs.size,_,I.laid (a:=s.heap.objs.size) (o:=.dK []) (t':=s.toks) (λ_ _ q=>av _ q) (aY _) (rY s.heap I.big),rfl,h _ (I.hok.fresh (aY _))⟩
end
def sN:List (TE×TE)->St->Hp->(List (V×V)->Hp->Prop)->Prop
 |[],_,H,Q=>Q [] H
 |(tk,tv)::r,σ,H,Q=>tk σ H λx H1=>tv σ H1 λy H2=>sN r σ H2 λps H3=>Q ((x,y)::ps) H3
abbrev VV:List (V×V)->List (Value×Value)->Prop:=Paired λp q=>bY p.1 q.1/\bY p.2 q.2
def PPs(X:Cx)(pos:Pos)(keys:List (Option Expr))(values:List Expr)(trs:List (TE×TE)):Prop:=
 ∀(pins:List (Addr×Obj))(s:Shared)(σ:St)(H:Hp)(Q:List (V×V)->Hp->Prop),Inv X pins σ H s->sN trs σ H Q->
  wpAny (model X.prog X.w) X.A (evalPairs (pairTrees keys values X.env pos)) (λvs s'=>∃ps H',Inv X pins σ H' s'/\VV ps vs/\Q ps H') X.xe s
theorem C1{X:Cx}{pos:Pos}:PPs X pos [] [] []:=λpins s σ H Q I h=>pairTrees_nil_walk ⟨[],H,I,.nil,h⟩
theorem AM{X:Cx}{pos:Pos}{k v:Expr}{ks:List (Option Expr)}{vs:List Expr}{tk tv:TE}{trs:List (TE×TE)}(hk:PE X k tk)(hv:PE X v tv)(hr:PPs X pos ks vs trs):
  PPs X pos (some k::ks) (v::vs) ((tk,tv)::trs):=λpins s σ H Q I h=>
 pairTrees_cons_walk (dr (hk pins s σ H _ I h) λu s1⟨x,H1,I1,rx,q1⟩=>dr (hv pins s1 σ H1 _ I1 q1) λw2 s2⟨y,H2,I2,ry,q2⟩=>
  dr (hr pins s2 σ H2 _ I2 q2) λws s3⟨ps,H3,I3,rel,q3⟩=>⟨(x,y)::ps,H3,I3,.cons ⟨rx,ry⟩ rel,q3⟩)
def jE(kvs more:List (dU×V)):List (dU×V):=more.foldl (λacc kv=>fM acc kv.1 kv.2) kvs
theorem KV.merge:∀{more:List (dU×V)}{rs:List (dU×Value)}{kvs:List (dU×V)}{vs:List (dU×Value)},KV more rs->KV kvs vs->KV (jE kvs more) (merged vs rs):=by
 intro more rs kvs vs r;unfold KV at r;induction r generalizing kvs vs with
 |nil=>intro q;exact q
 | @cons p q ps qs h t ih=>
  intro r0;have e:KV (fM kvs p.1 p.2) (stored vs q.1 q.2):=by
   have:=r0.put p.1 h.2;rw[<-h.1];exact this
  exact ih e
theorem ko:∀(more kvs:List (dU×V)),(jE kvs more).length<=kvs.length+more.length
 |[],kvs=>by show kvs.length<=kvs.length+0;omega
 |p::r,kvs=>by
  have h1:=ko r (fM kvs p.1 p.2);have h2:=fV kvs p.1 p.2;show(jE (fM kvs p.1 p.2) r).length<=_;rw[bT];omega
theorem oi{P:Program}{w:World}:∀{kvs:List (dU×V)}{ws:List (Value×Value)},VV (kvs.map λkv=>(kV kv.1,kv.2)) ws->∃rs,Carries (b8 P w) ws rs/\KV kvs rs
 |[],_,r=>by rw[gJ]at r;cases r;exact⟨[],True.intro,.nil⟩
 |p::kvs,_,r=>by
  rw[aF]at r;cases r with
  | @cons a b as bs h t=>
   obtain⟨rs,c,q⟩:=oi (P:=P) (w:=w) t;obtain⟨b1,b2⟩:=b;exact⟨(p.1,b2)::rs,⟨k_ h.1,rfl,c⟩,.cons ⟨rfl,h.2⟩ q⟩
def FK(trs:List (TE×TE)):TE:=λσ H Q=>∀p,H p=none->sN trs σ (upd H p (.dK [])) λps H2=>H2 p=some (.dK [])/\∃kvs:List (dU×V),ps=kvs.map (λkv=>(kV kv.1,kv.2))/\kvs.length<=15/\Q (.ref p) (upd H2 p (.dK (jE [] kvs)))
theorem C6{X:Cx}{pos:Pos}{keys:List (Option Expr)}{values:List Expr}{trs:List (TE×TE)}(h:PPs X pos keys values trs)(hall:keys.all (·.isSome)=true)(hl:keys.length=values.length)(h0:keys≠ [])
  (h15:keys.length<=15):PE X (.Dict keys values pos) (FK trs):=by
 intro pins s σ H Q I q;have hn:=I.hok.fresh (aY s.heap.objs.size);have I1:=I.laid (a:=s.heap.objs.size) (o:=.dK []) (h':=s.heap.push {cls:=.type "dict",data:=.dict #[]}) (t':=s.toks) (λ_ _ q=>av _ q) (aY _) (rY s.heap I.big);refine wpAny_Dict_walk (knd:=b8 X.prog X.w) hall hl h0 h15 (dr (h pins _ σ _ _ I1 (q _ hn)) λws s2⟨ps,H2,I2,rel,e,kvs,ep,lk,q2⟩=>?_);subst ep;obtain⟨rs,c,rk⟩:=oi (P:=X.prog) (w:=X.w) rel;obtain⟨z,hd,vs0,r0,dd⟩:=BS I2.hok e;cases r0;refine⟨rs,c,dd,λh' dd' hs=>⟨.ref s.heap.objs.size,_,?_,rfl,q2⟩⟩;have hz:(jE [] kvs).length<=sizeLine:=by
  have h1:=ko kvs [];rw[List.length_nil]at h1;rw[sizeLine_eq];omega
 have he:∃q,h'.get? s.heap.objs.size=some q:=let⟨q,_,_,hq,_⟩:=dd';⟨q,hq⟩;exact i_ I2 (by rw[e];exact True.intro) hs he (qu hz hd (rk.merge .nil) dd')
structure M1(X:Cx)(o:Expr)(m:Str)(apos:Pos)(e:Expr)(cpos:Pos):Prop where
 base:attributeBase o m X.env (eval o X.env)=eval o X.env
 few:((backTo cpos (starEach [e] X.env)).all (λx=>!x.1)&&(backToKw cpos (keywordEach [] X.env)).all (λx=>x.1.isSome)
  &&decide (([e]:List Expr).length +([]:List Keyword).length +(if([]:List Keyword).isEmpty then 0 else 1)<30))=true
 line:(apos.endLine==cpos.line)=true
 trees:backTo cpos (starEach [e] X.env)=[(false,eval e X.env)]
structure M2(X:Cx)(o:Expr)(m:Str)(apos:Pos)(e f:Expr)(cpos:Pos):Prop where
 base:attributeBase o m X.env (eval o X.env)=eval o X.env
 few:((backTo cpos (starEach [e,f] X.env)).all (λx=>!x.1)&&(backToKw cpos (keywordEach [] X.env)).all (λx=>x.1.isSome)
  &&decide (([e,f]:List Expr).length +([]:List Keyword).length +(if([]:List Keyword).isEmpty then 0 else 1)<30))=true
 line:(apos.endLine==cpos.line)=true
 trees:backTo cpos (starEach [e,f] X.env)=[(false,eval e X.env),(false,eval f X.env)]
def GG(H:Hp)(a:Addr):Prop:=(∃kvs,Rd H a (.dK kvs))\/(∃kvs,Rd H a (.dT kvs))\/∃kvs,Rd H a (.dM kvs)
theorem qp{X:Cx}{pins:List (Addr×Obj)}{σ:St}{H:Hp}{s:Shared}{a:Addr}(I:Inv X pins σ H s)(d:GG H a):
  s.TypeIs (.ref a) "dict"/\(∀b,Value.ref a=.ref b->∃ob,s.heap.get? b=some ob/\ob.dict=none)/\(a==sysModules)=false:=by
 rcases d with⟨kvs,e⟩|⟨kvs,e⟩|⟨kvs,e⟩
 ·obtain⟨_,hd,vs,_,dd⟩:=iM I.hok e;refine⟨dd.typeIs,λb q=>?_,hd⟩;cases q;obtain⟨ob,_,_,h1,h2,_⟩:=dd;exact⟨ob,h1,h2.2.1⟩
 ·obtain⟨_,hd,xs,_,dd⟩:=my I.hok e;refine⟨dd.typeIs,λb q=>?_,hd⟩;cases q;obtain⟨ob,_,_,h1,h2,_⟩:=dd;exact⟨ob,h1,h2.2.1⟩
 ·obtain⟨_,hd,xs,_,dd⟩:=jO I.hok e;refine⟨dd.typeIs,λb q=>?_,hd⟩;cases q;obtain⟨ob,_,_,h1,h2,_⟩:=dd;exact⟨ob,h1,h2.2.1⟩
section
variable{X:Cx}{pins:List (Addr×Obj)}{σ:St}{H:Hp}{s:Shared}{a:Addr}{y d:V}{u r:Value}{o:Option V}{A:Around}{E:Value->Shared->Prop}
theorem E9{Q:Value->Shared->Prop}(hu:A.units+1<cLine)(I:Inv X pins σ H s)(g:eh H a y o)(ry:bY y u)(h:∀w' s',Inv X pins σ H s'->bY (o.getD .non) w'->Q w' s'):
  wpAny (model X.prog X.w) A (call (.builtin "dict.get") [.ref a,u]) Q E s:=by
 rcases g with⟨kvs,k,e,ey,l⟩|⟨kvs,k,b,e,ey,eb,l⟩|⟨kvs,k,e,mk,l⟩
 ·subst ey;obtain⟨z,hd,vs,rel,dd⟩:=iM I.hok e;refine call_meetsIn cX dd.typeIs dQ (kh _ _) (meets_dict_get (b8 X.prog X.w) a (k_ ry) hd) ⟨_,dd.mapOf,h _ _ (I.tok _) ?_⟩;rw[l];exact(rel.val k).getD rfl
 ·subst ey;cases(show u=Value.ref b from ry);obtain⟨z,hd,xs,rel,dd⟩:=my I.hok e;refine call_meetsIn cX dd.typeIs dQ (kh _ _) (meetsH_dict_get (tupleKind (b8 X.prog X.w)) a b hd) ⟨tupleKind_room_in1 hu,k,xs,jJ I.hok eb,dd,h _ _ (I.tok _) ?_⟩;rw[l];exact(rel.val k).getD rfl
 ·obtain⟨z,hd,xs,rel,dd⟩:=jO I.hok e;refine call_meetsIn cX dd.typeIs dQ (kh _ _) (qe X.prog X.w a u hd) ⟨k,xs,mt hu I.hok rel dd mk ry,dd,λn=>h _ _ (I.tok _) ?_⟩;rw[l];exact(rel.val k).getD rfl
theorem E8{Q:Value->Shared->Prop}(hu:A.units+1<cLine)(I:Inv X pins σ H s)(g:eh H a y o)(ry:bY y u)(rd:bY d r)(h:∀w' s',Inv X pins σ H s'->bY (o.getD d) w'->Q w' s'):
  wpAny (model X.prog X.w) A (call (.builtin "dict.get") [.ref a,u,r]) Q E s:=by
 rcases g with⟨kvs,k,e,ey,l⟩|⟨kvs,k,b,e,ey,eb,l⟩|⟨kvs,k,e,mk,l⟩
 ·subst ey;obtain⟨z,hd,vs,rel,dd⟩:=iM I.hok e;refine call_meetsIn cX dd.typeIs dQ (kg _ _ _) (meets_dict_get_default (b8 X.prog X.w) a (k_ ry) hd r) ⟨_,dd.mapOf,h _ _ (I.tok _) ?_⟩;rw[l];exact(rel.val k).getD rd
 ·subst ey;cases(show u=Value.ref b from ry);obtain⟨z,hd,xs,rel,dd⟩:=my I.hok e;refine call_meetsIn cX dd.typeIs dQ (kg _ _ _) (meetsH_dict_get_default (tupleKind (b8 X.prog X.w)) a b hd r) ⟨tupleKind_room_in1 hu,k,xs,jJ I.hok eb,dd,h _ _ (I.tok _) ?_⟩;rw[l];exact(rel.val k).getD rd
 ·obtain⟨z,hd,xs,rel,dd⟩:=jO I.hok e;refine call_meetsIn cX dd.typeIs dQ (kg _ _ _) (oI X.prog X.w a u hd r) ⟨k,xs,mt hu I.hok rel dd mk ry,dd,λn=>h _ _ (I.tok _) ?_⟩;rw[l];exact(rel.val k).getD rd
end
def ED(td ty:TE):TE:=λσ H Q=>td σ H λx H1=>∃a,x=.ref a/\GG H1 a/\ty σ H1 λy H2=>∃o,eh H2 a y o/\Q (o.getD .non) H2
def EC(td ty tx:TE):TE:=λσ H Q=>td σ H λx H1=>∃a,x=.ref a/\GG H1 a/\ty σ H1 λy H2=>tx σ H2 λz H3=>∃o,eh H3 a y o/\Q (o.getD z) H3
section
variable{X:Cx}{o e f:Expr}{apos cpos:Pos}{td ty tx:TE}
theorem rb(hu:X.A.units+1<cLine)(ho:PE X o td)(he:PE X e ty)(m:M1 X o "get" apos e cpos):PE X (.Call (.Attribute o "get" apos) [e] [] cpos) (ED td ty):=by
 intro pins s σ H Q I h;refine jt m.base m.few m.line eY cX Cu (dr (ho pins s σ H _ I h) λu s1⟨x,H1,I1,rx,a,ex,d,q1⟩=>?_);subst ex;obtain rfl:u=Value.ref a:=rx;obtain⟨t1,t2,_⟩:=qp I1 d;refine⟨t1,t2,?_⟩;rw[m.trees];refine Calls.callWith_builtin rfl (Calls.evalArgs_plain (Calls.spliced_cons (dr (he pins s1 σ H1 _ I1 q1) λiv s2⟨y,H2,I2,ry,ov,g,q2⟩=>Calls.spliced_nil ?_)));exact E9 hu I2 g ry λw' s3 I3 rw'=>⟨_,H2,I3,rw',q2⟩
theorem ra(hu:X.A.units+1<cLine)(ho:PE X o td)(he:PE X e ty)(hf:PE X f tx)(m:M2 X o "get" apos e f cpos):PE X (.Call (.Attribute o "get" apos) [e,f] [] cpos) (EC td ty tx):=by
 intro pins s σ H Q I h;refine jt m.base m.few m.line eY cX Cu (dr (ho pins s σ H _ I h) λu s1⟨x,H1,I1,rx,a,ex,d,q1⟩=>?_);subst ex;obtain rfl:u=Value.ref a:=rx;obtain⟨t1,t2,_⟩:=qp I1 d;refine⟨t1,t2,?_⟩;rw[m.trees];refine Calls.callWith_builtin rfl (Calls.evalArgs_plain (Calls.spliced_cons (dr (he pins s1 σ H1 _ I1 q1) λiv s2⟨y,H2,I2,ry,q2⟩=>
  Calls.spliced_cons (dr (hf pins s2 σ H2 _ I2 q2) λfv s3⟨z,H3,I3,rz,ov,g,q3⟩=>Calls.spliced_nil ?_))))
 exact E8 hu I3 g ry rz λw' s4 I4 rw'=>⟨_,H3,I4,rw',q3⟩
end
section
variable{X:Cx}{pins:List (Addr×Obj)}{σ:St}{H:Hp}{s:Shared}{a:Addr}{kvs:List (dU×V)}{A:Around}{E:Value->Shared->Prop}
end
section
variable{X:Cx}{pins:List (Addr×Obj)}{σ:St}{H:Hp}{s:Shared}{a:Addr}{y:V}{u:Value}{A:Around}{E:Value->Shared->Prop}
end
end L2
namespace HT
open PySem PyProof.Rows
section
open PySem.SeqAt
open PySem.AutoSeq1 (wpAny_loadPart')
open PySem.MeetsSeq PySem.MeetsSeq2 PySem.MeetsSeq3
end
section
variable{prog:Program}{w:World}{A:Around}{E:Value->Shared->Prop}{s:Shared}
def sH(n d:Nat):Option Int->Nat
 |none=>d
 |some v=>if v<0 then(v+(n:Int)).toNat else min v.toNat n
theorem vL(n d k:Nat):sH n d (some (k:Int))=min k n:=by
 show(if(k:Int)<0 then((k:Int)+(n:Int)).toNat else min (k:Int).toNat n)=min k n;rw[aM Qo,jw]
end
end HT
namespace L2
open PySem PySem.Spec PyProof.Rows
abbrev TO:=St->Hp->(Option Int->Hp->Prop)->Prop
def PO(X:Cx)(e:Option Expr)(t:TO):Prop:=
 ∀(pins:List (Addr×Obj))(s:Shared)(σ:St)(H:Hp)(Q:Option Int->Hp->Prop),Inv X pins σ H s->t σ H Q->
  wpAny (model X.prog X.w) X.A (evalPart e X.env) (λu s'=>∃o H',Inv X pins σ H' s'/\IsPart u o/\Q o H') X.xe s
def CC:TO:=λ_ H Q=>Q none H
def FB(t:TE):TO:=λσ H Q=>t σ H λx H1=>∃i,x=.int i/\Q (some i) H1
theorem nX{ns:List Int}:∀{us:List Value},cI (ns.map V.int) us->IntsAre us ns:=by
 induction ns with
 |nil=>intro us r;rw[gJ]at r;cases r;exact .nil
 |cons n ns ih=>
  intro us r;rw[aF]at r;cases r with
  |cons r1 r2=>
   obtain⟨t,e⟩:=r1;subst e;exact .cons n t (ih r2)
section
variable{X:Cx}{e:Expr}{te:TE}{lo hi:Option Expr}{tl th:TO}{pos p2:Pos}
theorem p_:PO X none CC:=by
 intro pins s σ H Q I h;rw[evalPart_none];exact aX ⟨none,H,I,.none,h⟩
theorem iT(h:PE X e te):PO X (some e) (FB te):=by
 intro pins s σ H Q I hw;rw[evalPart_some];refine dr (h pins s σ H _ I hw) λu s1⟨x,H1,I1,r1,q1⟩=>?_;obtain⟨i,rfl,q⟩:=q1;obtain⟨t,rfl⟩:=r1;exact⟨some i,H1,I1,.int i t,q⟩
def Hz(X:Cx)(r:V->Option Int->Option Int->Hp->VK->Prop):Prop:=
 ∀(pins:List (Addr×Obj))(s:Shared)(σ:St)(H:Hp)(x:V)(v vl vu:Value)(lo hi:Option Int)(sl:Addr)(Q:VK),Inv X pins σ H s->bY x v->s.heap.IsSliceOf sl vl vu .none->IsPart vl lo->IsPart vu hi->r x lo hi H Q->
  ∃T id,typeLookup (.type T) "__getitem__"=pure (some (.builtin id))/\s.TypeIs v T/\wpAny (model X.prog X.w) X.A (getItem v (.ref sl)) (EP X pins σ Q) X.xe s
def Ic(r:V->Option Int->Option Int->Hp->VK->Prop)(te:TE)(tl th:TO):TE:=λσ H Q=>te σ H λx H1=>tl σ H1 λl H2=>th σ H2 λu H3=>r x l u H3 Q
theorem jC{r:V->Option Int->Option Int->Hp->VK->Prop}(hr:Hz X r)(he:PE X e te)(hl:PO X lo tl)(hu:PO X hi th):PE X (.Subscript e (.Slice lo hi none p2) pos) (Ic r te tl th):=by
 intro pins s σ H Q I h;refine Subscript_ (dr (he pins s σ H _ I h) λv s1⟨x,H1,I1,r1,q1⟩=>?_);refine wpAny_Slice (dr (hl pins s1 σ H1 _ I1 q1) λvl s2⟨l,H2,I2,pl,q2⟩=>dr (hu pins s2 σ H2 _ I2 q2) λvu s3⟨u,H3,I3,pu,q3⟩=>?_);rw[evalPart_none];refine aX ?_;have I4:Inv X pins σ H3 {s3 with heap:=s3.heap.push {cls:=.type "slice",data:=.fields #[vl,vu,.none]}}:=I3.kept (t':=s3.toks) λb ob q=>av _ q;obtain⟨T,id,hT,ht,hg⟩:=hr pins {s3 with heap:=s3.heap.push {cls:=.type "slice",data:=.fields #[vl,vu,.none]}} σ H3 x v vl vu l u s3.heap.objs.size Q I4 r1 (Heap.IsSliceOf.new ..) pl pu q3;show wpAny (model X.prog X.w) X.A (subscriptTail e (.Slice lo hi none p2) v (.ref s3.heap.objs.size)) (EP X pins σ Q) X.xe {s3 with heap:=s3.heap.push {cls:=.type "slice",data:=.fields #[vl,vu,.none]}};exact tail_any (ops:=[.ref s3.heap.objs.size,v]) ht hT hg Qw
def jP(xs:List V)(lo hi:Option Int):List V:=(xs.drop (HT.sH xs.length 0 lo)).take (HT.sH xs.length xs.length hi-HT.sH xs.length 0 lo)
theorem se(xs:List V)(lo hi:Option Int):(jP xs lo hi).length<=xs.length:=by
 unfold jP;rw[aQ,ki];omega
end
end L2
namespace L2
open PySem PySem.Spec PyProof.Rows
def Fu(n:Nat)(i:Int):Option Nat:=if 0<=i then(if i<n then some i.toNat else none)else if-(n:Int)<=i then some (i+n).toNat else none
def wS{α:Type}(xs:List α)(i:Int):Option α:=(Fu xs.length i).bind λj=>xs[j]?
theorem Dw{n:Nat}{i:Int}{j:Nat}(h:Fu n i=some j):seqIndex? i n=some j/\j<n/\-(n:Int)<=i/\i<n:=by
 unfold Fu at h;by_cases h0:0<=i
 ·rw[bc h0]at h;by_cases h1:i<n
  ·rw[bc h1]at h;have e:i.toNat=j:=Option.some.inj h;exact⟨by rw[seqIndex_of h0 h1,e],Qo,Qo,h1⟩
  ·rw[aM h1]at h;cases h
 ·rw[aM h0]at h;by_cases h1:-(n:Int)<=i
  ·rw[bc h1]at h;have e:(i+n).toNat=j:=Option.some.inj h;exact⟨by rw[seqIndex_neg Qo h1,e],Qo,h1,Qo⟩
  ·rw[aM h1]at h;cases h
theorem qy{α:Type}{xs:List α}{i:Int}{v:α}(h:wS xs i=some v):∃j,seqIndex? i xs.length=some j/\xs[j]?=some v/\j<xs.length/\-(xs.length:Int)<=i/\i<xs.length:=by
 unfold wS at h;cases e:Fu xs.length i with
 |none=>rw[e]at h;cases h
 |some j=>
  rw[e]at h;obtain⟨h1,h2,h3,h4⟩:=Dw e;exact⟨j,h1,h,h2,h3,h4⟩
theorem fz{α:Type}{xs:List α}{j:Nat}{v:α}(h:xs[j]?=some v):wS xs (j:Int)=some v:=by
 have hj:j<xs.length:=(bj.mp h).1;have e:Fu xs.length (j:Int)=some j:=by
  unfold Fu;rw[bc Qo,bc Qo];simp
 unfold wS;rw[e];exact h
def DJ(b:Expr):Prop:=∀o i,subscripted b false o i=operate [o,i] (getItem o i)
def Fw(X:Cx)(r:R2):Prop:=
 ∀(value slice:Expr)(pins:List (Addr×Obj))(s:Shared)(σ:St)(H:Hp)(x y:V)(v u:Value)(Q:VK),Inv X pins σ H s->bY x v->bY y u->r x y H Q->
  subscripted slice false v u=operate [v,u] (getItem v u)->wpAny (model X.prog X.w) X.A (subscriptTail value slice v u) (EP X pins σ Q) X.xe s
def HG(X:Cx)(id:String)(r:V->List V->Hp->VK->Prop):Prop:=
 ∀(pins:List (Addr×Obj))(s:Shared)(σ:St)(H:Hp)(x:V)(xs:List V)(v:Value)(us:List Value)(Q:VK),Inv X pins σ H s->bY x v->cI xs us->r x xs H Q->
  wpAny (model X.prog X.w) X.A (call (.builtin id) (v::us)) (EP X pins σ Q) X.xe s
section
variable{X:Cx}{a b:Expr}{ta tb:TE}{pos:Pos}
theorem bw{r:R2}(hr:Fw X r)(ha:PE X a ta)(hb:PE X b tb)(hs:DJ b):PE X (.Subscript a b pos) (FC r ta tb):=by
 intro pins s σ H Q I h;exact Subscript_ (E_ ha hb I h λv u s2 x y H2 I2 rx ry q=>hr a b pins s2 σ H2 x y v u Q I2 rx ry q (hs _ _))
def FX(K:ag):R2:=λx y H Q=>∃p xs i v,x=.ref p/\y=.int i/\SqL K H p xs/\wS xs i=some v/\Q v H
def FW(K:ag):R2:=λx y H Q=>∃p xs i v,x=.ref p/\y=.int i/\cG K H p xs/\wS xs i=some v/\Q v H
def Hd:R2:=λx y H Q=>∃z i c,x=.str z/\y=.int i/\z.length<=sizeLine/\wS z.cps.toList i=some c/\Q (.str ⟨#[c]⟩) H
theorem cP:Fw X (FX X.K):=by
 intro value slice pins s σ H x y v u Q I rx ry h hs;obtain⟨p,xs,i,z,rfl,rfl,hq,he,q⟩:=h;cases rx;obtain⟨t,rfl⟩:=ry;obtain⟨its,r,pl,hz⟩:=I.list hq;obtain⟨j,h1,h2,h3,h4,h5⟩:=qy he;obtain⟨w,ew,rw'⟩:=r.get h2;have hl:=r.length;have hn:=nU;have fin:EP X pins σ Q w s:=⟨z,H,I,rw',q⟩;by_cases h0:0<=i
 ·have hj:i.toNat=j:=by
   rw[seqIndex_of h0 h5]at h1;exact Option.some.inj h1
  exact item_listR pl.isList h0 Qo (by rw[hj];simpa using ew) fin hs
 ·have hj:(i+(its.toArray.size:Int)).toNat=j:=by
   rw[seqIndex_neg Qo h4]at h1;rw[bv,<-hl];exact Option.some.inj h1
  exact subscriptTail_builtinR (x:=w) pl.isList.typeIs slot_list_getitem.lookup
   (wpAny_getItem_list_neg (Q:=λr s'=>r=w/\EP X pins σ Q r s') pl.isList Qo (by rw[bv]<;>omega) Qo (by rw[hj];simpa using ew) ⟨rfl,fin⟩) hs
theorem bV:Fw X (FW X.K):=by
 intro value slice pins s σ H x y v u Q I rx ry h hs;obtain⟨p,xs,i,z,rfl,rfl,hq,he,q⟩:=h;cases rx;obtain⟨t,rfl⟩:=ry;obtain⟨its,r,pl,hz⟩:=I.tuple hq;obtain⟨j,h1,h2,h3,h4,h5⟩:=qy he;obtain⟨w,ew,rw'⟩:=r.get h2;have hl:=r.length;have hn:=nU;have fin:EP X pins σ Q w s:=⟨z,H,I,rw',q⟩;exact subscriptTail_builtinR (x:=w) pl.typeIs slot_tuple_getitem.lookup
  (getItem_tuple (j:=j) (Q:=λr s'=>r=w/\EP X pins σ Q r s') pl Qo Qo (by rw[bv,<-hl];exact h1) (by simpa using ew) ⟨rfl,fin⟩) hs
theorem tY:Fw X Hd:=by
 intro value slice pins s σ H x y v u Q I rx ry h hs;obtain⟨z,i,c,rfl,rfl,hz,he,q⟩:=h;obtain⟨t,rfl⟩:=rx;obtain⟨t',rfl⟩:=ry;obtain⟨j,h1,h2,h3,h4,h5⟩:=qy he;have hl:z.cps.toList.length=z.length:=by simp[Str.length]
 rw[hl]at h1 h4 h5;have hn:=nU;exact tail_any (typeIs_str s z t) slot_str_getitem.lookup (getItem_str (c:=c) (by
  have e1:decide (i< -(2^63:Int))=false:=am Qo;have e2:decide (i>=2^63)=false:=am Qo;rw[e1,e2,Bool.or_false]) (by rw[h1];simpa using h2) ⟨.str ⟨#[c]⟩,H,I.tok _,⟨_,rfl⟩,q⟩) hs
theorem pZ(lo hi:Option Int)(n:Nat):(sliceBounds lo hi none n).1=((HT.sH n 0 lo:Nat):Int)/\(sliceBounds lo hi none n).2.1=((HT.sH n n hi:Nat):Int)/\(sliceBounds lo hi none n).2.2=1:=by
 refine⟨?_,?_,rfl⟩
 ·cases lo with
  |none=>simp[sliceBounds,HT.sH]
  |some i=>
   simp only[sliceBounds,HT.sH,Option.getD_none,show(1:Int)>0 by decide,if_true];by_cases h:i<0
   ·simp only[h,if_true]<;>omega
   ·simp only[h,if_false]<;>omega
 ·cases hi with
  |none=>simp[sliceBounds,HT.sH]
  |some i=>
   simp only[sliceBounds,HT.sH,Option.getD_none,show(1:Int)>0 by decide,if_true];by_cases h:i<0
   ·simp only[h,if_true]<;>omega
   ·simp only[h,if_false]<;>omega
theorem oG(its:List Value)(lo hi:Option Int):slicePick its.toArray lo hi none=((its.drop (HT.sH its.length 0 lo)).take (HT.sH its.length its.length hi-HT.sH its.length 0 lo)).toArray:=by
 obtain⟨h1,h2,h3⟩:=pZ lo hi its.toArray.size;unfold slicePick;rw[h1,h2,h3];simp only[sliceRange_one,pick_run,bv]<;>rfl
def Hc(K:ag):V->Option Int->Option Int->Hp->VK->Prop:=λx lo hi H Q=>∃a xs,x=.ref a/\SqL K H a xs/\∀p,H p=none->Q (.ref p) (upd H p (.lst (jP xs lo hi)))
theorem p5:Hz X (Hc X.K):=by
 intro pins s σ H x v vl vu lo hi sl Q I rx hs pl pu h;obtain⟨a,xs,rfl,hx,q⟩:=h;cases rx;obtain⟨its,r,ht,hz⟩:=I.list hx;have hlen:=r.length;refine⟨"list",_,slot_list_getitem.lookup,ht.isList.typeIs,?_⟩;refine wpAny_getItem_list_slice ht.isList hs pl pu .none Qs ?_ (by rw[bv]<;>omega);rw[oG,<-hlen];refine⟨.ref s.heap.objs.size,_,I.laid (t':=s.toks) (o:=.lst (jP xs lo hi)) (λb ob q=>av _ q) (aY _) ?_,rfl,q _ (I.hok.fresh (aY _))⟩;exact⟨ay (se xs lo hi) hz,_,0,(r.drop (HT.sH xs.length 0 lo)).take (HT.sH xs.length xs.length hi-HT.sH xs.length 0 lo),br _ rfl⟩
def lf:V->Bool
 |.non=>true
 |.bl _=>true
 |.int _=>true
 |.str _=>true
 |_=>false
def DB:V->V->Bool
 |.non,.non=>true
 |.bl a,.bl b=>a==b
 |.bl a,.int b=>(if a then 1 else 0)==b
 |.int a,.bl b=>a==(if b then 1 else 0)
 |.int a,.int b=>a==b
 |.str a,.str b=>a==b
 |_,_=>false
theorem E6{A:Around}{s:Shared}{y x:V}{u v:Value}(ry:bY y u)(rx:bY x v)(fy:lf y=true)(fx:lf x=true):SeqAt.EqAt A s u v (DB y x):=by
 cases y with
 |non=>
  cases ry;cases x with
  |non=>cases rx;exact SeqAt.EqAt.same _
  |bl b=>cases rx;exact SeqAt.EqAt.none_bool b
  |int b=>obtain⟨t,rfl⟩:=rx;exact SeqAt.EqAt.none_int b t
  |str b=>obtain⟨t,rfl⟩:=rx;exact SeqAt.EqAt.none_str b t
  |_=>exact absurd (show false=true from fx) aG
 |bl a=>
  cases ry;cases x with
  |non=>cases rx;exact SeqAt.EqAt.bool_none a
  |bl b=>cases rx;exact SeqAt.EqAt.bool_bool a b
  |int b=>obtain⟨t,rfl⟩:=rx;exact SeqAt.EqAt.bool_int a b t
  |str b=>obtain⟨t,rfl⟩:=rx;exact SeqAt.EqAt.bool_str a b t
  |_=>exact absurd (show false=true from fx) aG
 |int a=>
  obtain⟨t',rfl⟩:=ry;cases x with
  |non=>cases rx;exact SeqAt.EqAt.int_none a t'
  |bl b=>cases rx;exact SeqAt.EqAt.int_bool a t' b
  |int b=>obtain⟨t,rfl⟩:=rx;exact SeqAt.EqAt.int_int a t' b t
  |str b=>obtain⟨t,rfl⟩:=rx;exact SeqAt.EqAt.int_str a t' b t
  |_=>exact absurd (show false=true from fx) aG
 |str a=>
  obtain⟨t',rfl⟩:=ry;cases x with
  |non=>cases rx;exact SeqAt.EqAt.str_none a t'
  |bl b=>cases rx;exact SeqAt.EqAt.str_bool a t' b
  |int b=>obtain⟨t,rfl⟩:=rx;exact SeqAt.EqAt.str_int a t' b t
  |str b=>obtain⟨t,rfl⟩:=rx;exact SeqAt.EqAt.str_str a t' b t
  |_=>exact absurd (show false=true from fx) aG
 |_=>exact absurd (show false=true from fy) aG
def uA(x:V)(u:Value):Bool:=match u with
 |.none=>DB .non x
 |.bool b=>DB (.bl b) x
 |.int i _=>DB (.int i) x
 |.str z _=>DB (.str z) x
 |_=>false
theorem BR{x y:V}{u:Value}(r:bY y u)(f:lf y=true):uA x u=DB y x:=by
 cases y with
 |non=>cases r;rfl
 |bl b=>cases r;rfl
 |int i=>obtain⟨t,rfl⟩:=r;rfl
 |str z=>obtain⟨t,rfl⟩:=r;rfl
 |_=>exact absurd (show false=true from f) aG
theorem lq{x:V}:∀{xs:List V}{us:List Value},cI xs us->xs.all lf=true->us.any (uA x)=xs.any λy=>DB y x
 |_,_,.nil,_=>rfl
 |y::xs,u::us,.cons r t,f=>by
  rw[zK,b7]at f;rw[ii,ii,BR r f.1,lq t f.2]
theorem jF{A:Around}{s:Shared}{x:V}{v:Value}(rx:bY x v)(fx:lf x=true):∀{xs:List V}{us:List Value},cI xs us->xs.all lf=true->∀u∈us,SeqAt.EqAt A s u v (uA x u)
 |_,_,.nil,_=>λu hu=>by cases hu
 |y::xs,u::us,.cons r t,f=>λu' hu=>by
  rw[zK,b7]at f;rcases bd.mp hu with rfl|hu
  ·rw[BR r f.1];exact E6 r rx f.1 fx
  ·exact jF rx fx t f.2 u' hu
def jm(x:V)(xs:List V):Bool:=xs.any λy=>DB y x
def FY(K:ag)(neg:Bool):R2:=λx y H Q=>∃p xs,y=.ref p/\(SqL K H p xs\/cG K H p xs)/\lf x=true/\xs.all lf=true/\Q (.bl (if neg then !jm x xs else jm x xs)) H
theorem gZ:kK X (compareOp .In) (FY X.K false):=by
 intro pins s σ H x y v u Q I rx ry h;obtain⟨p,xs,rfl,hq,fx,fs,q⟩:=h;cases ry;rcases hq with hq|hq
 ·obtain⟨its,r,pl,hz⟩:=I.list hq;refine SeqAt.in_listAt (uA x) pl.isList (λw hw=>jF rx fx r fs w (by simpa using hw)) ⟨.bl _,H,I,rfl,?_⟩;rw[show its.toArray.any (uA x)=its.any (uA x)by simp,lq r fs];exact q
 ·obtain⟨its,r,pl,hz⟩:=I.tuple hq;refine SeqAt.in_tupleAt (uA x) pl (λw hw=>jF rx fx r fs w (by simpa using hw)) ⟨.bl _,H,I,rfl,?_⟩;rw[show its.toArray.any (uA x)=its.any (uA x)by simp,lq r fs];exact q
theorem iW:kK X (compareOp .NotIn) (FY X.K true):=by
 intro pins s σ H x y v u Q I rx ry h;obtain⟨p,xs,rfl,hq,fx,fs,q⟩:=h;cases ry;rcases hq with hq|hq
 ·obtain⟨its,r,pl,hz⟩:=I.list hq;refine SeqAt.notIn_listAt (uA x) pl.isList (λw hw=>jF rx fx r fs w (by simpa using hw)) ⟨.bl _,H,I,rfl,?_⟩;rw[show its.toArray.any (uA x)=its.any (uA x)by simp,lq r fs];exact q
 ·obtain⟨its,r,pl,hz⟩:=I.tuple hq;refine SeqAt.notIn_tupleAt (uA x) pl (λw hw=>jF rx fx r fs w (by simpa using hw)) ⟨.bl _,H,I,rfl,?_⟩;rw[show its.toArray.any (uA x)=its.any (uA x)by simp,lq r fs];exact q
theorem call_len_seq:gj X (.builtin "len") (λxs H Q=>∃p ys,xs=[.ref p]/\(SqL X.K H p ys\/cG X.K H p ys)/\Q (.int ys.length) H):=by
 intro pins s σ H xs us Q I r h;obtain⟨p,ys,rfl,hq,q⟩:=h;obtain⟨u,rfl,rx⟩:=gL r;cases rx;have hn:=nU;rcases hq with hq|hq
 ·obtain⟨its,r',pl,hz⟩:=I.list hq;have hlen:=r'.length;exact Calls.call_len_list pl.isList (by simp only[bv]<;>omega) ⟨.int ys.length,H,I.tok _,⟨s.toks+1,by rw[bv,hlen]⟩,q⟩
 ·obtain⟨its,r',pl,hz⟩:=I.tuple hq;have hlen:=r'.length;exact len_tuple pl (by simp only[bv]<;>omega) ⟨.int ys.length,H,I.tok _,⟨s.toks+1,by rw[bv,hlen]⟩,q⟩
theorem ln:gj X (.builtin "len") (λxs H Q=>∃z,xs=[.str z]/\z.length<=sizeLine/\Q (.int z.length) H):=by
 intro pins s σ H xs us Q I r h;obtain⟨z,rfl,hz,q⟩:=h;obtain⟨u,rfl,t,rfl⟩:=gL r;have hn:=nU;exact len_str Qo ⟨.int z.length,H,I.tok _,⟨_,rfl⟩,q⟩
def GR(K:ag)(T:String)(x:V)(H:Hp):Prop:=match x with
 |.str _=>T="str"
 |.int _=>T="int"
 | .ref p=>(T="list"/\∃xs,SqL K H p xs)\/(T="tuple"/\∃o,K.lookup p=some o/\o.cls=.type "tuple"/\o.dict=none)\/
   (T="dict"/\((∃kvs,H p=some (.dK kvs))\/∃kvs,H p=some (.dT kvs)))\/(T="set"/\∃S n,H p=some (.set S n))
 |_=>False
theorem zW{pins:List (Addr×Obj)}{σ:St}{H:Hp}{s:Shared}{T:String}{x:V}{v:Value}(I:Inv X pins σ H s)(r:bY x v)(ty:GR X.K T x H):
  s.TypeIs v T/\∀a,v=.ref a->∃ob,s.heap.get? a=some ob/\ob.dict=none:=by
 cases x with
 |str z=>
  obtain⟨t,rfl⟩:=r;cases(show T="str"from ty);exact⟨typeIs_str s z t,λ_ e=>nomatch e⟩
 |int i=>
  obtain⟨t,rfl⟩:=r;cases(show T="int"from ty);exact⟨typeIs_int s i t,λ_ e=>nomatch e⟩
 |ref p=>
  cases r;rcases ty with⟨rfl,xs,hq⟩|⟨rfl,o,hk,hc,hd⟩|⟨rfl,hk⟩|⟨rfl,S,n,hk⟩
  ·obtain⟨its,_,pl,_⟩:=I.list hq;refine⟨pl.isList.typeIs,λa e=>?_⟩;cases e;obtain⟨o,n,e,c,hd,_⟩:=pl;exact⟨o,e,hd⟩
  ·refine⟨⟨o,I.kIn p o hk,hc⟩,λa e=>?_⟩;cases e;exact⟨o,I.kIn _ o hk,hd⟩
  ·have z:∃o,s.heap.get? p=some o/\o.ExactDict:=by
    rcases hk with⟨kvs,hk⟩|⟨kvs,hk⟩
    ·obtain⟨_,_,_,_,o,_,_,e,ex,_⟩:=I.hok p _ hk;exact⟨o,e,ex⟩
    ·obtain⟨_,_,_,_,o,_,_,e,ex,_⟩:=I.hok p _ hk;exact⟨o,e,ex⟩
   obtain⟨o,e,ex⟩:=z;refine⟨⟨o,e,ex.1⟩,λa e2=>?_⟩;cases e2;exact⟨o,e,ex.2.1⟩
  ·obtain⟨o,_,_,_,e,ex,_⟩:=I.hok p _ hk;refine⟨⟨o,e,ex.1⟩,λa e2=>?_⟩;cases e2;exact⟨o,e,ex.2.1⟩
 |_=>exact False.elim ty
def G5(K:ag)(T:String)(r:V->List V->Hp->VK->Prop)(to:TE):TE:=λσ H Q=>to σ H λx H1=>GR K T x H1/\r x [] H1 Q
def Ig(K:ag)(T:String)(r:V->List V->Hp->VK->Prop)(to:TE)(t:TA):TE:=λσ H Q=>to σ H λx H1=>GR K T x H1/\t σ H1 λxs H2=>r x xs H2 Q
variable{o e:Expr}{es:List Expr}{to:TE}{t:TA}{name:Str}{apos cpos:Pos}{T id:String}{r:V->List V->Hp->VK->Prop}
theorem EK(pa:PlainAttrs T)(slot:Slot T name id)(hty:typeOf (.builtin id)=pure (.type "method_descriptor"))(hm:HG X id r)(ho:PE X o to)
  (hbase:attributeBase o name X.env (eval o X.env)=eval o X.env:=by rfl)(hline:(apos.endLine==cpos.line)=true:=by rfl):PE X (.Call (.Attribute o name apos) [] [] cpos) (G5 X.K T r to):=by
 intro pins s σ H Q I h;refine wpAny_Call_method0_late hbase hline (dr (ho pins s σ H _ I h) λv s1⟨x,H1,I1,r1,ty,q1⟩=>?_);obtain⟨h1,h2⟩:=zW I1 r1 ty;exact⟨T,id,pa,slot,hty,h1,h2,Calls.callWith_builtin rfl (PySem.evalArgs_none (hm pins s1 σ H1 x [] v [] Q I1 r1 .nil q1))⟩
theorem iH(pa:PlainAttrs T)(slot:Slot T name id)(hty:typeOf (.builtin id)=pure (.type "method_descriptor"))(hm:HG X id r)(ho:PE X o to)(ha:PA X (e::es) t)
  (hbase:attributeBase o name X.env (eval o X.env)=eval o X.env:=by rfl)
  (hfew:((backTo cpos (starEach (e::es) X.env)).all (λx=>!x.1)&&(backToKw cpos (keywordEach [] X.env)).all (λx=>x.1.isSome)
   &&decide ((e::es).length +([]:List Keyword).length +(if([]:List Keyword).isEmpty then 0 else 1)<30))=true:=by rfl)
  (hline:(apos.endLine==cpos.line)=true:=by rfl) (hs:starEach (e::es) X.env=(false,eval e X.env)::starEach es X.env:=by rfl) (hplain:(backTo cpos (starEach es X.env)).any (·.1)=false:=by rfl):
  PE X (.Call (.Attribute o name apos) (e::es) [] cpos) (Ig X.K T r to t):=by
 intro pins s σ H Q I h;refine wpAny_Call_method_late hbase hfew hline rfl (dr (ho pins s σ H _ I h) λv s1⟨x,H1,I1,r1,ty,q1⟩=>?_);obtain⟨h1,h2⟩:=zW I1 r1 ty;refine⟨T,id,pa,slot,hty,h1,h2,?_⟩;have hA:=ha cpos pins s1 σ H1 _ I1 q1;rw[hs]at hA⊢;refine Calls.callWith_builtin (by show(false||(backTo cpos (starEach es X.env)).any (·.1))=false;rw[hplain]<;>rfl) (Calls.evalArgs_plain ?_);exact dr hA λus s2⟨vs,H2,I2,r2,q2⟩=>hm pins s2 σ H2 x vs v us Q I2 r1 r2 q2
end
end L2
namespace L2
open PySem PySem.Spec PyProof.Rows
def HH(X:Cx)(id:String)(r:V->List V->Hp->VK->Prop):Prop:=
 ∀(pins:List (Addr×Obj))(s:Shared)(σ:St)(H:Hp)(x:V)(xs:List V)(v:Value)(us:List Value)(Q:VK),Inv X pins σ H s->bY x v->cI xs us->r x xs H Q->
  wpAny (model X.prog X.w) X.A (call (.builtin id) (v::us)) (EP X pins σ Q) X.xe s
theorem cI.one:∀{x:V}{us:List Value},cI [x] us->∃u,us=[u]/\bY x u
 |_,_,.cons r .nil=>⟨_,rfl,r⟩
theorem cI.eraseIdx:∀{xs:List V}{us:List Value}(i:Nat),cI xs us->cI (xs.eraseIdx i) (us.eraseIdx i)
 |_,_,_,.nil=>.nil
 |_,_,0,.cons _ t=>t
 |_,_,i+1,.cons r t=>.cons r (cI.eraseIdx i t)
theorem pC{α:Type}:∀(l:List α)(i:Nat),(l.eraseIdx i).length<=l.length
 |[],_=>aY _
 |_::_,0=>jv _
 |_::r,i+1=>qG (pC r i)
section
variable{X:Cx}{pins:List (Addr×Obj)}{σ:St}{H:Hp}{s:Shared}{l b:Addr}{xs ys zs:List V}
theorem Inv.lset{its its':List Value}{n:Nat}{f:Array Value->Array Value}{t':Nat}(I:Inv X pins σ H s)(hH:H l=some (.lst xs))
  (e:s.heap.get? l=some {cls:=.type "list",data:=.seq its.toArray n})(hf:f its.toArray=its'.toArray)(hv:cI ys its')(hz:ys.length<=sizeLine):
  Inv X pins σ (upd H l (.lst ys)) {s with heap:=s.heap.update l (Obj.mapSeq f),toks:=t'}:=by
 have q:=PySem.IsL.update e f;rw[hf]at q;refine I.write (x:=l) (e:=l) (by rw[hH];exact trivial) (.inl rfl) (λb' u hb hu=>(kH s.heap (Obj.mapSeq f) (Ne.symm hb)).trans hu) ⟨_,q⟩ ?_;exact⟨hz,its',_,hv,q⟩
theorem Inv.lnew{its:List Value}{t':Nat}(I:Inv X pins σ H s)(hv:cI ys its)(hz:ys.length<=sizeLine):
  Inv X pins σ (upd H s.heap.objs.size (.lst ys)) {s with heap:=s.heap.push {cls:=.type "list",data:=.seq its.toArray},toks:=t'}:=
 I.laid (λ_ _ q=>av _ q) (aY _) ⟨hz,its,0,hv,br _ rfl⟩
theorem Inv.fresh(I:Inv X pins σ H s):H s.heap.objs.size=none:=I.hok.fresh (aY _)
theorem Inv.lstM(I:Inv X pins σ H s)(hH:H l=some (.lst xs)):xs.length<=sizeLine/\∃(its:List Value)(n:Nat),cI xs its/\xs.length=its.length/\s.heap.get? l=some {cls:=.type "list",data:=.seq its.toArray n}:=by
 obtain⟨z,its,n,r,e⟩:=I.hok l _ hH;exact⟨z,its,n,r,r.length,e⟩
theorem Bm{n:Nat}(h:n<=sizeLine):Builtin.List.listTooLong n=false:=by
 unfold Builtin.List.listTooLong;exact am Qo
end
section
variable{X:Cx}
def CY:V->List V->Hp->VK->Prop:=λx vs H Q=>∃l xs y,x=.ref l/\vs=[y]/\H l=some (.lst xs)/\xs.length<sizeLine/\Q .non (upd H l (.lst (xs++[y])))
theorem fu:HH X "list.append" CY:=by
 intro pins s σ H x vs v us Q I rx rv h;obtain⟨l,xs,y,rfl,rfl,hH,hz,q⟩:=h;cases rx;obtain⟨u,rfl,ru⟩:=rv.one;obtain⟨z,its,n,r,hl,e⟩:=I.lstM hH;refine call_meets F.slot_list_append ⟨_,e,rfl⟩ F.entry_list_append (F.args_list_append_2 _ _) (PySem.list_append l its.toArray n u (by rw[bv];omega)) ⟨e,?_⟩;refine⟨.non,_,I.lset (its':=its++[u]) hH e Qs (r.append (.cons ru .nil)) ?_,rfl,q⟩;rw[aI,lE];omega
def CW:V->List V->Hp->VK->Prop:=λx vs H Q=>∃l b xs zs,x=.ref l/\vs=[.ref b]/\H l=some (.lst xs)/\H b=some (.lst zs)/\xs.length+zs.length<=sizeLine/\Q .non (upd H l (.lst (xs++zs)))
theorem pz:HH X "list.extend" CW:=by
 intro pins s σ H x vs v us Q I rx rv h;obtain⟨l,b,xs,zs,rfl,rfl,hH,hB,hz,q⟩:=h;cases rx;obtain⟨u,rfl,ru⟩:=rv.one;cases ru;obtain⟨z,its,n,r,hl,e⟩:=I.lstM hH;obtain⟨z2,its2,n2,r2,hl2,e2⟩:=I.lstM hB;have hsz:its.toArray.size+its2.toArray.size<=sizeLine:=by rw[bv,bv];omega
 have hlong:¬(!its.toArray.isEmpty&&Builtin.List.listTooLong (its.toArray.size+its2.toArray.size))=true:=by
  rw[Bm hsz,l_];exact aG
 refine call_meets F.slot_list_extend ⟨_,e,rfl⟩ F.entry_list_extend (F.args_list_extend_2 _ _)
  (AutoSeq1.list_extend_list_list_0 l its.toArray n b its2.toArray n2 hlong (by rw[bv];omega) Qo) ⟨e,e2,?_⟩
 refine⟨.non,_,I.lset (its':=its++its2) hH e Qs (r.append r2) ?_,rfl,q⟩;rw[aI];omega
def EG:V->List V->Hp->VK->Prop:=λx vs H Q=>∃l xs i k y,x=.ref l/\vs=[.int i]/\H l=some (.lst xs)/\-(2^63)<=i/\i<2^63/\seqIndex? i xs.length=some k/\xs[k]?=some y/\Q y (upd H l (.lst (xs.eraseIdx k)))
theorem rm:HH X "list.pop" EG:=by
 intro pins s σ H x vs v us Q I rx rv h;obtain⟨l,xs,i,k,y,rfl,rfl,hH,h1,h2,hk,hy,q⟩:=h;cases rx;obtain⟨u,rfl,ru⟩:=rv.one;obtain⟨t,rfl⟩:=ru;obtain⟨z,its,n,r,hl,e⟩:=I.lstM hH;obtain⟨w,hw,rw'⟩:=r.get hy;refine call_meets F.slot_list_pop ⟨_,e,rfl⟩ F.entry_list_pop (F.args_list_pop_2 _ _)
  (MeetsSeq.list_pop_at l its.toArray n i t k w (fitsIndex_both h1 h2) (by rw[bv,<-hl];exact hk) (by rw[<-Cw];exact hw) (by rw[bv];omega)) ⟨e,?_⟩
 refine⟨y,_,I.lset (its':=its.eraseIdx k) hH e ?_ (r.eraseIdx k) ?_,rw',q⟩
 ·show its.toArray.eraseIdxIfInBounds k=(its.eraseIdx k).toArray;rw[List.eraseIdxIfInBounds_toArray]
 ·have:=pC xs k;omega
def Hf:R2:=λx y H Q=>∃l b xs zs,x=.ref l/\y=.ref b/\H l=some (.lst xs)/\H b=some (.lst zs)/\xs.length+zs.length<=sizeLine/\∀p,H p=none->Q (.ref p) (upd H p (.lst (xs++zs)))
theorem nK:kK X (binaryOp .Add) Hf:=by
 intro pins s σ H x y v u Q I rx ry h;obtain⟨l,b,xs,zs,rfl,rfl,hH,hB,hz,q⟩:=h;cases rx;cases ry;obtain⟨z,its,n,r,hl,e⟩:=I.lstM hH;obtain⟨z2,its2,n2,r2,hl2,e2⟩:=I.lstM hB;refine PySem.P.add_list e e2 ?_ (by rw[bv,bv];omega);have ea:its.toArray++its2.toArray=(its++its2).toArray:=Qs;rw[ea];exact⟨.ref _,_,I.lnew (t':=s.toks) (r.append r2) (by rw[aI];omega),rfl,q _ I.fresh⟩
end
section
variable{prog:Program}{w:World}{A:Around}{E:Value->Shared->Prop}{s:Shared}
set_option maxRecDepth 100000 in
end
section
variable{X:Cx}
end
end L2
namespace Att
open PySem PySem.W PySem.Calls PyProof.Rows
theorem mG{P:Params}{h:Heap}:∀(ns:List Int)(vs:List Value),WellAll P h vs (ns.map WData.int)->IntsAre vs ns:=by
 intro ns;induction ns with
 |nil=>
  intro vs w;rw[gJ]at w;cases w;exact .nil
 |cons n ns ih=>
  intro vs w;rw[aF]at w;cases w with
  |cons a b=>
   cases a;exact .cons _ _ (ih _ b)
theorem xD{l:OpenLaw}{n:Nat}(hn:l.most=some n){P:Params}{h:Heap}{args:List WData}{vals:List Value}
  (hpre:l.row.toRowW.claim.pre args=true)(hwl:WellAll P h vals args):
  ∃a vs ns,vals=[Value.ref a]/\args=[WData.list (ns.map WData.int)]/\h.get? a=some {cls:=.type "list",data:=.seq vs.toArray}/\IntsAre vs ns/\ns.length<=n:=by
 have hsh:WShape.hasAll [] args [.list .int]=true:=(pre_splitW hpre).1;have hc:l.pre.holds [] {args:=args}=true:=(pre_splitW hpre).2;obtain⟨d,r,rfl,h1,h2⟩:=hasAllW_cons hsh;obtain rfl:=hasAllW_nil h2;obtain⟨xs,rfl,h3⟩:=hasW_list h1;obtain⟨ns,rfl⟩:=items_int h3;have hlen:ns.length<=n:=by
  unfold OpenLaw.pre at hc;have h4:(WTm.not (.lt (.lit (.int (n:Int))) (.len (.arg 0)))).holds [] {args:=[.list (ns.map .int)]}=true:=by
   have h4:=(holds_andW hc).1;rw[hn]at h4;exact h4
  have h5:=condW_of h4 (w_not (w_lt w_lit (w_len_list (w_arg rfl))));rw[ae]at h5;refine Nat.le_of_not_lt λq=>?_;have q':(n:Int)<((ns.length:Nat):Int):=Qo
  first
   |(rw[af q']at h5;exact absurd h5 Qd)
   |(simp at h5;omega)
 cases hwl with
 |cons w1 w2=>
  cases w2;cases w1 with
  |list ho hall=>exact⟨_,_,ns,rfl,rfl,ho,mG ns _ hall,hlen⟩
theorem xK(l:OpenLaw)(args:List WData):l.row.toRowW.claim.post args (.bool true) args=true:=
 postW_of (r:=l.row.toRowW) (X:=(true==true))
  (show WShape.has [] (.bool true) .bool=true by first|rfl|decide|simp[WShape.has,WShape.arms,WShape.armsAll])
  (show(WTm.eq .res (.lit (.bool true))).value [] {args:=args,res:=some (.bool true),after:=args}=some (.bool (true==true))from w_eq_bool (w_res rfl) w_lit) rfl
theorem sj{l:OpenLaw}{n:Nat}{q:Program}{loose:List Str}{XP:(Str->Option Value)->Heap->Prop}{YP:World->Heap->Prop}{d:DefRec}
  (hn:l.most=some n)(hdf:d.params.defaults=[])
  (call:∀(w:World)(s₀ s₁:Shared)(mg mb:Str->Option Value)(fa:Addr)(o:Obj)(pm cd doc:Value)(a:Addr)(vs:List Value)(ns:List Int),
   Ground q loose [] XP w s₀ mg mb s₁.heap->YP w s₁.heap->
   s₁.heap.get? fa=some o->o.data=.func (docDef d.name d.params d.body d.scope pm cd doc)->s₁.heap.CodeRec cd d.name->mg d.name=some (.ref fa)->
   s₁.heap.get? a=some {cls:=.type "list",data:=.seq vs.toArray}->IntsAre vs ns->ns.length<=n->s₁.gens=#[]->
   codeAny (model l.prog w) callerA (.call (.ref fa) ⟨[.ref a],[]⟩) (λr s'=>r=.ok (.ret (.bool true))/\OldK s₁.heap s'.heap/\s'.os=s₁.os/\AllBare s'.gens) s₁):
  WalkO q loose XP YP l.row.toRowW d [] (λf vs=>PySem.call f vs):=by
 intro w s₀ s₁ mg mb G Y fa o pm cd doc dV kV ho hd hcd hD hmg hg args vals as hpre hlay hrd hwl hlo;obtain rfl:dV=.none:=Dflts.none hD hdf;obtain rfl:kV=.none:=Dflts.noKw hD;obtain⟨a,vs,ns,rfl,rfl,hobj,hints,hlen⟩:=xD hn hpre hwl;refine enter_call (codeAny_mono (call w s₀ s₁ mg mb fa o pm cd doc a vs ns G Y ho (fd_plain hd) hcd hmg hobj hints hlen hg) λr s' hq=>?_);obtain⟨rfl,h2,h3,h4⟩:=hq;exact⟨.inl ⟨.bool true,.bool true,[],rfl,λ_=>rfl,.bool true,xK l _,λ_=>⟨List.Pairwise.nil,λ_ hm=>(nomatch hm)⟩⟩,h2,h3,h4⟩
section
variable{prog:Program}{w:World}{A:Around}{E:Value->Shared->Prop}{s:Shared}{K:Frag}
end
end Att
namespace L2
open PySem PySem.Spec PyProof.Rows
theorem oZ:∀{vs:List Value}{ns:List Int},IntsAre vs ns->cI (ns.map V.int) vs
 |_,_,.nil=>.nil
 |_,_,.cons n t h=>.cons ⟨t,rfl⟩ (oZ h)
def Fj(H:Hp):Prop:=∀b,H b=none\/∃o xs,H b=some (.frz o (.lst xs))
theorem BE{P:Program}{w:World}{K:ag}{mg mb:Str->Option Value}{CX:Ch}{k:Nat}{fa a:Addr}{fd:FuncData}{x:Str}{sp:Sp}{s₁:Shared}{vs:List Value}{ns:List Int}
  (KX:K.In s₁.heap)(hns:s₁.heap.Ns mainGlobals mg)(hb:s₁.heap.Ns builtinsNs mb)(hbb:∀x:Str,x≠"__name__"->mb x=bootBuiltins x)(hlim:s₁.heap.NoLimit)(hg:s₁.gens=#[])
  (ha:s₁.heap.get? a=some {cls:=.type "list",data:=.seq vs.toArray})(hi:IntsAre vs ns)(hl:ns.length<=sizeLine)(hr:c_ k callerA)
  (F:∀base:Heap,K.In base->base.Ns mainGlobals mg->FnOk P w K mg base CX k fa fd [x] sp)(hbind:∀(s:Shared)(u:Value),BindsTo s fd ⟨[u],[]⟩ [(x,u)])
  (hsp:∀H:Hp,Fj H->SqL K H a (ns.map V.int)->sp [.ref a] H (λv _=>v=.bl true) λ_ _ _=>False)
  (hCX:∀H e s',CX [] H s₁ (λ_ _ _=>False) e s'->False):
  codeAny (model P w) callerA (.call (.ref fa) ⟨[.ref a],[]⟩) (λr s'=>r=.ok (.ret (.bool true))/\OldK s₁.heap s'.heap/\s'.os=s₁.os/\AllBare s'.gens) s₁:=by
 have rv:=oZ hi;have lenV:=hi.length;have core:∀H:Hp,Fj H->SqL K H a (ns.map V.int)->kf P w H s₁.heap->(∀b,H b≠none->b=a)->(H a≠none->K.lookup a=none)->
   codeAny (model P w) callerA (.call (.ref fa) ⟨[.ref a],[]⟩) (λr s'=>r=.ok (.ret (.bool true))/\OldK s₁.heap s'.heap/\s'.os=s₁.os/\AllBare s'.gens) s₁:=by
  intro H hO hS hok hA hK;have base_of:∀{b:Addr}{o:Obj},s₁.heap.get? b=some o->H b=none->(qr s₁.heap H).get? b=some o:=λe n=>BL e n;have noA:∀{b:Addr}{o:Obj}{es:Array DictEntry}{ep:Nat},s₁.heap.get? b=some o->o.data=.dict es ep->H b=none:=λ{b o es ep}e d=>by
   cases q:H b with
   |none=>rfl
   |some u=>
    have e':b=a:=hA b (by rw[q];simp);subst e';rw[ha]at e;cases e;have d':Data.seq vs.toArray _=Data.dict es ep:=d;cases d'
  have nsK:∀{b:Addr}{m:Str->Option Value},s₁.heap.Ns b m->(qr s₁.heap H).Ns b m:=λ{b m}⟨o,es,ep,e,d,r⟩=>⟨o,es,ep,base_of e (noA e d),d,r⟩;have hKb:K.In (qr s₁.heap H):=λb o e=>base_of (KX b o e) (by
   cases q:H b with
   |none=>rfl
   |some u=>
    have e':b=a:=hA b (by rw[q];simp);subst e';rw[hK (by rw[q];simp)]at e;cases e)
  have hM:Mod K mg (qr s₁.heap H):=⟨hKb,nsK hns,⟨mb,nsK hb,hbb⟩,let⟨mc,h1,h2⟩:=hlim;⟨mc,nsK h1,h2⟩⟩;have e0:Env0 P w K mg (qr s₁.heap H) callerA [] s₁ H:=⟨rfl,hM,λb o e=>Dj e,Nat.le_of_eq (yL _ _),trivial,λb hb=>absurd (show b∈([]:List Addr)from hb) Qs,hok,.of_eq hg⟩;refine codeAny_mono ((F _ hKb (nsK hns)).run callerA [] s₁ H ⟨[.ref a],[]⟩ [.ref a] [.ref a] _ _ hr e0 (hbind s₁ (.ref a)) (.cons rfl .nil) (hsp H hO hS)) λr s' h=>?_;cases r with
  |error e=>exact(hCX H e s' h).elim
  |ok fl=>
   cases fl with
   |next=>exact False.elim h
   |brk=>exact False.elim h
   |cont=>exact False.elim h
   |ret u=>
    obtain⟨v,H',os,bare,un,hok',r',q⟩:=h;have q':v=.bl true:=q;subst q';obtain rfl:u=Value.bool true:=r';refine⟨rfl,OldK.of_keep λb o e=>?_,os,bare⟩;cases q:H b with
    |none=>exact un.keep b o e q (by intro z;exact absurd (show b∈([]:List Addr)from z) Qs) Qs
    |some u=>
     rcases hO b with z|⟨ob,xs,z⟩
     ·rw[q]at z;cases z
     ·have z2:=un.frzs b ob _ z;obtain⟨e1,_⟩:=hok b _ z;obtain⟨e2,_⟩:=hok' b _ z2;rw[e]at e1;cases e1;exact e2
 cases hk:K.lookup a with
 |some o=>
  have e:=KX a o hk;rw[ha]at e;cases e;refine core (λ_=>none) (λ_=>.inl rfl) (.inr ⟨_,vs.toArray,_,hk,rfl,rfl,rfl,by rw[bv,lenV];exact hl,by simpa using rv⟩) (λb u z=>by have z':(none:Option HO)=some u:=z;cases z') (λb z=>absurd rfl z) λz=>absurd rfl z
 |none=>
  refine core (λb=>if b=a then some (.frz {cls:=.type "list",data:=.seq vs.toArray} (.lst (ns.map V.int)))else none) (λb=>?_) (.inl (.inr ⟨{cls:=.type "list",data:=.seq vs.toArray},bc rfl⟩)) (λb u z=>?_) (λb z=>?_) λ_=>hk
  ·by_cases hb:b=a
   ·exact .inr ⟨_,_,bc hb⟩
   ·exact .inl (aM hb)
  ·by_cases hb:b=a
   ·have z':=(bc hb).symm.trans z;cases z';subst hb;exact⟨ha,by rw[ae];exact hl,vs,_,rv,ha⟩
   ·have z':=(aM hb).symm.trans z;cases z'
  ·by_cases hb:b=a
   ·exact hb
   ·exact absurd (aM hb) z
end L2
namespace L2
open PySem PySem.Spec PyProof.Rows
theorem CA{l:sv}{n k:Nat}{q:Program}{loose:List Str}{XP:(Str->Option Value)->Heap->Prop}{YP:World->Heap->Prop}{d:DefRec}{K:Params->ag}{CX:World->Ch}{sp:World->Sp}{x:Str}
  (hn:l.most=some n)(hn2:n<=sizeLine)(hdf:d.params.defaults=[])(hr:c_ k callerA)
  (hY:∀(w:World)(h:Heap),YP w h->(K w.params).In h)
  (F:∀(w:World)(mg:Str->Option Value)(fa:Addr)(h:Heap),(K w.params).In h->h.Ns mainGlobals mg->mg d.name=some (.ref fa)->
   ∃fd:FuncData,(∀(s:Shared)(u:Value),BindsTo s fd ⟨[u],[]⟩ [(x,u)])/\
    ∀base:Heap,(K w.params).In base->base.Ns mainGlobals mg->FnOk l.prog w (K w.params) mg base (CX w) k fa fd [x] (sp w))
  (hsp:∀(w:World)(H:Hp)(a:Addr)(ns:List Int),ns.length<=n->Fj H->SqL (K w.params) H a (ns.map V.int)->sp w [.ref a] H (λv _=>v=.bl true) λ_ _ _=>False)
  (hCX:∀(w:World)(H:Hp)(s:Shared)(e:Value)(s':Shared),CX w [] H s (λ_ _ _=>False) e s'->False):
  PySem.W.WalkO q loose XP YP l.row.toRowW d [] (λf vs=>PySem.call f vs):=by
 refine Att.sj hn hdf λw s₀ s₁ mg mb fa o pm cd doc a vs ns G Y ho hd hcd hmg hobj hints hlen hg=>?_;have KX:=hY w _ Y;obtain⟨fd,hb,hF⟩:=F w mg fa _ KX G.T.g hmg;exact BE KX G.T.g G.T.b G.T.builtins G.T.nolimit hg hobj hints (ay hlen hn2) hr hF hb (λH hO hS=>hsp w H a ns hlen hO hS) λH e s'=>hCX w H s₁ e s'
end L2
namespace L2
open PySem PySem.Spec PyProof.Rows
def j6(s:Stmt)(j:Nat):Stmt:=match s with
 |.ClassDef _ _ _ body _ _ _ _ _ _ _=>body.getD j (.Pass ⟨0,0,0,0⟩)
 |_=>.Pass ⟨0,0,0,0⟩
def bB(s:Stmt):Arguments:=match s with
 |.FunctionDef _ a _ _ _ _ _ _ _ _=>a
 |_=>{posonlyargs:=[],args:=[],vararg:=none,kwonlyargs:=[],kw_defaults:=[],kwarg:=none,defaults:=[]}
def bA(s:Stmt):List Stmt:=match s with
 |.FunctionDef _ _ b _ _ _ _ _ _ _=>b
 |_=>[]
def aA(s:Stmt):Scope:=match s with
 |.FunctionDef _ _ _ _ _ _ sc _ _ _=>sc
 |_=>{kind:=.function,names:=[],isGenerator:=false,isCoroutine:=false}
abbrev fA:Ch:=λ_ _ _ _ _ _=>False
abbrev E0:XK:=λ_ _ _=>False
theorem vV{X:Cx}:kC fA X E0:=λ_ _ _ _ _ _ _ h=>h.elim
structure fI(K:ag)(x qual:Str)(st:Stmt)(f:Addr)(fd:FuncData):Prop where
 ex:∃(oc:Value)(od:Option Addr)(kV doc pm:Value)(an:Option Addr)(cdv ct:Value)(osl:Array (Option Value)),
  fd=aR x qual (bB st) (bA st) (aA st) .none kV doc pm an cdv ct/\K.lookup f=some ⟨oc,od,.func fd,osl⟩/\aH K cdv qual=true
 kp:az K (.ref f)=true
section
variable{P:Program}{w:World}{K:ag}{mg:Str->Option Value}{base:Heap}
theorem fI.ok{x qual:Str}{st:Stmt}{f:Addr}{fd:FuncData}{N ps:List Str}{k:Nat}{sp:Sp}(F:fI K x qual st f fd)(S:bG N ps (aA st))(len:∀vs H Q E,sp vs H Q E->vs.length=ps.length)
  (hbody:∀(cdv:Value)(A:Around)(outer:List Env)(s:Shared)(H:Hp)(vs:List V)(Q:VK)(E:XK),c_ k (A.deeper (envOfC qual (aA st) s.heap.objs.size f cdv))->sp vs H Q E->
   ∃t,PSs (yS fA P w K mg base N qual (aA st) f cdv A outer s H E).nox (bA st) t/\t {nx:=λ_ H'=>Q .non H',rt:=Q} (mf N vs) H):FnOk P w K mg base fA (k+1) f fd ps sp:=by
 obtain⟨oc,od,kV,doc,pm,an,cdv,ct,osl,rfl,lk,hcd⟩:=F.ex;refine Go lk hcd S len λA outer s H vs Q E hr hsp=>?_;obtain⟨t,h,q⟩:=hbody cdv A outer s H vs Q E hr hsp;exact⟨t,h.nox,q⟩
theorem fI.binds{x qual:Str}{st:Stmt}{f:Addr}{fd:FuncData}{ps:List Str}(F:fI K x qual st f fd)
  (h:∀(kV doc pm:Value)(an:Option Addr)(cdv ct:Value)(us:List Value),us.length=ps.length->bindArgs (aR x qual (bB st) (bA st) (aA st) .none kV doc pm an cdv ct) ⟨us,[]⟩=pure (ps.zip us)):jl K fd ps []:=by
 obtain⟨oc,od,kV,doc,pm,an,cdv,ct,osl,rfl,lk,hcd⟩:=F.ex;exact .all (h kV doc pm an cdv ct)
theorem t_{x qual:Str}{st:Stmt}{f:Addr}{oc:Value}{od an:Option Addr}{osl:Array (Option Value)}{kV doc pm cdv ct:Value}(l:K.lookup f=some ⟨oc,od,.func (aR x qual (bB st) (bA st) (aA st) .none kV doc pm an cdv ct),osl⟩)
  (c:aH K cdv qual=true)(k:az K (.ref f)=true):fI K x qual st f (aR x qual (bB st) (bA st) (aA st) .none kV doc pm an cdv ct):=⟨⟨oc,od,kV,doc,pm,an,cdv,ct,osl,rfl,l,c⟩,k⟩
end
theorem iL{A:Around}{k:Nat}(hr:c_ k A):A.units+1<cLine:=d7 (En (by decide:1<=64) _) hr.units
theorem cT{n:Nat}(h:n<=1000):n<sizeLine:=d7 h Qd
section
variable{X:Cx}
theorem pv(i:Nat){x:Str}{pos:Pos}(hN:X.N[i]?=some x:=by rfl)(hv:Hx X.env.scope x:=by first|exact aN rfl|exact iz (aN rfl)|exact iz (iz rfl))(hd:(x==("__debug__":Str))=false:=by decide)
  (hcd:(x==("__classdict__":Str))=false:=by decide):PE X (.Name x pos) (CB i):=EJ hN hv hd hcd
theorem lU:gj X (.builtin "len") (λxs H Q=>∃a kvs,xs=[V.ref a]/\H a=some (.dK kvs)/\Q (.int kvs.length) H):=by
 intro pins s σ H xs us Q I r h;obtain⟨a,kvs,rfl,ha,q⟩:=h;obtain⟨u,rfl,ru⟩:=gL r;cases ru;exact Gr I (.inl ha) λt s' I'=>⟨.int kvs.length,H,I',⟨t,rfl⟩,q⟩
end
theorem dz{A B:Prop}(h:B):if false=true then A else B:=by
 rw[aM aG];exact h
theorem dv{A B:Prop}(h:A):if true=true then A else B:=by
 rw[bc rfl];exact h
theorem oK{c A B:Prop}[Decidable c](h1:c->A)(h2:¬c->B):if c then A else B:=by
 by_cases h:c
 ·rw[bc h];exact h1 h
 ·rw[aM h];exact h2 h
def aU(H H':Hp):Prop:=∀b o,H b=some o->H' b=some o
theorem aU.refl(H:Hp):aU H H:=λ_ _ h=>h
theorem aU.trans{H H1 H2:Hp}(a:aU H H1)(b:aU H1 H2):aU H H2:=λc o h=>b c o (a c o h)
theorem aU.free{H H':Hp}(e:aU H H'){l:Addr}(h:H' l=Option.none):H l=Option.none:=by
 cases q:H l with
 |none=>rfl
 |some o=>
  rw[e l o q]at h;cases h
theorem aU.seq{K:ag}{H H':Hp}{a:Addr}{xs:List V}(e:aU H H')(h:SqL K H a xs):SqL K H' a xs:=by
 rcases h with(h|⟨o,h⟩)|h
 ·exact .inl (.inl (e _ _ h))
 ·exact .inl (.inr ⟨o,e _ _ h⟩)
 ·exact .inr h
section
variable{κ:Type}[DecidableEq κ]
theorem zU{kvs:List (κ×V)}{k:κ}(h:valV kvs k=none):¬k∈kvs.map (·.1):=by
 intro m;obtain⟨p,hp,e⟩:=aj.mp m;have q:(kvs.any λkv=>decide (kv.1=k))=true:=cD.mpr ⟨p,hp,af e⟩;rw[iC,h]at q;exact absurd q Qs
theorem mO{kvs:List (κ×V)}{k:κ}{v:V}(h:valV kvs k=some v):k∈kvs.map (·.1):=by
 have q:(kvs.any λkv=>decide (kv.1=k))=true:=by
  rw[iC,h]
  all_goals rfl
 obtain⟨p,hp,e⟩:=cD.mp q;exact aj.mpr ⟨p,hp,aK e⟩
theorem gX:∀{l:List κ}{k:κ},l.Nodup->¬k∈l->(l++[k]).Nodup
 |[],k,_,_=>Qs
 |a::r,k,h,hk=>by
  obtain⟨h1,h2⟩:=bM.mp h;show(a::(r++[k])).Nodup;refine bM.mpr ⟨λm=>?_,gX h2 λm=>hk (bd.mpr (iz m))⟩;rcases aw.mp m with q|q
  ·exact h1 q
  ·exact hk (bd.mpr (aN (ar.mp q).symm))
end
end L2
set_option maxHeartbeats 4000000
namespace L2
open PySem PySem.Spec PyProof.Rows
section
variable{prog:Program}{w:World}{A:Around}{R:Result->Shared->Prop}{s:Shared}
theorem sf{elt target iter:Expr}{ifs:List Expr}{scope:Scope}{pos:Pos}{it acc:Value}{env:Env}(I:Nat->Shared->Prop)
  (turn:∀n s,I n s->wpAny (model prog w) A (pyNext it) (λr s₁=>match r with
   |none=>R (.ok .next) s₁
   | some v=>wpAny (model prog w) A (letOwnedTupleGo target it v) (λ_ s₀=>wpAny (model prog w) A (assign target env v) (λ_ s₂=>
     wpAny (model prog w) A (forIn ifs true λc r=>if r=true then do let ok<-isTrue c env (eval c env);pure (ForInStep.yield ok)else pure (ForInStep.yield r)) (λok s₃=>
      if ok=true then wpAny (model prog w) A (eval elt env) (λx s₄=>
       wpAny (model prog w) A (call (.builtin "list.append") [acc,x]) (λ_ s₅=>∃m,m<n/\I m s₅) (λ_ _=>False) s₄) (λ_ _=>False) s₃
      else∃m,m<n/\I m s₃) (λ_ _=>False) s₂) (λ_ _=>False) s₀) (λ_ _=>False) s₁) (λ_ _=>False) s)
  (n:Nat) (h:I n s):
  codeAny (model prog w) A (.compLoop (.ListComp elt [⟨target,iter,ifs,0⟩] scope pos) 0 it acc env) R s:=by
 refine codeAny_loop rfl I (λn s hI=>?_) n h;show wpAny _ A ((compTurn (.ListComp elt [⟨target,iter,ifs,0⟩] scope pos) 0 it acc env).onRaise (λx=>do noteFrame x env;theTreesLotGoes x)) _ _ s;refine wpAny_noted ?_;rw[compTurn_list];refine ak (zD (ak (d6 (turn n s hI) (λr s₁ h₁=>?_) λ_ _ h'=>h'.elim)));cases r with
 |none=>exact aX h₁
 |some v=>
  refine ak (d6 h₁ (λ_ s₀ h₀=>?_) λ_ _ h'=>h'.elim);refine ak (d6 h₀ (λ_ s₂ h₂=>ak (d6 h₂ (λok s₃ h₃=>?_) λ_ _ h'=>h'.elim)) λ_ _ h'=>h'.elim);cases ok with
  |false=>exact aX ⟨rfl,h₃⟩
  |true=>
   exact ak (ak (d6 h₃ (λx s₄ h₄=>ak (d6 h₄ (λ_ s₅ h₅=>aX (aX ⟨rfl,h₅⟩)) λ_ _ h'=>h'.elim)) λ_ _ h'=>h'.elim))
end
theorem oh{scope:Scope}{env:Env}(hf:∀y∈scope.names,y.2=.free->∃c,env.cells.lookup y.1=some c):
  ∃cl,closureFor scope env=pure cl/\(∀x c,cl.lookup x=some c->env.cells.lookup x=some c)/\(∀y∈scope.names,y.2=.free->∃c,cl.lookup y.1=some c):=by
 have key:∀(l:List (Str×NameKind))(acc:List (Str×Addr)),(∀y∈l,y.2=.free->∃c,env.cells.lookup y.1=some c)->(∀x c,acc.lookup x=some c->env.cells.lookup x=some c)->
   ∃cl,(forIn (m:=Sem) l acc (λ(y:Str×NameKind)cs=>if(y.2== .free)=true then do let c<-cellOf env y.1;pure (ForInStep.yield ((y.1,c)::cs))else pure (ForInStep.yield cs)))=pure cl/\
    (∀x c,cl.lookup x=some c->env.cells.lookup x=some c)/\(∀x,(∃c,acc.lookup x=some c)->∃c,cl.lookup x=some c)/\(∀y∈l,y.2=.free->∃c,cl.lookup y.1=some c):=by
  intro l;induction l with
  |nil=>intro acc _ ha;exact⟨acc,rfl,ha,λ_ h=>h,λ_ h=>nomatch h⟩
  |cons p r ih=>
   intro acc hl ha;obtain⟨n,k⟩:=p;by_cases hk:k=.free
   ·subst hk;obtain⟨c,hc⟩:=hl (n,.free) au rfl;have ha':∀x d,((n,c)::acc).lookup x=some d->env.cells.lookup x=some d:=λx d e=>by
     rw[cC]at e;cases hx:x==n with
     |true=>
      rw[hx]at e;rw[eq_of_beq hx,hc];exact e
     |false=>
      rw[hx]at e;exact ha x d e
    obtain⟨cl,e1,e2,e3,e4⟩:=ih ((n,c)::acc) (λy hy=>hl y (aq _ hy)) ha';refine⟨cl,?_,e2,λx⟨d,e⟩=>e3 x ?_,λy hy hf=>?_⟩
    ·rw[sG];simp only[beq_self_eq_true,if_true,cellOf,hc,pure_bind];exact e1
    ·rw[cC];cases hx:x==n with
     |true=>exact⟨c,rfl⟩
     |false=>exact⟨d,e⟩
    ·rcases bd.mp hy with rfl|hy
     ·exact e3 _ ⟨c,Qs⟩
     ·exact e4 y hy hf
   ·have hb:(k==NameKind.free)=false:=by simpa using hk
    obtain⟨cl,e1,e2,e3,e4⟩:=ih acc (λy hy=>hl y (aq _ hy)) ha;refine⟨cl,?_,e2,e3,λy hy hf=>?_⟩
    ·rw[sG];simp only[hb,di,if_false,pure_bind];exact e1
    ·rcases bd.mp hy with rfl|hy
     ·exact absurd hf hk
     ·exact e4 y hy hf
 obtain⟨cl,e1,e2,_,e4⟩:=key scope.names [] hf (λ_ _ h=>by simp at h);refine⟨cl,?_,e2,e4⟩;unfold closureFor;show(forIn scope.names [] _>>=λr=>pure r)=pure cl;rw[bind_pure];exact e1
theorem kR{scope:Scope}{env:Env}{x:Str}:∀{names:List (Str×NameKind)},
    ((names.map λ(n,k)=>if(k==NameKind.free&&env.scope.kind== .function &&env.kindOf n==some .cell)then(n,NameKind.cell)else(n,k)).lookup x=some .cell \/
     (names.map λ(n,k)=>if(k==NameKind.free&&env.scope.kind== .function &&env.kindOf n==some .cell)then(n,NameKind.cell)else(n,k)).lookup x=some .free)->
    (∃y∈names,y.1=x/\(y.2=.free \/y.2=.cell))
  |[],h=>by rcases h with h|h<;>simp at h
  | (n,k)::r,h=>by
    by_cases hx:x=n
    · subst hx
      refine⟨(x,k),au,rfl,?_⟩;by_cases hc:(k==NameKind.free&&env.scope.kind== .function &&env.kindOf x==some .cell)=true
      · have:=(dj.mp (dj.mp hc).1).1
        exact .inl (by simpa using this)
      · simp only[aF,hc,di,if_false,cC,beq_self_eq_true]at h
        rcases h with h|h
        ·exact .inr (Option.some.inj h)
        ·exact .inl (Option.some.inj h)
    · have hb:(x==n)=false:=by simpa using hx
      have h':((r.map λ(n,k)=>if(k==NameKind.free&&env.scope.kind== .function &&env.kindOf n==some .cell)then(n,NameKind.cell)else(n,k)).lookup x=some .cell \/
        (r.map λ(n,k)=>if(k==NameKind.free&&env.scope.kind== .function &&env.kindOf n==some .cell)then(n,NameKind.cell)else(n,k)).lookup x=some .free):=by
        rw[aF]at h;by_cases hc:(k==NameKind.free&&env.scope.kind== .function &&env.kindOf n==some .cell)=true
        ·simp only[hc,if_true,cC,hb]at h;exact h
        ·simp only[hc,di,if_false,cC,hb]at h;exact h
      obtain⟨y,hy,e⟩:=kR (scope:=scope) h';exact⟨y,aq _ hy,e⟩
def iq(σ:St)(js:List Nat):St:=js.map λj=>(σ[j]?).getD none
def eU(X:Cx)(N:List Str)(scope:Scope)(cl:List (Str×Addr))(s:Shared)(H:Hp)(ex:List Addr):Cx:=
 {X with N:=N,s₀:=s,H₀:=H,env:=compEnvC scope cl s.heap.objs.size X.env,outer:=X.stack,stack:=X.stack,ex:=ex,fn:=λ_=>false,pn:=[],xe:=λ_ _=>False}
def PTs(X:Cx)(ifs:List Expr)(t:TT):Prop:=
 ∀(pins:List (Addr×Obj))(s:Shared)(σ:St)(H:Hp)(Q:Bool->Hp->Prop),Inv X pins σ H s->t σ H Q->
  wpAny (model X.prog X.w) X.A (forIn ifs true λc r=>if r=true then do let ok<-isTrue c X.env (eval c X.env);pure (ForInStep.yield ok)else pure (ForInStep.yield r)) (TP X pins σ Q) X.xe s
def uV:TT:=λ_ H Q=>Q true H
theorem cV{X:Cx}:PTs X [] uV:=λ_ _ _ H _ I h=>aX ⟨H,I,h⟩
theorem gb{X:Cx}{c:Expr}{t:TT}(h:PT X c t):PTs X [c] t:=λpins s σ H Q I q=>wpAny_tests_one (h pins s σ H Q I q)
def B4(N₀:List Str)(sc₀ scope:Scope)(N:List Str)(xs:Nat)(js:List Nat):Bool:=
 scope.kind== .function &&(scope.names.all λy=>y.2 != .cell)&&(scope.names.all λy=>y.2 != .local ||scope.names.lookup y.1==some .local)&&
 (scope.names.all λy=>y.2 != .free ||(sc₀.names.lookup y.1==some .cell ||sc₀.names.lookup y.1==some .free))&&N.length==xs+js.length&&
 (List.range js.length).all λi=>match js[i]?,N[xs+i]? with
  |some j,some x=>N₀[j]? ==some x&&scope.names.lookup x==some .free
  |_,_=>false
structure g6(X:Cx)(scope:Scope)(N:List Str)(xs:Nat)(js:List Nat):Prop where
 kind:scope.kind=.function
 nocell:∀y∈scope.names,y.2≠ .cell
 once:∀y∈scope.names,y.2=.local->scope.names.lookup y.1=some .local
 caught:∀y∈scope.names,y.2=.free->X.env.kindOf y.1=some .cell \/X.env.kindOf y.1=some .free
 len:N.length=xs+js.length
 at_:∀(i j:Nat)(x:Str),js[i]?=some j->N[xs+i]?=some x->X.N[j]?=some x/\scope.names.lookup x=some .free
theorem bt{X:Cx}{scope:Scope}{N:List Str}{xs:Nat}{js:List Nat}(h:B4 X.N X.env.scope scope N xs js=true):g6 X scope N xs js:=by
 unfold B4 at h;simp only[b7]at h;obtain⟨⟨⟨⟨⟨h1,h2⟩,h3⟩,h4⟩,h5⟩,h6⟩:=h;refine⟨by simpa using h1,λy hy=>?_,λy hy e=>?_,λy hy e=>?_,by simpa using h5,λi j x e1 e2=>?_⟩
 ·have:=ce.mp h2 y hy;simpa using this
 ·have:=ce.mp h3 y hy;rw[e]at this;simpa using this
 ·have:=ce.mp h4 y hy;rw[e]at this;simpa[Env.kindOf]using this
 ·have hi:i<js.length:=(bj.mp e1).1;have:=ce.mp h6 i (gI.mpr hi);rw[e1,e2]at this;simpa using this
theorem nQ{α:Type}{x:Str}{k:α}:∀{l:List (Str×α)},l.lookup x=some k->(x,k)∈l
 |[],h=>by simp at h
 |(n,j)::r,h=>by
  rw[cC]at h;cases hx:x==n with
  |true=>
   rw[hx]at h;cases h;rw[eq_of_beq hx];exact au
  |false=>
   rw[hx]at h;exact aq _ (nQ h)
theorem kS{env:Env}{x:Str}:∀{names:List (Str×NameKind)},names.lookup x=some .free ->
    ((names.map λ(n,k)=>if(k==NameKind.free&&env.scope.kind== .function &&env.kindOf n==some .cell)then(n,NameKind.cell)else(n,k)).lookup x=some .cell \/
     (names.map λ(n,k)=>if(k==NameKind.free&&env.scope.kind== .function &&env.kindOf n==some .cell)then(n,NameKind.cell)else(n,k)).lookup x=some .free)
  |[],h=>by simp at h
  | (n,k)::r,h=>by
    rw[aF];cases hx:x==n with
    | true=>
      rw[cC,hx]at h;cases h;by_cases hc:(NameKind.free==NameKind.free&&env.scope.kind== .function &&env.kindOf n==some .cell)=true
      ·left;simp only[hc,if_true,cC,hx]
      ·right;simp only[hc,di,if_false,cC,hx]
    | false=>
      rw[cC,hx]at h;have ih:=kS (env:=env) h;by_cases hc:(k==NameKind.free&&env.scope.kind== .function &&env.kindOf n==some .cell)=true
      ·simp only[hc,if_true,cC,hx];exact ih
      ·simp only[hc,di,if_false,cC,hx];exact ih
section
variable{X:Cx}{pins:List (Addr×Obj)}{σ:St}{H:Hp}{s:Shared}{scope:Scope}{N:List Str}{xs:Nat}{js:List Nat}{cl:List (Str×Addr)}{fp:List Addr}{o:Obj}
theorem Inv.nostk(I:Inv X pins σ H s){a:Addr}(h:s.heap.objs.size<=a):a∉yN X.stack:=λhb=>by
 rcases bd.mp (I.stkSub a hb)with e|hb
 ·exact absurd (bR I.lt h) (by rw[e];exact dW _)
 ·exact I.nofs h hb
theorem DE(I:Inv X pins σ H s)(S:g6 X scope N xs js)(h2:∀x c,cl.lookup x=some c->X.env.cells.lookup x=some c)(h4:∀y∈scope.names,y.2=.free->∃c,cl.lookup y.1=some c)
  (hf:∀b∈fp,lA X pins H b)(hfo:∀b∈fp,∃u,s.heap.get? b=some u):
  (eU X N scope cl {s with heap:=s.heap.push o} H (s.heap.objs.size::fp)).Ok:=by
 have I3:Inv X pins σ H {s with heap:=s.heap.push o}:=I.kept (t':=s.toks) λb u e=>av _ e;have hsz:(s.heap.push o).objs.size=s.heap.objs.size+1:=eZ ..;have hcl:∀x c,cl.lookup x=some c->c<s.heap.objs.size:=λx c e=>by
  obtain⟨v,u,hu,_⟩:=I.cell x c (h2 x c e);exact bh hu
 refine⟨I.ok.mod,S.kind,I.ok.glob,I.ok.blt,aY _,λx y c e1 e2=>I.ok.inj x y c (h2 x c e1) (h2 y c e2),λx hx=>?_,λx c e _=>absurd e (by simp[eU]),I.ok.hd,I.ok.frames,.inl rfl,λb hb=>?_,I3.bs,ay I3.ok.bsz I3.sz,
  λb u e hb=>?_,λb hb=>?_,I3.stack,I3.stkFree⟩
 ·obtain⟨y,hy,rfl,hk⟩:=kR (scope:=scope) (env:=X.env) (x:=x) (names:=scope.names) hx;rcases hk with hk|hk
  ·exact h4 y hy hk
  ·exact absurd hk (S.nocell y hy)
 ·show b≠(s.heap.push o).objs.size/\_;rcases bd.mp hb with rfl|hb
  ·exact⟨by rw[hsz];exact bp (fY _),λx c e=>bp (hcl x c e)⟩
  ·obtain⟨u,hu⟩:=hfo b hb;have:=bh hu;exact⟨by rw[hsz];exact bp (eM this),λx c e=>(hf b hb).2.2.2.2.1 x c (h2 x c e)⟩
 ·rcases bd.mp hb with rfl|hb
  ·exact absurd (bh (I.bk _ u e)) (dW _)
  ·rcases(hf b hb).2.2.2.1 with z|z
   ·exact I.ok.noex b u e z
   ·exact absurd (bR (bh e) (ay I.ok.bsz z)) (dW _)
 ·rcases bd.mp hb with rfl|hb
  ·exact I.nostk (aY _)
  ·intro z;rcases bd.mp (I.stkSub b z)with e|e
   ·exact(hf b hb).2.1 e
   ·exact(hf b hb).2.2.1 e
theorem oM{i:Nat}{v:V}(h:(List.replicate xs none++iq σ js)[i]?=some (some v)):∃k j,i=xs+k/\js[k]?=some j/\σ[j]?=some (some v):=by
 by_cases hi:i<xs
 ·rw[jp (by simpa using hi)]at h;rw[zP]at h;split at h<;>cases h
 ·rw[fR (by simpa using Nat.le_of_not_lt hi)]at h;rw[lF]at h;unfold iq at h;rw[ap]at h;cases e:js[i-xs]? with
  |none=>rw[e]at h;cases h
  |some j=>
   rw[e]at h;refine⟨i-xs,j,Qo,e,?_⟩;have h':(σ[j]?).getD none=some v:=Option.some.inj h;cases q:σ[j]? with
   |none=>rw[q]at h';cases h'
   |some w=>
    rw[q]at h';exact b6 some h'
theorem BZ{h₁:Heap}{tk:Nat}(I:Inv X pins σ H s)(S:g6 X scope N xs js)(h2:∀x c,cl.lookup x=some c->X.env.cells.lookup x=some c)(h4:∀y∈scope.names,y.2=.free->∃c,cl.lookup y.1=some c)
  (hf:∀b∈fp,lA X pins H b)(hfo:∀b∈fp,∃u,s.heap.get? b=some u)(hd:∀v,o.data≠ .cell v)(ho:o.isFreed=false){m:Str->Option Value}
  (hns:h₁.Ns (s.heap.push o).objs.size m)(k3:∀b u,(s.heap.push o).get? b=some u->h₁.get? b=some u):
  Inv (eU X N scope cl {s with heap:=s.heap.push o} H (s.heap.objs.size::fp)) [(s.heap.objs.size,o)] (List.replicate xs none++iq σ js) H {s with heap:=h₁,toks:=tk}:=by
 have hsz:(s.heap.push o).objs.size=s.heap.objs.size+1:=eZ ..;have k2:∀b u,s.heap.get? b=some u->h₁.get? b=some u:=λb u e=>k3 b u (av _ e);refine⟨DE I S h2 h4 hf hfo,rfl,I.bare,Un.kept k3,⟨m,hns,λi x v e1 e2 e3=>?_⟩,λx c e=>?_,I.hok.fresh (show s.heap.objs.size<=(s.heap.push o).objs.size by rw[hsz];exact jv _),λx c e=>I.freeC x c (h2 x c e),λp hp=>?_,I.hok.kept k2,?_⟩
 ·obtain⟨k,j,rfl,hj,hσ⟩:=oM e2;obtain⟨hN,hl⟩:=S.at_ k j x hj e1;have hmem:=nQ hl;have hk:=S.caught _ hmem rfl;obtain⟨m',_,hloc⟩:=I.loc;obtain⟨u,r,l⟩:=hloc j x v hN hσ (by rcases hk with z|z;exact .inr (.inl z);exact .inr (.inr z));refine⟨u,r,?_⟩;rcases l with⟨z,_⟩|⟨_,c,ec,oc,hoc,hdc⟩
  ·rcases hk with q|q<;>rw[q]at z<;>cases z
  ·obtain⟨c',ec'⟩:=h4 _ hmem rfl;have:=h2 _ _ ec';have e:c=c':=Option.some.inj (ec.symm.trans this);subst e;exact .inr ⟨kS (env:=X.env) hl,c,ec',oc,k2 _ _ hoc,hdc⟩
 ·obtain⟨v,oc,hoc,hdc⟩:=I.cell x c (h2 x c e);exact⟨v,oc,k2 _ _ hoc,hdc⟩
 ·have e:p=(s.heap.objs.size,o):=by simpa[eU]using hp
  subst e;exact⟨k3 _ _ (br _ ho),I.hok.fresh (aY _),(show s.heap.objs.size≠(s.heap.push o).objs.size by rw[hsz];exact bp (fY _)),I.nostk (aY _),hd⟩
 ·rw[aI,lF];unfold iq;rw[ae];exact S.len.symm
theorem yU{s':Shared}{H':Hp}{σ':St}{its:List Value}{n:Nat}{acc:List V}(I:Inv X pins σ H s)(hf:∀b∈fp,lA X pins H b)
  (J:Inv (eU X N scope cl {s with heap:=s.heap.push o} H (s.heap.objs.size::fp)) [(s.heap.objs.size,({cls:=.type "list",data:=.seq its.toArray n}:Obj))] σ' H' s')
  (rv:cI acc its)(hz:acc.length<=sizeLine):
  Inv X pins σ (upd H' s.heap.objs.size (.lst acc)) s'/\lA X pins (upd H' s.heap.objs.size (.lst acc)) (s.heap.push o).objs.size/\H' s.heap.objs.size=none:=by
 have hsz:(s.heap.push o).objs.size=s.heap.objs.size+1:=eZ ..;obtain⟨hD,hn,_,_,_⟩:=J.pin (s.heap.objs.size,({cls:=.type "list",data:=.seq its.toArray n}:Obj)) (by simp[eU]);have nd:∀b u,H' b=some u->b≠s.heap.objs.size:=λb u e=>aZ e hn;have lt:∀b u,s.heap.get? b=some u->b∉fp->b∉s.heap.objs.size::fp:=λb u e hb z=>by
  rcases bd.mp z with z|z
  ·exact absurd (bh e) (by rw[z];exact dW _)
  ·exact hb z
 have ps:∀b u,s.heap.get? b=some u->(s.heap.push o).get? b=some u:=λb u e=>av _ e;refine⟨I.call' (ch:=fp) J.os ⟨λb u e q hb hx=>J.base.keep b u (ps b u e) q hb (lt b u e hx),λb u e q hb hx=>J.base.slot b u (ps b u e) q hb (lt b u e hx),λb u e q hx=>?_,λb u e hx=>J.base.there b u (ps b u e) (lt b u e hx),
  λb ys e=>?_,λb u ys e=>?_,λb ys e=>?_⟩ (λb u e=>?_) J.bare (λb hb=>?_),?_,hn⟩
 ·rw[aV (bp (bh e))];exact J.base.free b u (ps b u e) q (lt b u e hx)
 ·have z:=J.base.tups b ys e;rw[aV (nd _ _ z)];exact z
 ·have z:=J.base.frzs b u ys e;rw[aV (nd _ _ z)];exact z
 ·obtain⟨more,z⟩:=J.base.tbls b ys e;exact⟨more,by rw[aV (nd _ _ z)];exact z⟩
 ·by_cases hb:b=s.heap.objs.size
  ·subst hb;rw[ai]at e;cases e;exact⟨hz,its,n,rv,hD⟩
  ·rw[aV hb]at e;exact(J.hok b u e).stay (λc v _ q=>q) (λc q=>by rw[aV (nd _ _ q)];exact q) λc ys q=>by rw[aV (nd _ _ q)];exact q
 ·obtain⟨_,f1,_,f3,f4,f5⟩:=hf b hb;exact⟨f3,f1,f4,f5⟩
 ·have I3:Inv X pins σ H {s with heap:=s.heap.push o}:=I.kept (t':=s.toks) λb u e=>av _ e;refine I3.fpOk (aY _) ?_;rw[aV (show(s.heap.push o).objs.size ≠s.heap.objs.size by rw[hsz];exact qF _)];exact J.free
end
def gh(xs:Nat)(js:List Nat)(g:TG)(tt:TT)(te:TE)(σ:St)(Q:VK)(J:It)(H1:Hp):Prop:=
 ∃W:Nat->Nat->List V->St->Hp->Prop,(∃m,W 0 m [] (List.replicate xs none++iq σ js) H1)/\∀i m acc σ' H,W i m acc σ' H->
  (J.stop i H/\∀p,H p=none->Q (.ref p) (upd H p (.lst acc)))\/
  (J.go i H/\acc.length<sizeLine/\∃N:List V->St->Hp->Prop,(∀acc' σ' H',N acc' σ' H'->∃m',m'<m/\W (i+1) m' acc' σ' H')/\∀x H',J.yld i H x H'->g x σ' H' λσ2 H2=>tt σ2 H2 λb H3=>
   if b=true then te σ2 H3 λy H4=>N (acc++[y]) σ2 H4 else N acc σ2 H3)
def D1(xs:Nat)(js:List Nat)(ti:TI)(g:TG)(tt:TT)(te:TE):TE:=λσ H Q=>ti σ H λJ H1=>gh xs js g tt te σ Q J H1
section
variable{X:Cx}{scope:Scope}{N:List Str}{xs:Nat}{js:List Nat}{tg iter elt:Expr}{ifs:List Expr}{pos:Pos}{ti:TI}{g:TG}{tt:TT}{te:TE}
theorem og{pins:List (Addr×Obj)}{s:Shared}{σ:St}{H:Hp}{Q:VK}{RR:Value->Addr->Result->Shared->Prop}{E:Value->Shared->Prop}{it:Addr}{fp:List Addr}{tn:Nat->Heap->Prop}{J:It}{cl:List (Str×Addr)}
  (hc:X.calm=true)(S:g6 X scope N xs js)(hg:∀cl s H ex,PG (eU X N scope cl s H ex) tg g)(ht:∀cl s H ex,PTs (eU X N scope cl s H ex) ifs tt)(he:∀cl s H ex,PE (eU X N scope cl s H ex) elt te)
  (h2:∀x c,cl.lookup x=some c->X.env.cells.lookup x=some c)(h4:∀y∈scope.names,y.2=.free->∃c,cl.lookup y.1=some c)
  (I:Inv X pins σ H s)(T:sk X.prog X.w X.K tg J fp it tn)(st:tn 0 s.heap)(hf:∀b∈fp,lA X pins H b)
  (hW:gh xs js g tt te σ Q J H)
  (hR:∀(D C:Addr)(H':Hp)(s':Shared)(m:Str->Option Value),Inv X pins σ H' s'->s'.heap.Ns C m->lA X pins H' C->Q (.ref D) H'->RR (.ref D) C (.ok .next) s'):
  wpAny (model X.prog X.w) X.A (newList []) (λacc s₃=>wpAny (model X.prog X.w) X.A (newFunctionEnv scope X.env.globals cl [] X.env.qual none .none (some X.env)) (λcenv s₄=>
   codeAny (model X.prog X.w) X.A (.compStart (.ListComp elt [⟨tg,iter,ifs,0⟩] scope pos) 0 (.ref it) acc {cenv with scope:=relabel scope X.env}) (RR acc cenv.locals) s₄) E s₃) E s:=by
 refine oQ (wpAny_newFunctionEnv S.nocell (by intro y hy;simp at hy) (λh₁ hns₁ hsb₁=>?_) S.kind);dsimp only at hns₁ hsb₁⊢;obtain⟨W,⟨m0,w0⟩,turn⟩:=hW;have hfo:∀b∈fp,∃u,s.heap.get? b=some u:=λb hb=>let⟨u,hu,_⟩:=T.obj _ _ st b hb;⟨u,hu⟩;have hsz:(s.heap.push ({cls:=.type "list",dict:=none,data:=.seq ([]:List Value).toArray }:Obj)).objs.size=s.heap.objs.size+1:=eZ ..;have k3:∀b u,(s.heap.push ({cls:=.type "list",dict:=none,data:=.seq ([]:List Value).toArray }:Obj)).get? b=some u->h₁.get? b=some u:=λb u e=>
  (hsb₁.2 b (bp (bh e))).trans (av _ e)
 have B0:=BZ (X:=X) (N:=N) (xs:=xs) (js:=js) (tk:=s.toks+([]:List (Str×Value)).length) I S h2 h4 hf hfo (λv z=>by cases z) rfl hns₁ k3;generalize hXc:eU X N scope cl {s with heap:=s.heap.push ({cls:=.type "list",dict:=none,data:=.seq ([]:List Value).toArray }:Obj)} H (s.heap.objs.size::fp)=Xc at B0;have eP:Xc.prog=X.prog:=by rw[<-hXc];rfl
 have eW:Xc.w=X.w:=by rw[<-hXc];rfl
 have eK:Xc.K=X.K:=by rw[<-hXc];rfl
 have eA:Xc.A=X.A:=by rw[<-hXc];rfl
 have eC:Xc.calm=true:=by rw[<-hXc];exact hc
 have eX:Xc.xe=λ_ _=>False:=by rw[<-hXc];rfl
 have eE:Xc.env=compEnvC scope cl (s.heap.push ({cls:=.type "list",dict:=none,data:=.seq ([]:List Value).toArray }:Obj)).objs.size X.env:=by rw[<-hXc];rfl
 have eF:Xc.fs=yN X.stack:=by rw[<-hXc];rfl
 have eex:Xc.ex=s.heap.objs.size::fp:=by rw[<-hXc];rfl
 have hg':PG Xc tg g:=by rw[<-hXc];exact hg _ _ _ _
 have ht':PTs Xc ifs tt:=by rw[<-hXc];exact ht _ _ _ _
 have he':PE Xc elt te:=by rw[<-hXc];exact he _ _ _ _
 have ecl:∀x c,Xc.env.cells.lookup x=some c->X.env.cells.lookup x=some c:=by rw[eE];exact h2
 have fpk:∀{H':Hp}{ob:Obj},(∀b∈fp,H' b=none)->∀b∈fp,lA Xc [(s.heap.objs.size,ob)] H' b:=λ{H' ob}hn b hb=>by
  obtain⟨u,hu⟩:=hfo b hb;have hlt:=bh hu;obtain⟨_,f1,f2,f3,f4,f5⟩:=hf b hb;refine⟨hn b hb,?_,?_,.inl ?_,λx c e=>f4 x c (ecl x c e),λp hp=>?_⟩
  ·rw[eE];show b≠(s.heap.push _).objs.size;rw[hsz];exact bp (eM hlt)
  ·rw[eF];intro z;rcases bd.mp (I.stkSub b z)with e|e
   ·exact f1 e
   ·exact f2 e
  ·rw[eex];exact aq _ hb
  ·have e:p=(s.heap.objs.size,ob):=by
    rw[<-hXc]at hp;simpa[eU]using hp
   subst e;show s.heap.objs.size≠b;exact Ck hlt
 have loop:∀s₃:Shared,s₃={s with heap:=h₁,toks:=s.toks+([]:List (Str×Value)).length }->
   codeAny (model X.prog X.w) X.A (.compLoop (.ListComp elt [⟨tg,iter,ifs,0⟩] scope pos) 0 (.ref it) (.ref s.heap.objs.size) (compEnvC scope cl (s.heap.push ({cls:=.type "list",dict:=none,data:=.seq ([]:List Value).toArray }:Obj)).objs.size X.env))
    (RR (.ref s.heap.objs.size) (s.heap.push ({cls:=.type "list",dict:=none,data:=.seq ([]:List Value).toArray }:Obj)).objs.size) s₃:=by
  rintro s₃ rfl;refine sf (λn s'=>∃(i:Nat)(acc:List V)(its:List Value)(c:Nat)(σ':St)(H':Hp),Inv Xc [(s.heap.objs.size,({cls:=.type "list",data:=.seq its.toArray c}:Obj))] σ' H' s'/\cI acc its/\tn i s'.heap/\
   (∀b∈fp,H' b=none)/\acc.length<=sizeLine/\W i n acc σ' H') ?_ m0 ⟨0,[],[],0,_,H,B0,.nil,T.keep _ _ _ st λb _ u e=>k3 b u (av _ e),λb hb=>(hf b hb).1,bO _,w0⟩
  rintro n s3⟨i,acc,its,c,σ3,H3,I3,rv,st3,fr3,hz,w3⟩;rcases turn i n acc σ3 H3 w3 with⟨stop,qn⟩|⟨go,hlen,NN,hNN,step⟩
  ·have h:=T.done Xc eP eW eK eC i _ s3 σ3 H3 (λ_ _=>False) I3 (fpk fr3) st3 stop;rw[eA]at h;refine dr h λr s4⟨hr,I4⟩=>?_;subst hr;rw[<-hXc]at I4;obtain⟨a1,a2,a3⟩:=yU I hf I4 rv hz;obtain⟨mC,hmC,_⟩:=I4.loc;exact hR _ _ _ _ mC a1 hmC a2 (qn _ a3)
  ·have h:=T.item Xc eP eW eK eC i _ s3 σ3 H3 (λ_ _=>False) I3 (fpk fr3) st3 go;rw[eA]at h;refine dr h λr s4⟨u,hr,h4⟩=>?_;subst hr;refine dr h4 λ_ s5⟨x,H5,I5,r5,y5,st5,fr5⟩=>?_;have I5':=I5.pinned (fpk fr5) (T.obj _ _ st5);have ha:=hg' _ s5 σ3 H5 x u _ I5' r5 (step x H5 y5);rw[eP,eW,eA,eE,eX]at ha;refine dr ha λ_ s6⟨σ6,H6,I6,q6⟩=>?_;have hb:=ht' _ s6 σ6 H6 _ I6 q6;rw[eP,eW,eA,eE,eX]at hb;refine dr hb λok s7⟨H7,I7,q7⟩=>?_;have tn':∀{σ8:St}{H8:Hp}{s8:Shared},Inv Xc ([(s.heap.objs.size,({cls:=.type "list",data:=.seq its.toArray c}:Obj))]++nB fp s5.heap) σ8 H8 s8->tn (i+1) s8.heap/\∀b∈fp,H8 b=none:=λ{σ8 H8 s8}I8=>by
    refine⟨T.keep _ _ _ st5 λb hb o e=>(I8.pin (b,o) (bn _ (bn _ (i3 hb e)))).1,λb hb=>?_⟩;obtain⟨o,e,d⟩:=T.obj _ _ st5 b hb;exact(I8.pin (b,o) (bn _ (bn _ (i3 hb e)))).2.1
   cases ok with
   |false=>
    obtain⟨m',hm,w7⟩:=hNN _ _ _ q7;obtain⟨t1,t2⟩:=tn' I7;exact⟨m',hm,i+1,acc,its,c,σ6,H7,I7.unpinned,rv,t1,t2,hz,w7⟩
   |true=>
    have hd:=he' _ s7 σ6 H7 _ I7 q7;rw[eP,eW,eA,eE,eX]at hd;refine dr hd λv s8⟨y,H8,I8,r8,q8⟩=>?_;obtain⟨m',hm,w8⟩:=hNN _ _ _ q8;obtain⟨t1,t2⟩:=tn' I8;have I9:=I8.unpinned;obtain⟨eD,nD,nC,nF,_⟩:=I9.pin (s.heap.objs.size,({cls:=.type "list",data:=.seq its.toArray c}:Obj)) Qs;have hln:=rv.length;refine call_meets F.slot_list_append ⟨_,eD,rfl⟩ F.entry_list_append (F.args_list_append_2 _ _) (PySem.list_append s.heap.objs.size its.toArray c v (by rw[bv];omega)) ⟨eD,?_⟩;obtain⟨n9,q⟩:∃n9,(s8.heap.update s.heap.objs.size (Obj.mapSeq λa=>a.push v)).get? s.heap.objs.size=some ({cls:=.type "list",data:=.seq (its++[v]).toArray n9}:Obj):=by
     have q:=PySem.IsL.update eD (λa=>a.push v);have ea:its.toArray.push v=(its++[v]).toArray:=Qs;rw[ea]at q;exact⟨_,q⟩
    have I10:Inv Xc [] σ6 H8 {s8 with heap:=s8.heap.update s.heap.objs.size (Obj.mapSeq λa=>a.push v)}:=by
     refine(I9.pins_of (pins':=[]) λp hp=>nomatch hp).turned (it:=s.heap.objs.size) (t':=s8.toks) (λb u hb e=>(kH s8.heap _ (Ne.symm hb)).trans e) nD nC (.inl (by rw[eex];exact au)) (λx cc e=>?_) (λp hp=>?_)
     ·obtain⟨w0,oc,hoc,_⟩:=I.cell x cc (ecl x cc e);exact bp (bh hoc)
     ·rw[<-hXc]at hp;exact absurd hp (by simp[eU])
    refine⟨m',hm,i+1,acc++[y],its++[v],n9,σ6,H8,I10.pins_of λp hp=>?_,rv.append (.cons r8 .nil),T.keep _ _ _ t1 λb hb u e=>?_,t2,by rw[aI,lE];omega,w8⟩
    ·have e:p=(s.heap.objs.size,({cls:=.type "list",data:=.seq (its++[v]).toArray n9}:Obj)):=by simpa using hp
     subst e;exact⟨q,nD,nC,nF,λw z=>by cases z⟩
    ·have hb':b≠s.heap.objs.size:=by
      obtain⟨z,hz'⟩:=hfo b hb;exact bp (bh hz')
     exact(kH s8.heap _ (Ne.symm hb')).trans e
 exact codeAny_compStart_list (loop _ rfl) (T.self _ 0 _ _ _ (T.keep _ _ _ st λb _ u e=>k3 b u (av _ e)) (loop _ rfl))
theorem cW(hc:X.calm=true)(S:g6 X scope N xs js)(hi:PI X tg iter ti)(hg:∀cl s H ex,PG (eU X N scope cl s H ex) tg g)(ht:∀cl s H ex,PTs (eU X N scope cl s H ex) ifs tt)
  (he:∀cl s H ex,PE (eU X N scope cl s H ex) elt te)(hs:∀x,foldedSetIterable iter X.env x=pure x:=by intro _;rfl):
  PE X (.ListComp elt [⟨tg,iter,ifs,0⟩] scope pos) (D1 xs js ti g tt te):=by
 intro pins s σ H Q I h;obtain⟨cl,e1,h2,h4⟩:=oh (scope:=scope) (env:=X.env) λy hy e=>I.ok.has y.1 (S.caught y hy e);rw[eval_ListComp];refine zE (use:=none) rfl hs e1 S.kind S.once (dr (hi pins s σ H _ I h) λv s1 h1=>dr h1 λitv s2 h2'=>?_);obtain⟨it,fp,tn,J,H2,e,I2,T,st2,f2,hW⟩:=h2';subst e;refine og (RR:=λacc C=>compPost (model X.prog X.w) X.A X.xe none (EP X pins σ Q) acc C) hc S hg ht he h2 h4 I2 T st2 f2 hW λD C H' s' m I' hn hC q=>?_;obtain⟨f0,f1,_,f3,f4,f5⟩:=hC;exact⟨m,hn,λh' hs'=>⟨.ref D,H',I'.turned (it:=C) (t':=s'.toks) (λb u hb e=>(hs'.2 b hb).trans e) f0 f1 f3 f4 f5,rfl,q⟩⟩
theorem gd{j:Nat}{y:Str}{py spos:Pos}(hc:X.calm=true)(hN:X.N.Nodup)(hj:X.N[j]?=some y)(hy:X.env.scope.names.lookup y=some .local)(S:g6 X scope N xs js)(hi:PI X tg iter ti)(hg:∀cl s H ex,PG (eU X N scope cl s H ex) tg g)(ht:∀cl s H ex,PTs (eU X N scope cl s H ex) ifs tt)
  (he:∀cl s H ex,PE (eU X N scope cl s H ex) elt te)
  (hsw:swapsWith (.ListComp elt [⟨tg,iter,ifs,0⟩] scope pos) (some (.Name y py)) spos.line X.env=pure true)
  (hs:∀x,foldedSetIterable iter X.env x=pure x:=by intro _;rfl):
  PS X (.Assign [.Name y py] (.ListComp elt [⟨tg,iter,ifs,0⟩] scope pos) spos) (EF (D1 xs js ti g tt te) (rO j)):=by
 intro pins s σ H D I h;obtain⟨cl,e1,h2,h4⟩:=oh (scope:=scope) (env:=X.env) λy hy e=>I.ok.has y.1 (S.caught y hy e);rw[exec_Assign_Name_used _ _ _ _ hsw];refine ak (zD (ak ?_));show wpAny _ X.A (do let _<-comprehension (.ListComp elt [⟨tg,iter,ifs,0⟩] scope pos) scope X.env _ (newList []) false (eval iter X.env) (some (assign (.Name y py) X.env))) _ _ s;refine ak (d6 (zE (use:=some (assign (.Name y py) X.env)) (Q:=λ_ s'=>SP X pins D .next s') rfl hs e1 S.kind S.once
  (dr (hi pins s σ H _ I h) λv s1 h1=>dr h1 λitv s2 h2'=>?_)) (λ_ s' hq=>aX (aX hq)) λ_ _ e=>e)
 obtain⟨it,fp,tn,J,H2,e,I2,T,st2,f2,hW⟩:=h2';subst e;refine og (Q:=λx H1=>rO j x σ H1 D.nx) (RR:=λacc C=>compPost (model X.prog X.w) X.A X.xe (some (assign (.Name y py) X.env)) (λ_ s'=>SP X pins D .next s') acc C) hc S hg ht he h2 h4 I2 T st2 f2 hW λA C H' s' m I' hn hC q=>?_;obtain⟨f0,f1,f2',f3,f4,f5⟩:=hC;show wpAny _ X.A (assign (.Name y py) X.env (.ref A)) _ _ _;refine wpAny_assign_Name (pc I' hN hj (.inl hy) (show bY (.ref A) (.ref A)from rfl) (λs'' I''⟨a,sb,ha⟩=>?_) (.inr hy));have hCa:C≠a:=by
  rcases ha with e|e
  ·rw[e];exact f1
  ·exactλz=>f4 y a e z.symm
 refine⟨m,hn.sameBut sb hCa,λh' hs'=>?_⟩;exact⟨_,H',I''.turned (it:=C) (t':=s''.toks) (λb u hb e=>(hs'.2 b hb).trans e) f0 f1 f3 f4 f5,q⟩
end
section
variable{K:ag}{xs:Nat}{js:List Nat}{g:TG}{tt:TT}{te:TE}{σ:St}{Q:VK}{H:Hp}
theorem j9{J:It}{n:Nat}(Pv:Nat->List V->St->Hp->Prop)(h0:Pv 0 [] (List.replicate xs none++iq σ js) H)(hl:∀i acc σ' H',Pv i acc σ' H'->acc.length<=i)(hz:n<=sizeLine)
  (hgo:∀i acc σ' H',i<n->Pv i acc σ' H'->J.go i H')(hst:∀acc σ' H',Pv n acc σ' H'->J.stop n H')
  (hs:∀i x acc σ' H' H2,i<n->Pv i acc σ' H'->J.yld i H' x H2->g x σ' H2 λσ2 H2=>tt σ2 H2 λb H3=>if b=true then te σ2 H3 λy H4=>Pv (i+1) (acc++[y]) σ2 H4 else Pv (i+1) acc σ2 H3)
  (hd:∀acc σ' H',Pv n acc σ' H'->∀p,H' p=none->Q (.ref p) (upd H' p (.lst acc))):gh xs js g tt te σ Q J H:=by
 refine⟨λi m acc σ' H'=>m=n-i/\i<=n/\Pv i acc σ' H',⟨n,Qs,bO _,h0⟩,?_⟩;rintro i m acc σ' H'⟨rfl,hi,p⟩;by_cases hlt:i<n
 ·have:=hl _ _ _ _ p;exact .inr ⟨hgo i acc σ' H' hlt p,Qo,λa s h=>Pv (i+1) a s h,λa s h q=>⟨n-(i+1),Qo,rfl,hlt,q⟩,λx H2 y=>hs i x acc σ' H' H2 hlt p y⟩
 ·have e:i=n:=Qo;subst e;exact .inl ⟨hst _ _ _ p,hd _ _ _ p⟩
theorem bW{a:Addr}{ys:List V}(Pv:Nat->List V->St->Hp->Prop)(h0:Pv 0 [] (List.replicate xs none++iq σ js) H)(hl:∀i acc σ' H',Pv i acc σ' H'->acc.length<=i)(hz:ys.length<=sizeLine)
  (hq:∀i acc σ' H',i<=ys.length->Pv i acc σ' H'->SqL K H' a ys)
  (hs:∀i x acc σ' H',ys[i]?=some x->Pv i acc σ' H'->g x σ' H' λσ2 H2=>tt σ2 H2 λb H3=>if b=true then te σ2 H3 λy H4=>Pv (i+1) (acc++[y]) σ2 H4 else Pv (i+1) acc σ2 H3)
  (hd:∀acc σ' H',Pv ys.length acc σ' H'->∀p,H' p=none->Q (.ref p) (upd H' p (.lst acc))):gh xs js g tt te σ Q (El K a) H:=
 j9 Pv h0 hl hz (λi acc σ' H' h p=>⟨ys,ys[i],hq _ _ _ _ (fZ h) p,by simp[h]⟩) (λacc σ' H' p=>⟨ys,hq _ _ _ _ (aY _) p,aY _⟩)
  (λi x acc σ' H' H2 h p y=>by
   obtain⟨e,y⟩:=y;subst e;exact hs i x acc σ' _ (y ys (hq _ _ _ _ (fZ h) p)) p) hd
theorem BX{a:Addr}{ys:List V}(Pv:Nat->List V->St->Hp->Prop)(h0:Pv 0 [] (List.replicate xs none++iq σ js) H)(hl:∀i acc σ' H',Pv i acc σ' H'->acc.length<=i)(hz:ys.length<=sizeLine)
  (hq:∀i acc σ' H',i<=ys.length->Pv i acc σ' H'->cG K H' a ys)
  (hs:∀i x acc σ' H',ys[i]?=some x->Pv i acc σ' H'->g x σ' H' λσ2 H2=>tt σ2 H2 λb H3=>if b=true then te σ2 H3 λy H4=>Pv (i+1) (acc++[y]) σ2 H4 else Pv (i+1) acc σ2 H3)
  (hd:∀acc σ' H',Pv ys.length acc σ' H'->∀p,H' p=none->Q (.ref p) (upd H' p (.lst acc))):gh xs js g tt te σ Q (Fx K a) H:=
 j9 Pv h0 hl hz (λi acc σ' H' h p=>⟨ys,ys[i],hq _ _ _ _ (fZ h) p,by simp[h]⟩) (λacc σ' H' p=>⟨ys,hq _ _ _ _ (aY _) p,aY _⟩)
  (λi x acc σ' H' H2 h p y=>by
   obtain⟨e,y⟩:=y;subst e;exact hs i x acc σ' _ (y ys (hq _ _ _ _ (fZ h) p)) p) hd
theorem oe{lo:Int}{n:Nat}(Pv:Nat->List V->St->Hp->Prop)(h0:Pv 0 [] (List.replicate xs none++iq σ js) H)(hl:∀i acc σ' H',Pv i acc σ' H'->acc.length<=i)(hz:n<=sizeLine)
  (hs:∀i acc σ' H',i<n->Pv i acc σ' H'->g (.int (lo+i)) σ' H' λσ2 H2=>tt σ2 H2 λb H3=>if b=true then te σ2 H3 λy H4=>Pv (i+1) (acc++[y]) σ2 H4 else Pv (i+1) acc σ2 H3)
  (hd:∀acc σ' H',Pv n acc σ' H'->∀p,H' p=none->Q (.ref p) (upd H' p (.lst acc))):gh xs js g tt te σ Q (Fs lo n) H:=
 j9 Pv h0 hl hz (λi acc σ' H' h p=>h) (λacc σ' H' p=>aY _)
  (λi x acc σ' H' H2 h p y=>by
   obtain⟨e,y⟩:=y;subst e y;exact hs i acc σ' _ h p) hd
end
def GP(x:Str):It:=⟨λi _=>i<x.cps.size,λi H v H'=>H'=H/\∃c,x.cps[i]?=some c/\v=.str ⟨#[c]⟩,λi _=>i=x.cps.size⟩
def Hq(tl:TE):TI:=λσ H R=>tl σ H λv H1=>∃x,v=.str x/\R (GP x) H1
theorem BY{xs:Nat}{js:List Nat}{g:TG}{tt:TT}{te:TE}{σ:St}{Q:VK}{H:Hp}{x:Str}(Pv:Nat->List V->St->Hp->Prop)(h0:Pv 0 [] (List.replicate xs none++iq σ js) H)(hl:∀i acc σ' H',Pv i acc σ' H'->acc.length<=i)(hz:x.cps.size<=sizeLine)
  (hs:∀i c acc σ' H',x.cps[i]?=some c->Pv i acc σ' H'->g (.str ⟨#[c]⟩) σ' H' λσ2 H2=>tt σ2 H2 λb H3=>if b=true then te σ2 H3 λy H4=>Pv (i+1) (acc++[y]) σ2 H4 else Pv (i+1) acc σ2 H3)
  (hd:∀acc σ' H',Pv x.cps.size acc σ' H'->∀p,H' p=none->Q (.ref p) (upd H' p (.lst acc))):gh xs js g tt te σ Q (GP x) H:=
 j9 Pv h0 hl hz (λi acc σ' H' h p=>h) (λacc σ' H' p=>rfl)
  (λi v acc σ' H' H2 h p y=>by
   obtain⟨e,c,y1,y2⟩:=y;subst e y2;exact hs i c acc σ' _ y1 p) hd
def mD(it:Addr)(x:Str)(t:Tok)(i:Nat)(h:Heap):Prop:=h.IsStrIter it "str_ascii_iterator" x t i\/h.IsStrIter it "str_iterator" x t i
theorem mD.obj{it:Addr}{x:Str}{t:Tok}{i:Nat}{h:Heap}(st:mD it x t i h):∃o n vs,h.get? it=some o/\o.cls=.type n/\o.data=.fields vs/\(n="str_ascii_iterator"\/n="str_iterator"):=by
 rcases st with⟨o,e,c,d⟩|⟨o,e,c,d⟩
 ·exact⟨o,_,_,e,c,d,.inl rfl⟩
 ·exact⟨o,_,_,e,c,d,.inr rfl⟩
theorem mD.go{M:Model}{A:Around}{E:Value->Shared->Prop}{s:Shared}{tg:Expr}{it:Addr}{u:Value}{x:Str}{t:Tok}{i:Nat}{Q:Unit->Shared->Prop}(st:mD it x t i s.heap)(hQ:Q () s):wpAny M A (letOwnedTupleGo tg (.ref it) u) Q E s:=by
 obtain⟨o,n,vs,e,c,d,hn⟩:=st.obj;rcases hn with rfl|rfl
 ·exact rL e c d Qd hQ
 ·exact rL e c d Qd hQ
theorem zX{P:Program}{w:World}{K:ag}{tg:Expr}(it:Addr)(x:Str)(t:Tok):sk P w K tg (GP x) [it] it (mD it x t) where
 mem:=Qs
 obj:=λi h st b hb=>by
  have e:b=it:=by simpa using hb
  subst e;obtain⟨o,n,vs,e,c,d,hn⟩:=st.obj;exact⟨o,e,λv z=>by rw[d]at z;cases z⟩
 keep:=λi h h' st k=>by
  rcases st with⟨o,e,r⟩|⟨o,e,r⟩
  ·exact .inl ⟨o,k it Qs o e,r⟩
  ·exact .inr ⟨o,k it Qs o e,r⟩
 item:=by
  intro X hP hw hK hc i pins s σ H E I hf st hg;subst hP hw hK;obtain⟨f0,f1,f2,f3,f4,f5⟩:=hf it Qs;have fin:∀(v:Value)(h':Heap)(tk:Nat),SignAt x i v->mD it x t (i+1) h'->(∀b o,b∉ [it]->s.heap.get? b=some o->h'.get? b=some o)->
    ∃u,some v=some u/\wpAny (model X.prog X.w) X.A (letOwnedTupleGo tg (.ref it) u) (λ_ s2=>∃y H',Inv X pins σ H' s2/\bY y u/\(GP x).yld i H y H'/\mD it x t (i+1) s2.heap/\∀b∈ [it],H' b=none) E {s with heap:=h',toks:=tk}:=by
   rintro v h' tk⟨c,u,hc',rfl⟩st' k;exact⟨_,rfl,st'.go (s:={s with heap:=h',toks:=tk}) ⟨.str ⟨#[c]⟩,H,I.turned (t':=tk) (λb o hb e=>k b o (by simpa using hb) e) f0 f1 f3 f4 f5,⟨_,rfl⟩,⟨rfl,c,hc',rfl⟩,st',λb hb=>(hf b hb).1⟩⟩
  rcases st with st|st
  ·exact(Walks.strAscii (I.ok.hd hc) it x t).item i s _ _ hg st λv h' tk hv st' k=>fin v h' tk hv (.inl st') k
  ·exact(Walks.strWide (I.ok.hd hc) it x t).item i s _ _ hg st λv h' tk hv st' k=>fin v h' tk hv (.inr st') k
 done:=by
  intro X hP hw hK hc i pins s σ H E I hf st hg;subst hP hw hK;obtain⟨f0,f1,f2,f3,f4,f5⟩:=hf it Qs;have hg':i=x.cps.size:=hg;subst hg';rcases st with st|st
  ·exact(Walks.strAscii (I.ok.hd hc) it x t).done s _ _ st λh' tk k=>⟨rfl,I.turned (t':=tk) (λb o hb e=>k b o (by simpa using hb) e) f0 f1 f3 f4 f5⟩
  ·exact(Walks.strWide (I.ok.hd hc) it x t).done s _ _ st λh' tk k=>⟨rfl,I.turned (t':=tk) (λb o hb e=>k b o (by simpa using hb) e) f0 f1 f3 f4 f5⟩
 self:=λA i s Q E st h=>by
  rcases st with st|st
  ·exact wpAny_pyIter_striter_ascii st h
  ·exact wpAny_pyIter_striter_wide st h
theorem EI{X:Cx}{tg l:Expr}{tl:TE}(hl:PE X l tl):PI X tg l (Hq tl):=by
 intro pins s σ H R I h;refine dr (hl pins s σ H _ I h) λv s1⟨y,H1,I1,r1,q1⟩=>?_;obtain⟨x,rfl,q⟩:=q1;obtain⟨t,rfl⟩:=r1;have fin:∀o,mD s1.heap.objs.size x t 0 (s1.heap.push o)->GN X pins σ tg R (.ref s1.heap.objs.size) {s1 with heap:=s1.heap.push o}:=λo st=>by
  refine⟨s1.heap.objs.size,[s1.heap.objs.size],_,_,H1,rfl,I1.kept (t':=s1.toks) λb o e=>av _ e,zX _ x t,st,λb hb=>?_,q⟩;have e:b=s1.heap.objs.size:=by simpa using hb
  subst e;exact I1.fpOk (aY _) (I1.hok.fresh (aY _))
 cases ha:x.cps.all (· <128)
 ·exact wpAny_pyIter_wide ha (fin _ (.inr ⟨_,br _ rfl,rfl,rfl⟩))
 ·exact wpAny_pyIter_ascii ha (fin _ (.inl ⟨_,br _ rfl,rfl,rfl⟩))
theorem y_(bs:List Bool):(List.range bs.length).all (λi=>(bs[i]?).getD true)=bs.all id:=by
 rw[db];simp only[ce,gI,id];constructor
 ·intro h b hb;obtain⟨i,hi,e⟩:=lX.mp hb;have:=h i hi;rw[a_ hi]at this;rw[<-e];exact this
 ·intro h i hi;rw[a_ hi];exact h _ (kj hi)
section
variable{X:Cx}
theorem gE(hc:X.calm=true):gj X (.builtin "all") (λxs H Q=>∃(p:Addr)(bs:List Bool),xs=[.ref p]/\SqL X.K H p (bs.map V.bl)/\Q (.bl (bs.all id)) H):=by
 intro pins s σ H xs us Q I r h;obtain⟨p,bs,rfl,hp,q⟩:=h;obtain⟨u,rfl,ru⟩:=gL r;cases ru;obtain⟨its,rv,ht,hz⟩:=I.list hp;have hlen:=rv.length;rw[ae]at hlen;refine call_all_walk (jq ht.isList ?_);have hpn:p<s.heap.objs.size:=let⟨o,n,e,_⟩:=ht;bh e;refine⟨s.heap.objs.size,[s.heap.objs.size,p],[s.heap.objs.size],its.toArray.size,(λi v=>its.toArray[i]?=some v),(λi h=>h.IsListIter s.heap.objs.size p i/\h.IsList p its.toArray),λi=>(bs[i]?).getD true,rfl,Walks.list (A:=X.A.in1) (show X.A.in1.handled=none from I.ok.hd hc) s.heap.objs.size p (bp hpn) its.toArray,⟨⟨_,br _ rfl,rfl,rfl⟩,ht.isList.at λo e=>av _ e⟩,?_,λh' tk k=>?_⟩
 ·intro i v s' Q' E' hv hq;have hv':its[i]?=some v:=by simpa using hv
  have hi:i<bs.length:=by rw[hlen];exact(bj.mp hv').1
  obtain⟨u',hu',ru'⟩:=rv.get (i:=i) (x:=.bl bs[i]) (by simp[hi]);rw[hv']at hu';cases hu';cases ru';refine cR ?_;have hq':Q' ((bs[i]?).getD true) s':=hq;rw[a_ hi]at hq';exact hq'
 ·have e:(List.range its.toArray.size).all (λi=>(bs[i]?).getD true)=bs.all id:=by
   rw[bv,<-hlen];exact y_ bs
  refine⟨.bl (bs.all id),H,I.kept (t':=tk) λb o e=>k b o ?_ (av _ e),by rw[e];rfl,q⟩;have:=bh e;intro z;rw[ar.mp z]at this;exact dW _ this
theorem fj:gj X (.builtin "isinstance") (λxs H Q=>∃x T t b,xs=[x,.ty T]/\lu X.K H x t/\cg X.K t (.type T)=some b/\Q (.bl b) H):=by
 intro pins s σ H xs us Q I r h;obtain⟨x,T,t,b,rfl,ty,e,q⟩:=h;obtain⟨u,v,rfl,ru,rv⟩:=zT r;cases rv;exact yI I ru ty e λtk=>⟨.bl b,H,I.tok tk,rfl,q⟩
def G_:V->Option Int->Option Int->Hp->VK->Prop:=λx lo hi H Q=>∃z,x=.str z/\z.length<=sizeLine/\Q (.str (Txt.slice z lo hi)) H
theorem Al:Hz X G_:=by
 intro pins s σ H x v vl vu lo hi sl Q I rx hs pl pu h;obtain⟨z,rfl,hz,q⟩:=h;obtain⟨t,rfl⟩:=rx;refine⟨"str",_,F.slot_str_getitem.lookup,typeIs_str _ _ _,?_⟩;have fin:∀t' k,EP X pins σ Q (.str (Txt.slice z lo hi) t') {s with toks:=k}:=λt' k=>⟨.str _,H,I.tok k,⟨t',rfl⟩,q⟩;obtain⟨o,ho,hc,hd⟩:=hs;cases pl with
 |none=>
  cases pu with
  |none=>exact gy (l:=none) (u:=none) (st:=none) ⟨o,ho,hc,hd⟩ rfl (post_val_or_str ⟨ay (Txt.slice_le z _ _) hz,fin⟩)
  |int j uj=>exact gy (l:=none) (u:=some (j,uj)) (st:=none) ⟨o,ho,hc,hd⟩ rfl (post_val_or_str ⟨ay (Txt.slice_le z _ _) hz,fin⟩)
 |int i ui=>
  cases pu with
  |none=>exact gy (l:=some (i,ui)) (u:=none) (st:=none) ⟨o,ho,hc,hd⟩ rfl (post_val_or_str ⟨ay (Txt.slice_le z _ _) hz,fin⟩)
  |int j uj=>exact gy (l:=some (i,ui)) (u:=some (j,uj)) (st:=none) ⟨o,ho,hc,hd⟩ rfl (post_val_or_str ⟨ay (Txt.slice_le z _ _) hz,fin⟩)
def pS(a d:Addr):HO:=.ext λh=>h.IsValuesView a d
theorem xZ:HG X "dict.values" (λx vs H Q=>∃d kvs,x=.ref d/\vs=[]/\Rd H d (.dK kvs)/\∀p,H p=none->Q (.ref p) (upd H p (pS p d))):=by
 intro pins s σ H x xs v us Q I rx rv h;obtain⟨d,kvs,rfl,rfl,hd,q⟩:=h;cases rx;cases rv;obtain⟨z,hs,vs,rel,dd⟩:=iM I.hok hd;refine call_meetsIn zH dd.typeIs PySem.F.entry_dict_values (PySem.F.args_dict_values_1 _) (meets_dict_values (b8 X.prog X.w) d hs) ⟨⟨vs,dd⟩,?_⟩;have hv:(s.heap.push ({cls:=.type "dict_values",data:=.fields #[.ref d]}:Obj)).IsValuesView s.heap.objs.size d:=⟨_,br _ rfl,rfl,rfl⟩;refine⟨.ref s.heap.objs.size,_,I.laid (t':=s.toks) (o:=pS s.heap.objs.size d) (λb ob e=>av _ e) (aY _) ⟨hv,⟨_,br _ rfl⟩,λh1 h2⟨o,e,r⟩k=>⟨o,k o e,r⟩⟩,rfl,q _ (I.hok.fresh (aY _))⟩
theorem oF{P:Nat->Value->Prop}{n:Nat}:∀{acc:List Value}(ys:List V),ItemsOf P acc.toArray n->ys.length=n->(∀i v y,P i v->ys[i]?=some y->bY y v)->cI ys acc:=by
 intro acc ys h hl hP;obtain⟨h1,h2⟩:=h;have e1:acc.length=ys.length:=by rw[hl,<-h1];simp
 have key:∀(ys:List V)(acc:List Value),acc.length=ys.length->(∀(i:Nat)v y,acc[i]?=some v->ys[i]?=some y->bY y v)->cI ys acc:=by
  intro ys;induction ys with
  |nil=>
   intro acc e _;have:acc=[]:=List.eq_nil_of_length_eq_zero (by simpa using e);subst this;exact .nil
  |cons y r ih=>
   intro acc e h;cases acc with
   |nil=>simp at e
   |cons v a=>
    refine .cons (h 0 v y rfl rfl) (ih a (by simpa using e) λi v' y' e1 e2=>h (i+1) v' y' (by simpa using e1) (by simpa using e2))
 exact key ys acc e1 λi v y e1 e2=>hP i v y (h2 i v (by simpa using e1)) e2
theorem KV.getVal{κ:Type}{kvs:List (κ×V)}{vs:List (κ×Value)}(r:KV kvs vs):∀{i:Nat}{k:κ}{x:Value}{y:κ×V},vs[i]?=some (k,x)->kvs[i]?=some y->y.1=k/\bY y.2 x:=by
 unfold KV at r;induction r with
 |nil=>intro i k x y e;simp at e
 |cons h t ih=>
  intro i k x y e1 e2;cases i with
  |zero=>
   simp at e1 e2;subst e2;rw[e1]at h;exact h
  |succ i=>exact ih (by simpa using e1) (by simpa using e2)
theorem nT{T:String}{r d:Addr}{P:Nat->Value->Prop}{OK:Heap->Prop}{ys:List V}{pins:List (Addr×Obj)}{s:Shared}{σ:St}{H:Hp}{Q:VK}(hc:X.calm=true)(I:Inv X pins σ H s)(Kd:PySem.W.KdlSrc X.prog X.w T r d ys.length P OK)(hok:OK s.heap)(hz:ys.length<=sizeLine)
  (hP:∀i v y,P i v->ys[i]?=some y->bY y v)(q:∀l,H l=none->Q (.ref l) (upd H l (.lst ys))):wpAny (model X.prog X.w) X.A (call (.type "list") [.ref r]) (EP X pins σ Q) X.xe s:=by
 refine PySem.W.kdl_call Kd (I.ok.hd hc) hok hz λh' tk acc' c' kp e hacc=>?_;refine⟨.ref s.heap.objs.size,_,I.laid (t':=tk) (o:=.lst ys) kp (aY _) ⟨hz,acc'.toList,c',oF (acc:=acc'.toList) ys (by simpa using hacc) rfl hP,by simpa using e⟩,rfl,q _ (I.hok.fresh (aY _))⟩
theorem uH(hc:X.calm=true):gj X (.type "list") (λxs H Q=>∃d kvs,xs=[.ref d]/\Rd H d (.dK kvs)/\∀l,H l=none->Q (.ref l) (upd H l (.lst (kvs.map λkv=>kV kv.1)))):=by
 intro pins s σ H xs us Q I r h;obtain⟨d,kvs,rfl,hd,q⟩:=h;obtain⟨u,rfl,ru⟩:=gL r;cases ru;obtain⟨z,hs,vs,rel,dd⟩:=iM I.hok hd;obtain⟨ep,hat⟩:=dd.dictAt;have e:=rel.length;have Kd:=PySem.W.kdl_dict (prog:=X.prog) (w:=X.w) (knd:=b8 X.prog X.w) (kvs:=vs) (ep:=ep) hs;have el:(kvs.map λkv=>kV kv.1).length=vs.length:=by rw[ae,e]
 rw[<-el]at Kd;refine nT (ys:=kvs.map λkv=>kV kv.1) hc I Kd hat (by rw[ae];exact z) (λi v y hv hy=>?_) q;obtain⟨k,x,hx,hk⟩:=hv;rw[ap]at hy;cases q2:kvs[i]? with
 |none=>rw[q2]at hy;cases hy
 |some kv=>
  rw[q2]at hy;cases hy;obtain⟨e1,_⟩:=rel.getVal hx q2;rcases dk (show kZ k v=true from hk)with⟨i',t',rfl,rfl⟩|⟨x',t',rfl,rfl⟩
  ·show bY (kV kv.1) _;rw[e1];exact⟨t',rfl⟩
  ·show bY (kV kv.1) _;rw[e1];exact⟨t',rfl⟩
theorem uG(hc:X.calm=true):gj X (.type "list") (λxs H Q=>∃p d kvs,xs=[.ref p]/\H p=some (pS p d)/\Rd H d (.dK kvs)/\∀l,H l=none->Q (.ref l) (upd H l (.lst (kvs.map λkv=>kv.2)))):=by
 intro pins s σ H xs us Q I r h;obtain⟨p,d,kvs,rfl,hp,hd,q⟩:=h;obtain⟨u,rfl,ru⟩:=gL r;cases ru;obtain⟨z,hs,vs,rel,dd⟩:=iM I.hok hd;obtain⟨ep,hat⟩:=dd.dictAt;have e:=rel.length;obtain⟨hv,_,_⟩:s.heap.IsValuesView p d/\_/\_:=I.hok p _ hp;have Kd:=PySem.W.kdl_values (prog:=X.prog) (w:=X.w) (knd:=b8 X.prog X.w) (r:=p) (d:=d) (kvs:=vs) (ep:=ep);have el:(kvs.map λkv=>kv.2).length=vs.length:=by rw[ae,e]
 rw[<-el]at Kd;refine nT (ys:=kvs.map λkv=>kv.2) hc I Kd ⟨hv,hat⟩ (by rw[ae];exact z) (λi v y hv hy=>?_) q;obtain⟨k,hx⟩:=hv;rw[ap]at hy;cases q2:kvs[i]? with
 |none=>rw[q2]at hy;cases hy
 |some kv=>
  rw[q2]at hy;cases hy;exact(rel.getVal hx q2).2
end
def mH(K:ag)(H:Hp):Nat->V->PyData->Prop
 |_,.non,d=>d=.none
 |_,.bl b,d=>d=.bool b
 |_,.int i,d=>d=.int i
 |_,.str x,d=>PyData.strOk x=true/\d=.str x
 |n+1,.ref a,d=>(∃xs ds,SqL K H a xs/\d=.list ds/\Paired (mH K H n) xs ds)\/∃xs ds,cG K H a xs/\d=.tuple ds/\Paired (mH K H n) xs ds
 |_,_,_=>False
section
variable{X:Cx}{pins:List (Addr×Obj)}{σ:St}{H:Hp}{s:Shared}
theorem mH.reads(I:Inv X pins σ H s):∀(n:Nat)(v:V)(d:PyData)(u:Value),mH X.K H n v d->bY v u->(∃as,Reads s.heap u d as)/\d.canLay0=true/\d.depth<=n:=by
 intro n;induction n with
 |zero=>
  intro v d u h r;cases v<;>simp only[mH]at h
  ·subst h;cases r;exact⟨⟨_,.none⟩,rfl,aY _⟩
  ·subst h;cases r;exact⟨⟨_,.bool _⟩,rfl,aY _⟩
  ·subst h;obtain⟨t,rfl⟩:=r;exact⟨⟨_,.int _ _⟩,rfl,aY _⟩
  ·obtain⟨h1,rfl⟩:=h;obtain⟨t,rfl⟩:=r;exact⟨⟨_,.str _ _⟩,h1,aY _⟩
 |succ n ih=>
  have all:∀(xs:List V)(ds:List PyData)(us:List Value),Paired (mH X.K H n) xs ds->cI xs us->(∃as,ReadsAll s.heap us ds as)/\PyData.canLayAll0 ds=true/\PyData.depthAll ds<=n:=by
   intro xs ds us p;induction p generalizing us with
   |nil=>intro r;cases r;exact⟨⟨_,.nil⟩,rfl,bO _⟩
   |cons h t ih2=>
    intro r;cases r with
    |cons r1 r2=>
     obtain⟨⟨as,a1⟩,a2,a3⟩:=ih _ _ _ h r1;obtain⟨⟨bs,b1⟩,b2,b3⟩:=ih2 _ r2;exact⟨⟨_,.cons a1 b1⟩,by simp[PyData.canLayAll0,a2,b2],by simp only[PyData.depthAll];omega⟩
  intro v d u h r;cases v<;>simp only[mH]at h
  ·subst h;cases r;exact⟨⟨_,.none⟩,rfl,bO _⟩
  ·subst h;cases r;exact⟨⟨_,.bool _⟩,rfl,bO _⟩
  ·subst h;obtain⟨t,rfl⟩:=r;exact⟨⟨_,.int _ _⟩,rfl,bO _⟩
  ·obtain⟨h1,rfl⟩:=h;obtain⟨t,rfl⟩:=r;exact⟨⟨_,.str _ _⟩,h1,bO _⟩
  ·cases r;rcases h with⟨xs,ds,hq,rfl,p⟩|⟨xs,ds,hq,rfl,p⟩
   ·obtain⟨its,rv,⟨o,m,e,c,_,dd⟩,_⟩:=I.list hq;obtain⟨⟨as,a1⟩,a2,a3⟩:=all xs ds its p rv;exact⟨⟨_,.list e c dd (by simpa using a1)⟩,by simpa[PyData.canLay0]using a2,by simp only[PyData.depth];omega⟩
   ·obtain⟨its,rv,⟨o,e,c,m,dd⟩,_⟩:=I.tuple hq;obtain⟨⟨as,a1⟩,a2,a3⟩:=all xs ds its p rv;exact⟨⟨_,.tuple e c dd (by simpa using a1)⟩,by simpa[PyData.canLay0]using a2,by simp only[PyData.depth];omega⟩
def FZ(K:ag)(neg:Bool):R2:=λx y H Q=>∃n dx dy,n<=64/\mH K H n x dx/\mH K H n y dy/\Q (.bl (if neg then !PyData.eqv dx dy else PyData.eqv dx dy)) H
theorem qc(hu:X.A.units+64<cLine):kK X (compareOp .Eq) (FZ X.K false):=by
 intro pins s σ H x y v u Q I rx ry h;obtain⟨n,dx,dy,hn,h1,h2,q⟩:=h;obtain⟨⟨as,a1⟩,a2,a3⟩:=mH.reads I n x dx v h1 rx;obtain⟨⟨bs,b1⟩,b2,b3⟩:=mH.reads I n y dy u h2 ry;have sx:SeqAt.shaped dx=true:=by unfold SeqAt.shaped;rw[a2,af Qo];rfl
 have sy:SeqAt.shaped dy=true:=by unfold SeqAt.shaped;rw[b2,af Qo];rfl
 exact SeqAt.compareEq_shaped a1 b1 sx sy hu ⟨.bl _,H,I,rfl,q⟩
theorem nI(hu:X.A.units+64<cLine):kK X (compareOp .NotEq) (FZ X.K true):=by
 intro pins s σ H x y v u Q I rx ry h;obtain⟨n,dx,dy,hn,h1,h2,q⟩:=h;obtain⟨⟨as,a1⟩,a2,a3⟩:=mH.reads I n x dx v h1 rx;obtain⟨⟨bs,b1⟩,b2,b3⟩:=mH.reads I n y dy u h2 ry;have sx:SeqAt.shaped dx=true:=by unfold SeqAt.shaped;rw[a2,af Qo];rfl
 have sy:SeqAt.shaped dy=true:=by unfold SeqAt.shaped;rw[b2,af Qo];rfl
 exact SeqAt.compareNe_shaped a1 b1 sx sy hu ⟨.bl _,H,I,rfl,q⟩
end
end L2
namespace L2
open PySem PySem.Spec PyProof.Rows
structure dc(P:Program)(w:World)(K:ag)(mg:Str->Option Value)(base:Heap)(k:Nat)(x:Str)(ps:List Str)(sp:Sp):Prop where
 ex:∃(f:Addr)(fd:FuncData),FnOk P w K mg base fA k f fd ps sp/\mg x=some (.ref f)/\az K (.ref f)=true/\jl K fd ps []
structure gt(P:Program)(w:World)(K:ag)(mg:Str->Option Value)(base:Heap)(k:Nat)(C:Addr)(m:Str)(ps:List Str)(sp:Sp):Prop where
 ex:∃(f:Addr)(fd:FuncData),FnOk P w K mg base fA k f fd ps sp/\Ce K C m f/\jl K fd ps []
structure Cg(P:Program)(w:World)(K:ag)(mg:Str->Option Value)(base:Heap)(k:Nat)(C:Addr)(ps:List Str)(sp:Sp):Prop where
 ex:∃(f:Addr)(fd:FuncData),FnOk P w K mg base fA k f fd ps sp/\Mk K C f/\jl K fd ps []
section
variable{P:Program}{w:World}{K:ag}{mg:Str->Option Value}{base:Heap}{j k:Nat}{x m:Str}{ps:List Str}{sp sp':Sp}{C:Addr}
end
section
variable{X:Cx}{k:Nat}{x m:Str}{ps:List Str}{sp:Sp}{C:Addr}{p pos apos:Pos}{e o:Expr}{es:List Expr}{ta:TE}{t:TA}
theorem ba(c:dc X.prog X.w X.K X.mg X.base k x ps sp)(hr:c_ k X.A)(hg:Gl X x)(ha:PA X (e::es) t)(hdb:(x==("__debug__":Str))=false:=by decide)
  (he:starEach (e::es) X.env=(false,eval e X.env)::starEach es X.env:=by rfl)(hpl:(backTo pos (starEach es X.env)).any (·.1)=false:=by rfl):
  PE X (.Call (.Name x p) (e::es) [] pos) (D2 sp [] E0 t):=by
 obtain⟨f,fd,F,hm,hk,hb⟩:=c.ex;exact C7 F hr hg hm hk hb .nil vV ha hdb he hpl
theorem nG{pl:Sem Bool}(ho:PE X o ta)(c:zC X.K C)(h:gt X.prog X.w X.K X.mg X.base k C m ps sp)(hr:c_ k X.A)(ha:PA X (e::es) t)
  (hst:starEach (e::es) X.env=(false,eval e X.env)::starEach es X.env:=by rfl)(hpl:(backTo pos (starEach es X.env)).any (·.1)=false:=by rfl)
  (ht:eval (.Call (.Attribute o m apos) (e::es) [] pos) X.env=(do
   let ov<-eval o X.env
   standAt apos.atName
   let(f,first)<-holding [ov] (getMethod ov m pl)
   callWith pos f first (backTo pos (starEach (e::es) X.env)) (backToKw pos (keywordEach [] X.env))):=by rfl):
  PE X (.Call (.Attribute o m apos) (e::es) [] pos) (uW C m sp [] E0 ta t):=by
 obtain⟨f,fd,F,hm,hb⟩:=h.ex;exact C3 ho c hm F hr hb .nil vV ha hst hpl ht
theorem cB{pl:Sem Bool}(ho:PE X o ta)(c:zC X.K C)(h:gt X.prog X.w X.K X.mg X.base k C m ps sp)(hr:c_ k X.A)
  (ht:eval (.Call (.Attribute o m apos) [] [] pos) X.env=(do
   let ov<-eval o X.env
   standAt apos.atName
   let(f,first)<-holding [ov] (getMethod ov m pl)
   callWith pos f first (backTo pos (starEach [] X.env)) (backToKw pos (keywordEach [] X.env))):=by rfl):
  PE X (.Call (.Attribute o m apos) [] [] pos) (uW C m sp [] E0 ta z_):=by
 obtain⟨f,fd,F,hm,hb⟩:=h.ex;exact AR ho c hm F hr hb .nil vV ht
theorem pq(h:Cg X.prog X.w X.K X.mg X.base k C ps sp)(hr:c_ (k+1) X.A)(hg:Gl X x)(hm:X.mg x=some (.ref C))(hdb:(x==("__debug__":Str))=false:=by decide):
  PE X (.Call (.Name x p) [] [] pos) (D0 C sp [] E0 z_):=by
 obtain⟨f,fd,F,M,hb⟩:=h.ex;exact AS M F hr hg hm hb .nil vV hdb
end
def jS(mg:Str->Option Value)(x:Str)(v:V):Prop:=∃u,mg x=some u/\bY v u
theorem ia{X:Cx}{x:Str}{v:V}{pos:Pos}(h:jS X.mg x v)(hg:Gl X x)(hd:(x==("__debug__":Str))=false:=by decide):PE X (.Name x pos) (tC v):=by
 obtain⟨u,hm,r⟩:=h;exact C4 hg hm r hd
theorem nE{X:Cx}{x:Str}{T:String}{pos:Pos}(hm:X.mg x=none)(hg:Gl X x)(hv:bootBuiltins x=some (.type T))(hn:x≠"__name__":=by decide)(hd:(x==("__debug__":Str))=false:=by decide):PE X (.Name x pos) (tC (.ty T)):=
 C8 hg hm hv (show bY (.ty T) (.type T)from rfl) hn hd
end L2
namespace L2
open PySem
theorem mB:bootBuiltins "all"=some (.builtin "all"):=Qk
theorem ou:bootBuiltins "isinstance"=some (.builtin "isinstance"):=Qk
theorem b_len:bootBuiltins "len"=some (.builtin "len"):=Qk
theorem Gu:bootBuiltins "str"=some (.type "str"):=Qk
theorem Eh:bootBuiltins "int"=some (.type "int"):=Qk
theorem B7:bootBuiltins "bool"=some (.type "bool"):=Qk
theorem lV:bootBuiltins "list"=some (.type "list"):=Qk
theorem aU.upd{H H':Hp}{p:Addr}{o:HO}(e:aU H H')(h:H' p=none):aU H (L2.upd H' p o):=λb ob z=>by
 rw[aV (aZ (e b ob z) h)];exact e b ob z
theorem aU.new{H:Hp}{p:Addr}{o:HO}(h:H p=none):aU H (L2.upd H p o):=(aU.refl H).upd h
end L2
namespace L2
open PySem
theorem hJ(x:Str)(l u:Option Int):Txt.slice x l u=StrLaws.sliceText x l u:=rfl
theorem BK(a b n:Nat)(h:n<=b):Builtin.Str.strSliceIndices (some (a:Int)) (some (b:Int)) 1 n=Builtin.Str.strSliceIndices (some (a:Int)) (some (n:Int)) 1 n:=by
 unfold Builtin.Str.strSliceIndices;have e1:¬((b:Int)<0):=Qo;have e2:¬((n:Int)<0):=Qo;have e3:min (b:Int) (n:Int)=n:=Qo;simp[e1,e2,e3]
theorem nu(z:Str){a b:Nat}(ha:a<=z.length)(hab:a<=b):(Txt.slice z (some (a:Int)) (some (b:Int))).cps.toList=(z.cps.toList.drop a).take (b-a):=by
 rw[hJ];by_cases hb:b<=z.length
 ·rw[StrLaws.sliceText_nat z hab hb]
 ·have hb':z.length<=b:=Qo;have e:StrLaws.sliceText z (some (a:Int)) (some (b:Int))=StrLaws.sliceText z (some (a:Int)) (some (z.length:Int)):=by
   unfold StrLaws.sliceText;rw[BK a b z.length hb']
  rw[e,StrLaws.sliceText_nat z ha (aY _)];show(z.cps.toList.drop a).take (z.length-a)=_;have hl:(z.cps.toList.drop a).length=z.length-a:=by rw[ki];rfl
  rw[dq Qo,dq Qo]
theorem Ak(z:Str)(b:Nat):(Txt.slice z none (some (b:Int))).cps.toList=z.cps.toList.take b:=by
 have e:Txt.slice z none (some (b:Int))=Txt.slice z (some ((0:Nat):Int)) (some (b:Int)):=by
  rw[hJ,hJ];unfold StrLaws.sliceText;rw[StrLaws.sliceIdx_none_lo];rfl
 rw[e,nu z (bO _) (bO _)];simp
theorem sS(z:Str){a:Nat}(ha:a<=z.length):(Txt.slice z (some (a:Int)) none).cps.toList=z.cps.toList.drop a:=by
 have e:Txt.slice z (some (a:Int)) none=Txt.slice z (some (a:Int)) (some ((z.length:Nat):Int)):=by
  rw[hJ,hJ];unfold StrLaws.sliceText;rw[StrLaws.sliceIdx_none_hi]
 rw[e,nu z ha ha];have hl:(z.cps.toList.drop a).length=z.length-a:=by rw[ki];rfl
 rw[dq Qo]
end L2
namespace L2
open PySem
def G4(R:St->Hp->Prop)(t u:TS):TS:=λD σ H=>t {D with nx:=R} σ H/\∀σ' H',R σ' H'->u D σ' H'
theorem CZ{X:Cx}{st:Stmt}{rest:List Stmt}{t u:TS}(R:St->Hp->Prop)(h1:PS X st t)(h2:PSs X rest u):PSs X (st::rest) (G4 R t u):=by
 intro pins s σ H D I h;refine qD (dr (h1 pins s σ H {D with nx:=R} I h.1) λf s1 q=>?_);cases f with
 |next=>
  obtain⟨σ',H',I',q⟩:=q;exact h2 pins s1 σ' H' D I' (h.2 σ' H' q)
 |ret v=>exact q
 |brk=>exact q
 |cont=>exact q
end L2
namespace L2
open PySem
end L2
namespace L2
open PySem
section
variable{X:Cx}
theorem C5{e:Expr}{f:Str}{pos:Pos}{ta:TE}(K:ag)(hK:X.K=K)(he:PE X e ta)(hb:attributeBase e f X.env (eval e X.env)=eval e X.env):PE X (.Attribute e f pos) (FI K ta f):=by
 subst hK;exact gn he hb
theorem rJ(K:ag)(hK:X.K=K):Fw X (FX K):=by
 subst hK;exact cP
theorem cx(K:ag)(hK:X.K=K):Fw X (FW K):=by
 subst hK;exact bV
theorem ib(K:ag)(hK:X.K=K):kK X (compareOp .In) (FY K false):=by
 subst hK;exact gZ
theorem lP(K:ag)(hK:X.K=K):kK X (compareOp .NotIn) (FY K true):=by
 subst hK;exact iW
end
end L2
namespace L2
theorem cq{b:Bool}{A B:Prop}(h:b=false)(hB:B):if b=true then A else B:=by rw[h];exact dz hB
theorem dH{b:Bool}{A B:Prop}(h:b=true)(hA:A):if b=true then A else B:=by rw[h];exact dv hA
end L2
namespace L2
open PySem
def FM(t u:TS):TS:=λD σ H=>∃R:St->Hp->Prop,t {D with nx:=R} σ H/\∀σ' H',R σ' H'->u D σ' H'
def Fz(t:TE):TE:=λσ H Q=>∃R:V->Hp->Prop,t σ H R/\∀v H1,R v H1->Q v H1
theorem C2{X:Cx}{e:Expr}{t:TE}(h:PE X e t):PE X e (Fz t):=by
 intro pins s σ H Q I q;obtain⟨R,q1,q2⟩:=q;exact dr (h pins s σ H R I q1) λv s1⟨x,H1,I1,r,q3⟩=>⟨x,H1,I1,r,q2 x H1 q3⟩
theorem dA{X:Cx}{st:Stmt}{rest:List Stmt}{t u:TS}(h1:PS X st t)(h2:PSs X rest u):PSs X (st::rest) (FM t u):=by
 intro pins s σ H D I h;obtain⟨R,ha,hb⟩:=h;exact CZ R h1 h2 pins s σ H D I ⟨ha,hb⟩
end L2
namespace L2
open PySem
end L2
namespace L2
open PySem PySem.Spec PyProof.Rows
section
variable{P:Program}{w:World}{l:List Env}{H H':Hp}{h0 h1 h2 B:Heap}
end
section
variable{X:Cx}{pins:List (Addr×Obj)}{σ:St}{H:Hp}{s s':Shared}{E:XK}{M:Model}{E2:Value->Shared->Prop}
end
section
variable{P:Program}{w:World}{K:ag}{mg:Str->Option Value}{base:Heap}
end
section
variable{P:Program}{w:World}{K:ag}{mg:Str->Option Value}{base:Heap}{j k:Nat}{x m:Str}{ps:List Str}{sp sp':Sp}{C:Addr}
end
section
variable{X:Cx}{k:Nat}{x m:Str}{ps:List Str}{sp:Sp}{C:Addr}{p pos apos:Pos}{e o:Expr}{es:List Expr}{ta:TE}{t:TA}{E:XK}
end
section
variable{X:Cx}
end
end L2
namespace L2
open PySem
section
variable{X:Cx}{k:Nat}{x m:Str}{ps:List Str}{sp:Sp}{C:Addr}{p pos apos:Pos}{e o:Expr}{es:List Expr}{ta:TE}{t:TA}
end
end L2
namespace L2
open PySem PySem.Spec PyProof.Rows
namespace Tx
open Builtin Builtin.Str PySem.StrLaws
end Tx
end L2
namespace L2
open PySem PySem.Spec PyProof.Rows
namespace Tx
open PySem.NumText PySem.W
end Tx
section
variable{X:Cx}
end
theorem Inv.turnedL{X:Cx}{pins:List (Addr×Obj)}{σ:St}{H:Hp}{s:Shared}{h':Heap}{t':Nat}{fp:List Addr}(I:Inv X pins σ H s)(k:∀b o,b∉fp->s.heap.get? b=some o->h'.get? b=some o)(hf:∀b∈fp,lA X pins H b):
  Inv X pins σ H {s with heap:=h',toks:=t'}:=by
 have nf:∀b u,H b=some u->b∉fp:=λb u e z=>by rw[(hf b z).1]at e;cases e
 have nL:X.env.locals∉fp:=λz=>(hf _ z).2.1 rfl;refine I.step (g':=s.gens) (d':=s.drawn) (ch:=fp) (λb hb=>?_) (λb o _ _ hc e _=>k b o hc e) (λb o _ _ hc e _=>⟨o.slots,k b o hc e⟩) (λ_ _ _ _ n=>n)
  (λb o hc e=>⟨o,k b o hc e⟩) (λ_ _ e=>e) (λ_ _ _ e=>e) (λb ps e=>⟨#[],by rw[e];simp⟩) (λm hm=>?_) (λb u e=>?_) I.bare
 ·obtain⟨_,g1,_,g3,g4,g5⟩:=hf b hb;exact⟨g3,g1,g4,g5⟩
 ·obtain⟨o,es,ep,ho,r⟩:=hm;exact⟨o,es,ep,k _ o nL ho,r⟩
 ·refine(I.hok b u e).stay (λc v hc q=>k c v ?_ q) (λ_ q=>q) λ_ _ q=>q;rcases hc with z|z
  ·rw[z];exact nf b u e
  ·exact nf c _ z
def GF(K:ag)(a:Addr):It:=
 ⟨λi H=>∃xs x,SqL K H a xs/\xs[i]?=some x,λi H v H'=>∃t,H t=none/\v=.ref t/\∀xs,SqL K H a xs->∃x,xs[i]?=some x/\H'=upd H t (.tup [.int i,x]),λi H=>∃xs,SqL K H a xs/\xs.length<=i⟩
theorem wZ{P:Program}{w:World}{K:ag}{elts:List Expr}{k:Nat}{pos:Pos}(a e it:Addr)(ne:e≠it):sk P w K (.Tuple elts k pos) (GF K a) [e,it] e (λi h=>(∃old,IsEnum h e it i old)/\h.IsListIter it a i) where
 mem:=Qs
 obj:=λi h st b hb=>by
  obtain⟨⟨old,he⟩,o,hi,hc,hd⟩:=st;simp at hb;rcases hb with rfl|rfl
  ·exact⟨_,he,λv z=>by cases z⟩
  ·exact⟨o,hi,λv z=>by rw[hd]at z;cases z⟩
 keep:=λi h h' st kp=>by
  obtain⟨⟨old,he⟩,hi⟩:=st;exact⟨⟨old,kp e Qs _ he⟩,hi.at λo x=>kp it Qs o x⟩
 item:=by
  intro X hP hw hK hc i pins s σ H E I hf st hg;subst hP hw hK;obtain⟨⟨old,he⟩,hit⟩:=st;obtain⟨xs,x,hq,hx⟩:=hg;obtain⟨its,rv,p,hz⟩:=I.list hq;obtain⟨u,hu,ru⟩:=rv.get hx;have le:e<s.heap.objs.size:=bh he;have li:it<s.heap.objs.size:=by obtain⟨_,y,_⟩:=hit;exact bh y
  refine wpAny_pyNext_enum_item he hit p.isList (x:=u) (by simpa using hu) ne λh' ho hit' hT hsz hk=>⟨_,rfl,?_⟩;refine uQ ho λh2 he2 hs2=>?_;have I1:Inv X pins σ (upd H s.heap.objs.size (.tup [.int i,x])) {s with heap:=s.heap.push {cls:=.type "tuple",data:=.seq #[.int i s.toks,u]},toks:=s.toks+1}:=
   I.laid (λb o q=>av _ q) (aY _) ⟨by show 2<=sizeLine;decide,[.int i s.toks,u],.cons ⟨_,rfl⟩ (.cons ru .nil),⟨_,br _ rfl,rfl,_,rfl⟩⟩
  have nn:∀b∈ [e,it],b≠s.heap.objs.size:=λb hb=>by
   simp at hb;rcases hb with rfl|rfl
   ·exact bp le
   ·exact bp li
  have I2:Inv X pins σ (upd H s.heap.objs.size (.tup [.int i,x])) {s with heap:=h2,toks:=s.toks+1}:=by
   refine Inv.turnedL (s:={s with heap:=s.heap.push {cls:=.type "tuple",data:=.seq #[.int i s.toks,u]},toks:=s.toks+1}) I1 (h':=h2) (t':=s.toks+1) (fp:=[e,it]) (λb o hb q=>?_) λb hb=>?_
   ·have b1:b≠e:=λz=>hb (by simp[z]);have b2:b≠it:=λz=>hb (by simp[z]);refine(hs2.2 b b1).trans ?_;rcases DX q with⟨z1,z2⟩|z
    ·rw[z1,z2];exact hT
    ·exact hk b o b1 b2 z
   ·obtain⟨f0,f1,f2,f3,f4,f5⟩:=hf b hb;exact⟨by rw[aV (nn b hb)];exact f0,f1,f2,f3,f4,f5⟩
  refine⟨.ref s.heap.objs.size,_,I2,rfl,⟨_,I.fresh,rfl,λys hy=>⟨x,by rw[I.list_inj hy hq];exact hx,rfl⟩⟩,⟨⟨_,he2⟩,hit'.at λo y=>(hs2.2 it ne.symm).trans y⟩,λb hb=>?_⟩;rw[aV (nn b hb)];exact(hf b hb).1
 done:=by
  intro X hP hw hK hc i pins s σ H E I hf st hg;subst hP hw hK;obtain⟨⟨old,he⟩,hit⟩:=st;obtain⟨xs,hq,hx⟩:=hg;obtain⟨its,rv,p,hz⟩:=I.list hq;have hl:=rv.length;exact wpAny_pyNext_enum_end (I.ok.hd hc) he hit p.isList (by simp;omega) λh' eb=>⟨rfl,I.turnedL (t':=s.toks) (fp:=[e,it]) (λb o hb y=>eb b o (λz=>hb (by simp[z])) y) hf⟩
 self:=λ_ _ _ _ _ st h=>jr st.1.choose_spec h
def Gg(K:ag)(ta:TA):TI:=λσ H R=>ta σ H λvs H1=>∃a,vs=[.ref a]/\(∃xs,SqL K H1 a xs)/\R (GF K a) H1
theorem vR{X:Cx}{elts:List Expr}{k:Nat}{tpos:Pos}{l:Expr}{ta:TA}{p pos:Pos}(hg:Gl X "enumerate")(hm:X.mg "enumerate"=none)(ha:PA X [l] ta)(hs:starEach [l] X.env=[(false,eval l X.env)]:=by rfl):PI X (.Tuple elts k tpos) (.Call (.Name "enumerate" p) [l] [] pos) (Gg X.K ta):=by
 intro pins s σ H R I h;refine Call_ (ky (u:=.type "enumerate") I hg hm (by kernel_rfl) (dR (dr (ha pos pins s σ H _ I h) λus s1⟨vs,H1,I1,r1,q1⟩=>?_) hs rfl));obtain⟨a,rfl,⟨xs,hq⟩,q⟩:=q1;obtain⟨u,rfl,ru⟩:=gL r1;cases ru;obtain⟨its,rv,pl,hz⟩:=I1.list hq;refine call_enumerate_list pl.isList λh' hE hI hsz hk=>jr hE ?_;refine⟨s1.heap.objs.size+1,[s1.heap.objs.size+1,s1.heap.objs.size],_,_,H1,rfl,I1.kept (t':=s1.toks) hk,wZ a _ _ (qF _),⟨⟨_,hE⟩,hI⟩,λb hb=>?_,q⟩;have hb':s1.heap.objs.size<=b:=by
  simp at hb;rcases hb with rfl|rfl<;>omega
 exact I1.fpOk hb' (I1.hok.fresh hb')
theorem rQ{K:ag}{a:Addr}{xs:List V}{g:TG}{tb:TS}{D:oB}{σ:St}{H:Hp}(Pv:Nat->St->Hp->Prop)(h0:Pv 0 σ H)(hl:∀i σ H,i<=xs.length->Pv i σ H->SqL K H a xs)
  (hs:∀i x σ H t,xs[i]?=some x->Pv i σ H->H t=none->g (.ref t) σ (upd H t (.tup [.int i,x])) λσ2 H2=>tb {D with nx:=Pv (i+1),ct:=Pv (i+1),bk:=D.nx} σ2 H2)(hd:∀σ H,Pv xs.length σ H->D.nx σ H):
  ∃W:Nat->Nat->St->Hp->Prop,(∃m,W 0 m σ H)/\∀i m σ H,W i m σ H->
   ((GF K a).stop i H/\D.nx σ H)\/((GF K a).go i H/\∃N:St->Hp->Prop,(∀σ' H',N σ' H'->∃m',m'<m/\W (i+1) m' σ' H')/\∀x H',(GF K a).yld i H x H'->g x σ H' λσ2 H2=>tb {D with nx:=N,ct:=N,bk:=D.nx} σ2 H2):=by
 refine⟨λi m σ H=>m=xs.length-i/\i<=xs.length/\Pv i σ H,⟨xs.length,Qs,bO _,h0⟩,?_⟩;rintro i m σ H⟨rfl,hi,p⟩;have q:=hl i σ H hi p;by_cases hlt:i<xs.length
 ·refine .inr ⟨⟨xs,xs[i],q,by simp[hlt]⟩,Pv (i+1),λσ' H' p'=>⟨xs.length-(i+1),Qo,rfl,hlt,p'⟩,λx H' y=>?_⟩;obtain⟨t,ht,rfl,y⟩:=y;obtain⟨x,hx,rfl⟩:=y xs q;exact hs i x σ H t hx p ht
 ·have e:i=xs.length:=Qo;subst e;exact .inl ⟨⟨xs,q,aY _⟩,hd σ H p⟩
end L2
namespace L2
open PySem PySem.Spec PyProof.Rows
theorem rX:entryFor table "dict.update.loop"=some Builtin.«dict.update.loop»:=entryFor_of_fast (by kernel_rfl)
theorem lh:plainId "dict.update.loop"=true:=Qk
theorem yF:typeLookup (.type "list") ("keys":Str)=pure none:=am_miss_of_fast Qk
section
variable{prog:Program}{w:World}{A:Around}{E:Value->Shared->Prop}{s:Shared}
theorem Dk{a:Addr}{xs:Array Value}{k:Nat}{Q:Option Value->Shared->Prop}{sl:Array (Option Value)}(hx:s.heap.get? a=some {cls:=.type "list",dict:=none,data:=.seq xs k,slots:=sl})(hA:A.handled=none)
  (h:∀h' tk,(∀b o,s.heap.get? b=some o->h'.get? b=some o)->Q none {s with heap:=h',toks:=tk}):wpAny (model prog w) A (getAttr? (.ref a) "keys") Q E s:=by
 obtain⟨hp,g,d,tk,os⟩:=s;have hT:∀tk',(⟨hp,g,d,tk',os⟩:Shared).TypeIs (.ref a) "list":=λ_=>⟨_,hx,rfl⟩;have f1:=sub_AttributeError;have f3:=F.slot_list_getattribute.lookup;have f4:=F.slot_list_getattribute.bind (.ref a);have f5:=am_list_getattr_none;unfold getAttr? getAttrBy? getAttrBy
 repeat (any_goals (first|assumption|exact hT _|((with_reducible show wpAny _ _ (call (Value.builtin "list.__getattribute__") _ _) _ _ _);refine call_meets F.slot_list_getattribute (hT _) am_entry_list_getattribute (F.args_list_getattribute_2 _ _) (meets_getattribute_miss_list a xs k sl "keys" _ yF Qk) ⟨hx,hA,λh' tk' e hx'=>?_⟩)|wp_step))
 obtain⟨t',u',he⟩:=hx'.there;show wpAny _ _ (getattributeRaised _ _ _ _ _ _ _) _ _ _;unfold getattributeRaised
 repeat (any_goals (first|assumption|wp_step))
 exact h _ _ hx'.keeps
end
section
variable{prog:Program}{w:World}{A:Around}{R:Result->Shared->Prop}{I:Addr}{fp wr:List Addr}{n:Nat}{P:Nat->Value->Prop}{St:Nat->Heap->Prop}
end
section
variable{X:Cx}
theorem B5(hc:X.calm=true):gj X (.builtin "sum") (λxs H Q=>∃(p:Addr)(ns:List Int),xs=[.ref p]/\SqL X.K H p (ns.map V.int)/\Q (.int ns.sum) H):=by
 intro pins s σ H xs us Q I r h;obtain⟨p,ns,rfl,hp,q⟩:=h;obtain⟨u,rfl,ru⟩:=gL r;cases ru;obtain⟨its,rv,ht,hz⟩:=I.list hp;have hi:=nX rv;obtain⟨xs,hx⟩:=hi.allInts.items;have hn:numsOf its.toArray.toList=ns:=by rw[show its.toArray.toList=its from rfl,hi.numsOf]
 have hl:=ht.isList;rw[hx]at hl hn;rw[nums_intItems]at hn;refine sum_intListG (show X.A.handled=none from I.ok.hd hc) hl λh' tk t' hk=>?_;rw[preSum_eq,dq Qs,hn];exact⟨.int ns.sum,H,I.kept (t':=tk) hk,⟨t',rfl⟩,q⟩
theorem uM:bootBuiltins "dict"=some (.type "dict"):=Qk
theorem Gs:bootBuiltins "sum"=some (.builtin "sum"):=Qk
end
theorem Ea(K:ag):cg K (.type "str") (.type "list")=some false:=by first|rfl|kernel_rfl
theorem Ee(K:ag):cg K (.type "int") (.type "list")=some false:=by first|rfl|kernel_rfl
theorem Eg(K:ag):cg K (.type "bool") (.type "list")=some false:=by first|rfl|kernel_rfl
theorem Ec(K:ag):cg K (.type "NoneType") (.type "list")=some false:=by first|rfl|kernel_rfl
theorem F_(K:ag):cg K (.type "tuple") (.type "list")=some false:=by first|rfl|kernel_rfl
theorem Ed(K:ag):cg K (.type "int") (.type "str")=some false:=by first|rfl|kernel_rfl
theorem Ef(K:ag):cg K (.type "bool") (.type "str")=some false:=by first|rfl|kernel_rfl
theorem Eb(K:ag):cg K (.type "NoneType") (.type "str")=some false:=by first|rfl|kernel_rfl
theorem F9(K:ag):cg K (.type "tuple") (.type "str")=some false:=by first|rfl|kernel_rfl
theorem Ga(K:ag):cg K (.type "list") (.type "str")=some false:=by first|rfl|kernel_rfl
end L2
namespace L2
open PySem PySem.Spec PyProof.Rows
def iN(l:List Str):List Str:=l.foldl (λσ v=>if v∈σ then σ else σ++[v]) []
theorem lm(l:List Str)(v:Str):iN (l++[v])=if v∈iN l then iN l else iN l++[v]:=by
 unfold iN;rw[List.foldl_append];rfl
theorem nq{C:List Str->Prop}(h0:C [])(h1:∀l v,C l->C (l++[v]))(l:List Str):C l:=by
 have key:∀m:List Str,C m.reverse:=by
  intro m;induction m with
  |nil=>exact h0
  |cons x r ih=>rw[List.reverse_cons];exact h1 _ _ ih
 have:=key l.reverse;rwa[List.reverse_reverse]at this
theorem mW{x:Str}:∀{l:List Str},x∈iN l↔x∈l:=by
 intro l;refine nq (C:=λl=>x∈iN l↔x∈l) Iff.rfl (λl v ih=>?_) l;rw[lm,aw,<-ih];split
 ·rename_i h;constructor
  ·exact .inl
  ·rintro(z|z)
   ·exact z
   ·rw[ar.mp z];exact h
 ·rw[aw]
theorem wN(l:List Str):(iN l).length<=l.length:=by
 refine nq (C:=λl=>(iN l).length<=l.length) (aY _) (λl v ih=>?_) l;rw[lm,aI];split
 ·omega
 ·rw[aI];show(iN l).length +1<=l.length+1;omega
theorem yR(l:List Str):(iN l).length=l.length↔l.Nodup:=by
 refine nq (C:=λl=>(iN l).length=l.length↔l.Nodup) ⟨λ_=>fQ,λ_=>rfl⟩ (λl v ih=>?_) l;have hl:=wN l;rw[lm,aI];split
 ·rename_i h;constructor
  ·intro z;have:(iN l).length=l.length+1:=z;omega
  ·intro z;exact absurd rfl ((cS.mp z).2.2 v (mW.mp h) v au)
 ·rename_i h;rw[aI];constructor
  ·intro z;have z':(iN l).length +1=l.length+1:=z;refine cS.mpr ⟨ih.mp Qo,Qs,λa ha b hb e=>?_⟩;rw[ar.mp hb]at e;exact h (mW.mpr (e▸ha))
  ·intro z;have:=ih.mpr (cS.mp z).1;show(iN l).length +1=l.length+1;omega
theorem qR:entryFor table "set.update.loop"=some Builtin.«set.update.loop»:=entryFor_of_tree (by kernel_rfl)
theorem nh:plainId "set.update.loop"=true:=Qk
section
variable{prog:Program}{w:World}{A:Around}{R:Result->Shared->Prop}{I:Addr}{fp wr:List Addr}{n:Nat}{P:Nat->Value->Prop}{St:Nat->Heap->Prop}
def oO(prog:Program)(w:World)(h:Heap)(a:Addr)(l:List Str):Prop:=h.SetOf (PySem.strKind prog w) a (λx=>decide (x∈l)) (iN l).length
theorem oO.at{h h':Heap}{a:Addr}{l:List Str}(x:oO prog w h a l)(k:∀o,h.get? a=some o->h'.get? a=some o):oO prog w h' a l:=
 let⟨o,es,ep,t,ho,r⟩:=x;⟨o,es,ep,t,k o ho,r⟩
theorem Aq(W:Walks prog w A.in1 I fp wr n P St)(D:Addr)(hD:D∉fp)(ws:List Str)(hn:ws.length=n)(hP:∀(i:Nat)(v:Value),P i v->∃(x:Str)(t:Tok),v=.str x t/\ws[i]?=some x)(hb:n+1<scanBound):
  ∀(k i:Nat)(s:Shared),n-i=k->i<=n->St i s.heap->oO prog w s.heap D (ws.take i)->
  (∀h' tk,oO prog w h' D ws->(∀b o,b∉wr->b≠D->s.heap.get? b=some o->h'.get? b=some o)->R (.ok (.ret .none)) {s with heap:=h',toks:=tk})->
  codeAny (model prog w) A (.builtin "set.update.loop" ⟨[.ref D,.ref I],[]⟩) R s:=by
 have hDw:D∉wr:=λh=>hD (W.sub _ h);intro k;induction k with
 |zero=>
  intro i s hk hi hst hS hR;have hin:i=n:=Qo;refine codeAny_builtin qR ?_;rw[Around.under_plainId nh _];show wpAny _ A.in1 (pyNext (.ref I)>>=_) _ _ s;rw[hin]at hst;refine ak (W.done s _ _ hst λh' tk hk2=>?_);show wpAny _ A.in1 (ret Value.none) _ _ _;refine aX (hR h' tk ?_ λb o q1 _ e=>hk2 b o q1 e);have:=hS.at (h':=h') λo e=>hk2 D o hDw e;rwa[dq Qo]at this
 |succ k ih=>
  intro i s hk hi hst hS hR;have hlt:i<n:=Qo;refine codeAny_builtin qR ?_;rw[Around.under_plainId nh _];show wpAny _ A.in1 (pyNext (.ref I)>>=_) _ _ s;refine ak (W.item i s _ _ hlt hst λv h1 tk hv hst1 hk1=>?_);obtain⟨x,t,rfl,ex⟩:=hP i v hv;have hS1:=hS.at (h':=h1) λo e=>hk1 D o hDw e;show wpAny _ A.in1 (holding [Value.str x t] (setAdd D (.str x t))>>=_) _ _ _;refine ak (cJ ?_);unfold setAdd;have hx:(PySem.strKind prog w).is x (.str x t)=true:=by simp[PySem.strKind,Value.isStrOf]
  refine cJ (ak ((PySem.strKind prog w).pyHash (k:=x) hx ?_));have hl:=wN (ws.take i);have hlt2:(ws.take i).length<=i:=by rw[aQ];omega
  refine wpAny_setAddHashed_of (knd:=PySem.strKind prog w) (s:={s with heap:=h1,toks:=tk+1}) hx rfl hS1 Qo λh2 hs2 hS2=>?_;have hS3:oO prog w h2 D (ws.take (i+1)):=by
   refine SetOf_congr hS2 (λy=>?_) ?_
   ·rw[bi,ex];show(decide (y∈ws.take i)||decide (y=x))=decide (y∈ws.take i++[x]);rw[db];simp
   ·rw[bi,ex];show(if decide (x∈ws.take i)=true then _ else _)=(iN (ws.take i++[x])).length;rw[lm];by_cases e:x∈ws.take i
    ·rw[bc (by simpa using e),bc (mW.mpr e)]
    ·rw[aM (by simpa using e),aM (λz=>e (mW.mp z)),aI];rfl
  refine aX ⟨plainId_quiet nh _,ih (i+1) _ Qo Qo (W.frame _ _ _ hst1 λb hb o e=>?_) hS3 λh3 tk3 hS4 hk3=>?_⟩
  ·exact(hs2.2 b (λz=>hD (z▸hb))).trans e
  ·exact hR h3 tk3 hS4 λb' o' q1 q2 e'=>hk3 b' o' q1 q2 ((hs2.2 b' q2).trans (hk1 b' o' q1 e'))
theorem Ap{E:Value->Shared->Prop}{s:Shared}{src:Addr}{its:Array Value}{ws:List Str}{Q:Value->Shared->Prop}(hh:A.handled=none)(hl:s.heap.IsList src its)(hws:ws.length=its.size)
  (hP:∀(i:Nat)(v:Value),its[i]?=some v->∃(x:Str)(t:Tok),v=.str x t/\ws[i]?=some x)(hb:its.size+1<scanBound)
  (h:∀h' tk,oO prog w h' s.heap.objs.size ws->(∀b o,s.heap.get? b=some o->h'.get? b=some o)->Q (.ref s.heap.objs.size) {s with heap:=h',toks:=tk}):
  wpAny (model prog w) A (call (.type "set") [.ref src]) Q E s:=by
 obtain⟨c,tl,f0⟩:=F.called_set.mro;have f1:=F.called_set.made;have f2:=F.called_set.sub;have f3:=F.called_set.notType;have f4:=F.called_set.canCreate;have f5:=F.typeCall_set_1 (.ref src);refine wpAny_call (codeAny_of_tree ?_);show wpAny _ _ (callAny (.type "set") _) _ _ _;refine aX ⟨Code.quiet_builtin _ Qk,codeAny_builtin F.entry_type_call ?_⟩;rw[Around.under_plain (weight_type_call_type "set" [.ref src] []) rfl]
 repeat (any_goals (first|assumption|wp_step))
 refine codeAny_mono (code_set_new_1 (.ref src) (E:=E) (Q₁:=λx t₁=>∃led:Bool,x=.ref s.heap.objs.size/\t₁={s with heap:=s.heap.push {cls:=.type "set",dict:=none,data:=.set #[] 0 (.fresh 0 0 led)}}) λled=>⟨led,rfl,rfl⟩) λr s₁ hr=>?_;cases r with
 |error e=>exact hr
 |ok fl=>
  cases fl with
  |next=>exact hr.elim
  |brk=>exact hr.elim
  |cont=>exact hr.elim
  |ret obj=>
   obtain⟨led,rfl,rfl⟩:=hr;have g1:(s.heap.push {cls:=.type "set",dict:=none,data:=.set #[] 0 (.fresh 0 0 led)}).get? s.heap.objs.size=some {cls:=.type "set",dict:=none,data:=.set #[] 0 (.fresh 0 0 led)}:=br _ rfl;have g2:Shared.TypeIs {s with heap:=s.heap.push {cls:=.type "set",dict:=none,data:=.set #[] 0 (.fresh 0 0 led)}} (.ref s.heap.objs.size) "set":=⟨_,g1,rfl⟩;have g3:=F.called_set.init.lookup;have g4:=F.called_set.init.bind (.ref s.heap.objs.size)
   repeat (any_goals (first|assumption|wp_step))
   refine codeAny_mono (codeAny_call_builtin (R:=wants (λr s₂=>r=.none/\∃h' tk,s₂={s with heap:=h',toks:=tk}/\oO prog w h' s.heap.objs.size ws/\(∀b o,s.heap.get? b=some o->h'.get? b=some o)) E) F.called_set.init.plain F.entry_set_init (check_set_init_1 g2 ?_)) λr₂ s₂ hr₂=>?_
   ·obtain⟨ol,hol,hcl,nl,hdl⟩:=hl;obtain⟨oc,od,oda,osl⟩:=ol;simp only at hcl hdl;subst hcl hdl;have k1:=av {cls:=.type "set",dict:=none,data:=.set #[] 0 (.fresh 0 0 led)} hol;have k2:=F.sub_list_set;have k3:=F.sub_list_frozenset;have k4:(Value.type "list"==Value.type "dict")=false:=Qd;have k5:(s.heap.push {cls:=.type "set",dict:=none,data:=.set #[] 0 (.fresh 0 0 led)}).IsList src its:=⟨_,k1,rfl,nl,rfl⟩;unfold Builtin.«set.__init__» noKeywords Builtin.Frozenset.updateFrom;generalize hPI:pyIter=PI
    wp_walk
    subst hPI;refine jq k5 ?_;refine ak (wpAny_runValue ?_);have hlS:src<s.heap.objs.size:=bh hol;have sz:(s.heap.push {cls:=.type "set",dict:=none,data:=.set #[] 0 (.fresh 0 0 led)}).objs.size=s.heap.objs.size+1:=eZ ..;have hneI:src≠(s.heap.push {cls:=.type "set",dict:=none,data:=.set #[] 0 (.fresh 0 0 led)}).objs.size:=by rw[sz];exact bp (eM hlS)
    refine Aq (A:=A.in1.in1) (Walks.list (A:=A.in1.in1.in1) (show A.in1.in1.in1.handled=none from hh) _ src hneI its) s.heap.objs.size (λz=>?_) ws hws hP hb its.size 0 _ rfl (bO _) ⟨⟨_,br _ rfl,rfl,rfl⟩,k5.push _⟩ ?_ λh' tk hS hk=>?_
    ·rcases bd.mp z with z|z
     ·rw[sz]at z;exact absurd z (bp (fY _))
     ·exact absurd (ar.mp z).symm (bp hlS)
    ·have g5:((s.heap.push {cls:=.type "set",dict:=none,data:=.set #[] 0 (.fresh 0 0 led)}).push {cls:=.type "list_iterator",data:=.fields #[.ref src,.int 0 0]}).get? s.heap.objs.size=some {cls:=.type "set",dict:=none,data:=.set #[] 0 (.fresh 0 0 led)}:=av _ g1;exact SetOf_congr ((setObjOf_fresh (knd:=PySem.strKind prog w) led).setOf g5 (by unfold scanBound;omega)) (λ_=>rfl) rfl
    ·show wpAny _ _ _ _ _ _;refine aX ?_;show wpAny _ _ (ret Value.none) _ _ _;refine aX ⟨rfl,h',tk,rfl,hS,λb o e=>?_⟩;have lt:=bh e;refine hk b o (λz=>?_) (bp lt) (av _ (av _ e));have z:=ar.mp z;rw[sz]at z;exact absurd z (bp (eM lt))
   ·cases r₂ with
    |error e=>exact hr₂
    |ok fl₂=>
     cases fl₂ with
     |next=>exact hr₂.elim
     |brk=>exact hr₂.elim
     |cont=>exact hr₂.elim
     |ret r=>
      obtain⟨rfl,h',tk,rfl,hS',hk'⟩:=hr₂
      repeat (any_goals (first|assumption|wp_step))
      exact h _ _ hS' hk'
end
section
variable{X:Cx}
def CK(P:Program)(w:World)(a:Addr)(l:List Str):HO:=.ext λh=>oO P w h a l
theorem yV(hc:X.calm=true):gj X (.type "set") (λxs H Q=>∃(p:Addr)(ws:List Str),xs=[.ref p]/\SqL X.K H p (ws.map V.str)/\ws.length+1<scanBound/\∀l,H l=none->Q (.ref l) (upd H l (CK X.prog X.w l ws))):=by
 intro pins s σ H xs us Q I r h;obtain⟨p,ws,rfl,hp,hb,q⟩:=h;obtain⟨u,rfl,ru⟩:=gL r;cases ru;obtain⟨its,rv,ht,hz⟩:=I.list hp;have hlen:=rv.length;rw[ae]at hlen;refine Ap (I.ok.hd hc) ht.isList (by simp;omega) (λi v ev=>?_) (by simp;omega) λh' tk hS hk=>?_
 ·have ev':its[i]?=some v:=by simpa using ev
  have hi:i<ws.length:=by rw[hlen];exact(bj.mp ev').1
  obtain⟨u',hu',ru'⟩:=rv.get (i:=i) (x:=.str ws[i]) (by simp[hi]);rw[ev']at hu';cases hu';obtain⟨t,rfl⟩:=ru';exact⟨ws[i],t,rfl,by simp[hi]⟩
 ·have ho:∃o,h'.get? s.heap.objs.size=some o:=let⟨o,_,_,_,e,_⟩:=hS;⟨o,e⟩;exact⟨.ref s.heap.objs.size,_,I.laid (t':=tk) (o:=CK X.prog X.w s.heap.objs.size ws) hk (aY _) ⟨hS,ho,λh1 h2 x k=>x.at k⟩,rfl,q _ (I.hok.fresh (aY _))⟩
theorem yY:gj X (.builtin "len") (λxs H Q=>∃(p:Addr)(ws:List Str),xs=[.ref p]/\H p=some (CK X.prog X.w p ws)/\Q (.int (iN ws).length) H):=by
 intro pins s σ H xs us Q I r h;obtain⟨p,ws,rfl,hp,q⟩:=h;obtain⟨u,rfl,ru⟩:=gL r;cases ru;obtain⟨⟨o,es,ep,t,ho,hex,hd,_,_,hb,hf,hn⟩,_,_⟩:oO X.prog X.w s.heap p ws/\_/\_:=I.hok p _ hp;have hbig:(scanBound:Int)<2^63:=Qd;refine call_len_set ho hex hd hf Qo ?_;rw[hn];exact⟨.int _,H,I.tok _,⟨_,rfl⟩,q⟩
theorem b_set:bootBuiltins "set"=some (.type "set"):=Qk
end
end L2
namespace L2
open PySem PySem.Spec PyProof.Rows
section
variable{prog:Program}{w:World}{A:Around}{E:Value->Shared->Prop}{s:Shared}{r:Addr}
end
section
variable{X:Cx}
theorem uL:bootBuiltins "reversed"=some (.type "reversed"):=Qk
end
end L2
namespace L2
open PySem PySem.Spec PyProof.Rows
section
variable{prog:Program}{w:World}{A:Around}{E:Value->Shared->Prop}
end
def He(K:ag)(neg:Bool):R2:=λx y H Q=>∃n dx ds,n<=60/\mH K H n x dx/\mH K H n y (.list ds)/\Q (.bl (if neg then !(ds.any λd=>PyData.eqv d dx)else ds.any λd=>PyData.eqv d dx)) H
theorem EM{X:Cx}(hu:X.A.units+64<cLine):kK X (compareOp .In) (He X.K false):=by
 intro pins s σ H x y v u Q I rx ry h;obtain⟨n,dx,ds,hn,h1,h2,q⟩:=h;obtain⟨⟨as,a1⟩,a2,a3⟩:=mH.reads I n x dx v h1 rx;obtain⟨⟨bs,b1⟩,b2,b3⟩:=mH.reads I n y (.list ds) u h2 ry;exact SeqAt.in_list_reads b1 a1 b2 a2 (by have:=Nat.min_le_right (PyData.depthAll ds) dx.depth;omega) ⟨.bl _,H,I,rfl,q⟩
end L2
namespace L2
open PySem PySem.Spec PyProof.Rows
end L2
namespace L2
open PySem PySem.Spec PyProof.Rows
section
variable{X:Cx}
end
end L2
namespace L2
open PySem PySem.Spec PyProof.Rows
section
variable{X:Cx}{pins:List (Addr×Obj)}{σ:St}{H:Hp}{s:Shared}{scope:Scope}{N:List Str}{xs:Nat}{js:List Nat}{cl:List (Str×Addr)}{fp:List Addr}{o:Obj}
end
section
variable{X:Cx}{scope:Scope}{N:List Str}{xs:Nat}{js:List Nat}{tg iter elt:Expr}{ifs:List Expr}{pos:Pos}{ti:TI}{g:TG}{tt:TT}{te:TE}
end
end L2
namespace L2
open PySem PySem.Spec PyProof.Rows
section
variable{X:Cx}
end
end L2
namespace L2
open PySem PySem.Spec PyProof.Rows
end L2
namespace L2
open PySem PySem.Spec PyProof.Rows
end L2
namespace L2
open PySem PySem.Spec PyProof.Rows
end L2
namespace L2
open PySem PySem.Spec PyProof.Rows PySem.W
section
variable{X:Cx}{pins:List (Addr×Obj)}{σ:St}{H:Hp}{s:Shared}
end
end L2
namespace L2
open PySem PySem.Spec PyProof.Rows
section
variable{X:Cx}
end
end L2
namespace L2
open PySem PySem.Spec PyProof.Rows
section
variable{X:Cx}
end
end L2
namespace L2
open PySem PySem.Spec PyProof.Rows
end L2
namespace L2
open PySem PySem.Spec PyProof.Rows
section
variable{X:Cx}
theorem yW(hc:X.calm=true):gj X (.builtin "min") (λxs H Q=>∃(p:Addr)(ns:List Int),xs=[.ref p]/\SqL X.K H p (ns.map V.int)/\ns≠ []/\∀m∈ns,(∀n∈ns,m<=n)->Q (.int m) H):=by
 intro pins s σ H xs us Q I r h;obtain⟨p,ns,rfl,hp,hne,q⟩:=h;obtain⟨u,rfl,ru⟩:=gL r;cases ru;obtain⟨its,rv,ht,hz⟩:=I.list hp;have hi:=nX rv;obtain⟨xs,hx⟩:=hi.allInts.items;have hn:numsOf its.toArray.toList=ns:=by rw[show its.toArray.toList=its from rfl,hi.numsOf]
 have hl:=ht.isList;rw[hx]at hl hn;rw[nums_intItems]at hn;subst hn;have hsz:0<xs.size:=by
  refine Nat.pos_of_ne_zero λz=>hne ?_;have:xs.toList=[]:=List.length_eq_zero_iff.mp (by rw[eT];exact z);rw[this];rfl
 refine min_intList (show X.A.handled=none from I.ok.hd hc) hl hsz λv h' tk hv hk=>?_;obtain⟨t,rfl⟩:=intItems_at hv;obtain⟨h1,h2⟩:=argBest_lt (numAt xs) (xs.size-1);refine⟨.int _,H,I.kept (t':=tk) hk,⟨t,rfl⟩,q _ ?_ λa ha=>?_⟩
 ·rw[numAt_eq];exact getD_mem (by rw[ae,eT];omega)
 ·obtain⟨j,hj,rfl⟩:=mem_getD ha;rw[ae,eT]at hj;rw[<-numAt_eq];exact h2 j Qo
end
section
variable{X:Cx}
end
end L2
namespace L2
open PySem PySem.Spec PyProof.Rows
section
variable{X:Cx}{pins:List (Addr×Obj)}{σ:St}{H:Hp}{s:Shared}{a:Addr}{kvs:List (dU×V)}{k:dU}{u r:Value}{v:V}{A:Around}{E:Value->Shared->Prop}
theorem E7{Q:Value->Shared->Prop}(I:Inv X pins σ H s)(e:H a=some (.dK kvs))(ry:bY (kV k) u)(rv:bY v r)(l:kvs.length<sizeLine)
  (h1:∀x w' s',valV kvs k=some x->bY x w'->Inv X pins σ H s'->Q w' s')(h2:∀s',valV kvs k=none->Inv X pins σ (upd H a (.dK (fM kvs k v))) s'->Q r s'):
  wpAny (model X.prog X.w) A (call (.builtin "dict.setdefault") [.ref a,u,r]) Q E s:=by
 obtain⟨z,hd,vs,rel,dd⟩:=BS I.hok e;have hl:(fM kvs k v).length<=sizeLine:=by have:=fV kvs k v;omega
 refine call_meetsIn fC dd.typeIs qJ (qE _ _ _) (kt_meets_setdefault (b8 X.prog X.w) a (k_ ry) hd r)
  ⟨vs,dd,by rw[<-rel.length];exact z,λw' hw=>?_,λhn h' dd' hs=>?_⟩
 ·cases e2:valV kvs k with
  |none=>
   have:=RelO.none_of (o:=valueAt vs k) (by rw[<-e2];exact rel.val k);rw[hw]at this;cases this
  |some x=>
   obtain⟨w2,hw2,rw2⟩:=RelO.some_of (v:=x) (o:=valueAt vs k) (by rw[<-e2];exact rel.val k);rw[hw]at hw2;cases hw2;exact h1 x w' _ e2 rw2 (I.tok _)
 ·refine h2 _ ?_ ?_
  ·cases e2:valV kvs k with
   |none=>rfl
   |some x=>
    obtain⟨w2,hw2,_⟩:=RelO.some_of (v:=x) (o:=valueAt vs k) (by rw[<-e2];exact rel.val k);rw[hn]at hw2;cases hw2
  ·have he:∃q,h'.get? a=some q:=let⟨q,_,_,hq,_⟩:=dd';⟨q,hq⟩;exact i_ I (by rw[e];exact True.intro) hs he (qu hl hd (rel.put k rv) dd')
end
def Ez(td ty tx:TE):TE:=λσ H Q=>td σ H λx H1=>∃a,x=.ref a/\GG H1 a/\ty σ H1 λy H2=>tx σ H2 λz H3=>∃kvs k,H3 a=some (.dK kvs)/\y=kV k/\kvs.length<sizeLine/\
 (∀v,valV kvs k=some v->Q v H3)/\(valV kvs k=none->Q z (upd H3 a (.dK (fM kvs k z))))
theorem AT{X:Cx}{o e f:Expr}{apos cpos:Pos}{td ty tx:TE}(ho:PE X o td)(he:PE X e ty)(hf:PE X f tx)(m:M2 X o "setdefault" apos e f cpos):PE X (.Call (.Attribute o "setdefault" apos) [e,f] [] cpos) (Ez td ty tx):=by
 intro pins s σ H Q I h;refine jt m.base m.few m.line eY fC sE (dr (ho pins s σ H _ I h) λu s1⟨x,H1,I1,rx,a,ex,d,q1⟩=>?_);subst ex;obtain rfl:u=Value.ref a:=rx;obtain⟨t1,t2,_⟩:=qp I1 d;refine⟨t1,t2,?_⟩;rw[m.trees];refine Calls.callWith_builtin rfl (Calls.evalArgs_plain (Calls.spliced_cons (dr (he pins s1 σ H1 _ I1 q1) λiv s2⟨y,H2,I2,ry,q2⟩=>
  Calls.spliced_cons (dr (hf pins s2 σ H2 _ I2 q2) λfv s3⟨z,H3,I3,rz,kvs,k,ea,ey,hl,q3,q4⟩=>Calls.spliced_nil ?_))))
 subst ey;exact E7 I3 ea ry rz hl (λx w' s4 e4 r4 I4=>⟨x,H3,I4,r4,q3 x e4⟩) λs4 e4 I4=>⟨z,_,I4,rz,q4 e4⟩
end L2
namespace L2
open PySem PySem.Spec PyProof.Rows
theorem aJ.at_.same{H H':Hp}{k:aJ}{y:V}(s:∀b o,H b=some o->H' b=some o)(h:k.at_ H y):k.at_ H' y:=h.keep λb xs e=>s b _ e
theorem aJ.at_.upd{H:Hp}{k:aJ}{y:V}{a:Addr}{o o':HO}(h:k.at_ H y)(e:H a=some o)(nt:∀xs,o≠ .tup xs):k.at_ (L2.upd H a o') y:=
 h.keep λb xs eb=>by
  rw[aV (λz=>by rw[z,e]at eb;exact nt xs (Option.some.inj eb))];exact eb
theorem Bz{P:Program}{w:World}(h:Heap):MDict P w (h.push {cls:=.type "dict",data:=.dict #[]}) h.objs.size []:=
 ⟨_,#[],0,br _ rfl,⟨rfl,rfl,rfl⟩,rfl,rfl,.nil⟩
theorem rW{P:Program}{w:World}{H:Hp}(h:Heap)(hb:sysModules<h.objs.size):ObjOk P w H (h.push {cls:=.type "dict",data:=.dict #[]}) h.objs.size (.dM []):=
 ⟨bO _,beq_eq_false_iff_ne.mpr (Ne.symm (bp hb)),[],.nil,Bz h⟩
def EA:TE:=λ_ H Q=>∀p,H p=none->Q (.ref p) (upd H p (.dM []))
section
variable{X:Cx}{pos:Pos}
theorem AV:PE X (.Dict [] [] pos) EA:=λpins s σ H Q I h=>
 wpAny_Dict_empty ⟨.ref s.heap.objs.size,_,I.laid (a:=s.heap.objs.size) (o:=.dM []) (t':=s.toks) (λ_ _ q=>av _ q) (aY _) (rW s.heap I.big),rfl,h _ (I.hok.fresh (aY _))⟩
def Ex(tk tv:TE):TE:=λσ H Q=>∀p,H p=none->tk σ (upd H p (.dM [])) λx H1=>tv σ H1 λy H2=>H2 p=some (.dM [])/\∃k:aJ,k.at_ H2 x/\Q (.ref p) (upd H2 p (.dM [(k,y)]))
theorem AW{k v:Expr}{tk tv:TE}(hu:X.A.units+1<cLine)(hk:PE X k tk)(hv:PE X v tv):PE X (.Dict [some k] [v] pos) (Ex tk tv):=by
 intro pins s σ H Q I q;have hn:=I.hok.fresh (aY s.heap.objs.size);have I1:=I.laid (a:=s.heap.objs.size) (o:=.dM []) (h':=s.heap.push {cls:=.type "dict",data:=.dict #[]}) (t':=s.toks) (λ_ _ q=>av _ q) (aY _) (rW s.heap I.big);rw[arm_eval_Dict,zip_pairTrees [some k] [v] X.env pos rfl rfl,dictDisplay_pairs _ (by simp[pairTrees]) (by simp[pairTrees])];refine ak (zD (ak ?_));unfold subDict;refine ak (wpAny_alloc (ak (cJ ?_)));rw[bc (by simp[pairTrees])];refine ak (pairTrees_cons_walk (dr (hk pins _ σ _ _ I1 (q _ hn)) λu s1⟨x,H1,I2,rx,q1⟩=>dr (hv pins s1 σ H1 _ I2 q1) λr s2⟨y,H2,I3,ry,e,mk,m,q2⟩=>pairTrees_nil_walk ?_));refine cJ (ak ?_);obtain⟨z,hd,xs,rel,dd⟩:=jO I3.hok (.inl e);cases rel;rw[sG];refine ak (ak (tP (mt (Nat.lt_of_succ_lt hu) I3.hok .nil dd m rx) dd (bO _) λh' n dd' hs=>aX ?_));show wpAny _ _ (forIn [] PUnit.unit _) _ _ _;rw[List.forIn_nil];refine aX (aX (aX (aX ⟨.ref s.heap.objs.size,_,?_,rfl,q2⟩)));have he:∃q,h'.get? s.heap.objs.size=some q:=let⟨q,_,_,hq,_⟩:=dd';⟨q,hq⟩;refine i_ I3 (by rw[e];exact True.intro) hs he ⟨show 1<=sizeLine by decide,hd,_,(MV.put (H:=H2) .nil mk m rx ry).keeps λc ys ec=>?_,dd'⟩;rw[aV (cU ec e (λz=>nomatch z))];exact ec
end
section
variable{X:Cx}{pins:List (Addr×Obj)}{σ:St}{H:Hp}{s:Shared}{a:Addr}{kvs:List (aJ×V)}{k:aJ}{u r:Value}{y v:V}{A:Around}{E:Value->Shared->Prop}
theorem DC{Q:Value->Shared->Prop}(hu:A.units+1<cLine)(I:Inv X pins σ H s)(e:H a=some (.dM kvs))(mk:k.at_ H y)(ry:bY y u)(rv:bY v r)(l:kvs.length<sizeLine)
  (h1:∀x w' s',valV kvs k=some x->bY x w'->Inv X pins σ H s'->Q w' s')(h2:∀s',valV kvs k=none->Inv X pins σ (upd H a (.dM (fM kvs k v))) s'->Q r s'):
  wpAny (model X.prog X.w) A (call (.builtin "dict.setdefault") [.ref a,u,r]) Q E s:=by
 obtain⟨z,hd,xs,rel,dd⟩:=jO I.hok (.inl e);have hl:(fM kvs k v).length<=sizeLine:=by have:=fV kvs k v;omega
 have hz:xs.length<=sizeLine:=by rw[<-Paired.length rel];exact z
 refine call_meetsIn fC dd.typeIs qJ (qE _ _ _) (oH X.prog X.w a u hd r)
  ⟨k,xs,mt hu I.hok rel dd mk ry,dd,hz,λw' n hw=>?_,λh' n hn dd' hs=>?_⟩
 ·cases e2:valV kvs k with
  |none=>
   have:=RelO.none_of (o:=mAt xs k) (by rw[<-e2];exact rel.val k);rw[hw]at this;cases this
  |some x=>
   obtain⟨w2,hw2,rw2⟩:=RelO.some_of (v:=x) (o:=mAt xs k) (by rw[<-e2];exact rel.val k);rw[hw]at hw2;cases hw2;exact h1 x w' _ e2 rw2 (I.tok _)
 ·refine h2 _ ?_ ?_
  ·cases e2:valV kvs k with
   |none=>rfl
   |some x=>
    obtain⟨w2,hw2,_⟩:=RelO.some_of (v:=x) (o:=mAt xs k) (by rw[<-e2];exact rel.val k);rw[hn]at hw2;cases hw2
  ·have he:∃q,h'.get? a=some q:=let⟨q,_,_,hq,_⟩:=dd';⟨q,hq⟩;refine i_ I (by rw[e];exact True.intro) hs he ⟨hl,hd,_,(rel.put k mk ry rv).keeps λc ys ec=>?_,dd'⟩;rw[aV (cU ec e (λz=>nomatch z))];exact ec
end
def Ey(td ty tx:TE):TE:=λσ H Q=>td σ H λx H1=>∃a,x=.ref a/\GG H1 a/\ty σ H1 λy H2=>tx σ H2 λz H3=>∃kvs k,H3 a=some (.dM kvs)/\aJ.at_ H3 k y/\kvs.length<sizeLine/\
 (∀v,valV kvs k=some v->Q v H3)/\(valV kvs k=none->Q z (upd H3 a (.dM (fM kvs k z))))
theorem AU{X:Cx}{o e f:Expr}{apos cpos:Pos}{td ty tx:TE}(hu:X.A.units+1<cLine)(ho:PE X o td)(he:PE X e ty)(hf:PE X f tx)(m:M2 X o "setdefault" apos e f cpos):PE X (.Call (.Attribute o "setdefault" apos) [e,f] [] cpos) (Ey td ty tx):=by
 intro pins s σ H Q I h;refine jt m.base m.few m.line eY fC sE (dr (ho pins s σ H _ I h) λu s1⟨x,H1,I1,rx,a,ex,d,q1⟩=>?_);subst ex;obtain rfl:u=Value.ref a:=rx;obtain⟨t1,t2,_⟩:=qp I1 d;refine⟨t1,t2,?_⟩;rw[m.trees];refine Calls.callWith_builtin rfl (Calls.evalArgs_plain (Calls.spliced_cons (dr (he pins s1 σ H1 _ I1 q1) λiv s2⟨y,H2,I2,ry,q2⟩=>
  Calls.spliced_cons (dr (hf pins s2 σ H2 _ I2 q2) λfv s3⟨z,H3,I3,rz,kvs,k,ea,mk,hl,q3,q4⟩=>Calls.spliced_nil ?_))))
 exact DC hu I3 ea mk ry rz hl (λx w' s4 e4 r4 I4=>⟨x,H3,I4,r4,q3 x e4⟩) λs4 e4 I4=>⟨z,_,I4,rz,q4 e4⟩
section
variable{prog:Program}{w:World}{A:Around}{R:Result->Shared->Prop}{I:Addr}{fp wr:List Addr}{n:Nat}{P:Nat->Value->Prop}{St:Nat->Heap->Prop}
theorem mI.stay{h h':Heap}(t:∀b o,h.get? b=some o->h'.get? b=some o):∀{k:aJ}{u:Value},mI prog w h k u->mI prog w h' k u
 |.inl _,_,m=>m
 |.inr _,_,⟨⟨b,e,o,its,n,g,r⟩,q⟩=>⟨⟨b,e,o,its,n,t b o g,r⟩,q⟩
theorem mI.stayK{h h':Heap}:∀{k:aJ}{u:Value},mI prog w h k u->(∀b o,u=.ref b->h.get? b=some o->h'.get? b=some o)->mI prog w h' k u
 |.inl _,_,m,_=>m
 |.inr _,_,⟨⟨b,e,o,its,n,g,r⟩,q⟩,t=>⟨⟨b,e,o,its,n,t b o e g,r⟩,q⟩
theorem uC(hu:A.in1.units<cLine)(W:Walks prog w A.in1 I fp wr n P St)(D:Addr)(hD:D∉fp)(bs:List Addr)(ks:List dE)(hk:ks.length=n)(nd:(ks.map (·.1)).Nodup)
  (hP:∀(i:Nat)(v:Value),P i v->∃b:Addr,v=.ref b/\bs[i]?=some b)(hsz:n<=sizeLine)(hw:∀b∈bs,b∉wr/\b≠D)(hr:∀x∈ks,∀b,x.2.1=.ref b->b∉wr/\b≠D):
  ∀(k i:Nat)(s:Shared)(j:Int),n-i=k->i<=n->St i s.heap->MDict prog w s.heap D (ks.take i)->(∀x∈ks,mI prog w s.heap x.1 x.2.1)->
  (∀(j:Nat)(b:Addr)(x:dE),bs[j]?=some b->ks[j]?=some x->IsTup s.heap b #[x.2.1,x.2.2])->
  (∀h' tk,MDict prog w h' D ks->(∀b o,b∉wr->b≠D->s.heap.get? b=some o->h'.get? b=some o)->R (.ok (.ret .none)) {s with heap:=h',toks:=tk})->
  codeAny (model prog w) A (.builtin "dict.update.loop" ⟨[.ref D,.ref I,rawInt j,.none],[]⟩) R s:=by
 have hDw:D∉wr:=λh=>hD (W.sub _ h);intro k;induction k with
 |zero=>
  intro i s j hk' hi hst hd his hb hR;have hin:i=n:=Qo;subst hin;refine codeAny_builtin rX ?_;rw[Around.under_plainId lh _];show wpAny _ A.in1 (pyNext (.ref I)>>=_) _ _ s;refine ak (W.done s _ _ hst λh' tk hk2=>?_);show wpAny _ A.in1 (Builtin.Dict.addKeywords D []>>=_) _ _ _;refine ak (aX (aX (hR h' tk ?_ λb o h1 _ e=>hk2 b o h1 e)));rw[dq Qo]at hd;obtain⟨o,es,ep,g,r⟩:=hd;exact⟨o,es,ep,hk2 D o hDw g,r⟩
 |succ k ih=>
  intro i s j hk' hi hst hd his hb hR;have hlt:i<n:=Qo;refine codeAny_builtin rX ?_;rw[Around.under_plainId lh _];show wpAny _ A.in1 (pyNext (.ref I)>>=_) _ _ s;refine ak (W.item i s _ _ hlt hst λv h1 tk hv hst1 hk1=>?_);obtain⟨b,rfl,eb⟩:=hP i v hv;have hi2:i<ks.length:=Qo;have ek:ks[i]?=some ks[i]:=a_ hi2;obtain⟨hbw,hbD⟩:=hw b (ao eb);obtain⟨o,e,c,m,dd⟩:=hb i b _ eb ek;have e:=hk1 b o hbw e;have hd1:MDict prog w h1 D (ks.take i):=let⟨o,es,ep,g,r⟩:=hd;⟨o,es,ep,hk1 D o hDw g,r⟩;have his1:∀x∈ks,mI prog w h1 x.1 x.2.1:=λx hx=>(his x hx).stayK λb o eb g=>hk1 b o (hr x hx b eb).1 g;show wpAny _ A.in1 (holding [Value.ref b] _>>=_) _ _ _;refine ak (cJ (ak (wpAny_tryCatch ?_)));unfold Builtin.Dict.pairItems;refine ak (wpAny_typeOf (T:="tuple") ⟨o,e,c⟩ ?_);rw[bc Qd];refine ak (wpAny_seqItems e dd (aX ?_));show wpAny _ A.in1 (holding [ks[i].2.1,ks[i].2.2] (dictSet D ks[i].2.1 ks[i].2.2)) _ _ _;have nd1:((ks.take i).map (·.1)).Nodup:=by rw[zI];exact nd.sublist (gH _ _)
  refine cJ (tP (s:={s with heap:=h1,toks:=tk}) (gT.of (s:={s with heap:=h1,toks:=tk}) hu nd1 (λx hx=>his1 x (ik hx)) (his1 _ (kj hi2))) hd1 (by rw[aQ];omega) λh2 n2 hd2 hs2=>?_);have et:ks.take (i+1)=ks.take i++[ks[i]]:=by rw[bi,ek];rfl
  have nn:ks[i].1 ∉(ks.take i).map (·.1):=λz=>by
   have:=nd;rw[<-List.take_append_drop i ks,ah,cS]at this;refine this.2.2 _ z _ ?_ rfl;rw[List.drop_eq_getElem_cons hi2];exact au
  rw[jH nn]at hd2;refine aX ⟨plainId_quiet lh _,?_⟩;refine ih (i+1) _ (j+1) Qo Qo (W.frame _ _ _ hst1 λb hb o e=>?_) (by rw[et];exact hd2) (λx hx=>(his1 x hx).stayK λb o eb g=>(hs2.2 b (hr x hx b eb).2).trans g) (λj' b' kv' e1 e2=>?_) λh3 tk3 hd3 hk3=>?_
  ·exact(hs2.2 b (λz=>hD (z▸hb))).trans e
  ·obtain⟨o',e',r'⟩:=hb j' b' kv' e1 e2;obtain⟨q1,q2⟩:=hw b' (ao e1);exact⟨o',(hs2.2 b' q2).trans (hk1 b' o' q1 e'),r'⟩
  ·exact hR h3 tk3 hd3 λb' o' q1 q2 e'=>hk3 b' o' q1 q2 ((hs2.2 b' q2).trans (hk1 b' o' q1 e'))
theorem r9{E:Value->Shared->Prop}{s:Shared}{src:Addr}{its:Array Value}{c:Nat}{sl:Array (Option Value)}{Q:Value->Shared->Prop}(hu:A.units+4<cLine)(hh:A.handled=none)(hs:s.heap.get? src=some {cls:=.type "list",dict:=none,data:=.seq its c,slots:=sl})
  (bs:List Addr)(ks:List dE)(hk:ks.length=its.size)(nd:(ks.map (·.1)).Nodup)(hP:∀(i:Nat)(v:Value),its[i]?=some v->∃b:Addr,v=.ref b/\bs[i]?=some b)(hsz:its.size<=sizeLine)
  (his:∀x∈ks,mI prog w s.heap x.1 x.2.1)(hb:∀(j:Nat)(b:Addr)(x:dE),bs[j]?=some b->ks[j]?=some x->IsTup s.heap b #[x.2.1,x.2.2])(hbl:bs.length=ks.length)
  (h:∀h' tk,MDict prog w h' s.heap.objs.size ks->(∀b o,s.heap.get? b=some o->h'.get? b=some o)->Q (.ref s.heap.objs.size) {s with heap:=h',toks:=tk}):
  wpAny (model prog w) A (call (.type "dict") [.ref src]) Q E s:=by
 refine callType_codes (Q₁:=λx t₁=>x=.ref s.heap.objs.size/\t₁={s with heap:=s.heap.push {cls:=.type "dict",data:=.dict #[]}}) F.kt_called_dict (F.kt_typeCall_dict_1 _) F.entry_dict_init (kt_code_dict_new _ ⟨rfl,rfl⟩) ?_;rintro x t₁⟨rfl,rfl⟩;have eD:MDict prog w (s.heap.push {cls:=.type "dict",data:=.dict #[]}) s.heap.objs.size []:=Bz s.heap;have ty:({s with heap:=s.heap.push {cls:=.type "dict",data:=.dict #[]}}:Shared).TypeIs (.ref s.heap.objs.size) "dict":=eD.typeIs;have hl:=av {cls:=.type "dict",data:=.dict #[]} hs;refine⟨ty,F.args_dict_init_2 _ _,?_⟩;unfold Builtin.«dict.__init__»;refine ak ?_;unfold Builtin.Dict.selfAndRest;refine ak (lD ty (show wpAny _ _ (pure (s.heap.objs.size,[Value.ref src])) _ _ _ from aX (show wpAny _ _ (Builtin.Dict.updateFrom "dict.__init__" s.heap.objs.size (.ref src) [] .none) _ _ _ from ?_)));unfold Builtin.Dict.updateFrom;refine ak (wpAny_typeOf (T:="list") ⟨_,hl,rfl⟩ ?_);rw[bc Qd];refine ak (Dk hl (show A.in1.in1.handled=none from hh) λh1 tk1 k1=>?_);rw[bc Qr];refine ak (fk ?_);have hl1:=k1 _ _ hl;refine ak (jq (items:=its) ⟨_,hl1,rfl,c,rfl⟩ ?_);have hlt:src<h1.objs.size:=bh hl1;have hsrc:src<s.heap.objs.size:=bh hs;have hD1:s.heap.objs.size<h1.objs.size:=by
  obtain⟨o,_,_,e,_⟩:=eD;exact bh (k1 _ _ e)
 have up:∀b o,s.heap.get? b=some o->(h1.push {cls:=.type "list_iterator",data:=.fields #[.ref src,rawInt 0]}).get? b=some o\/True:=λ_ _ _=>.inr trivial;refine aX ⟨plainId_quiet lh _,?_⟩;refine uC (A:=A.in1) (by show A.units+1+1<cLine;omega) (Walks.list (A:=A.in1.in1) (show A.in1.in1.handled=none from hh) h1.objs.size src (bp hlt) its) s.heap.objs.size (λz=>?_) bs ks hk nd hP hsz (λb hb'=>?_) (λx hx b eb=>?_) its.size 0 _ 0 rfl (bO _)
  ⟨⟨_,br _ rfl,rfl,rfl⟩,⟨_,av _ hl1,rfl,c,rfl⟩⟩ ?_ (λx hx=>(his x hx).stay λb o e=>av _ (k1 _ _ (av _ e))) (λj b kv e1 e2=>?_) λh2 tk2 hd2 hk2=>?_
 ·rcases bd.mp z with z|z
  ·exact absurd z (bp hD1)
  ·exact absurd (ar.mp z).symm (bp hsrc)
 ·obtain⟨j,hj,e⟩:=lX.mp hb';obtain⟨o,eo,_⟩:=hb j b (ks[j]'(Qo)) (by rw[a_ hj,e]) (a_ _);have lt:=bh eo;exact⟨λz=>absurd (ar.mp z) (bp (oW lt hD1)),bp lt⟩
 ·have lt:b<s.heap.objs.size:=by
   have:=his x hx;obtain⟨kx,u,v⟩:=x
   match kx,this with
   |.inl y,⟨⟨t,e⟩,_⟩=>exact absurd ((show u=.str y t from e).symm.trans eb) (by intro z;cases z)
   |.inr ys,⟨⟨b',e,o,its,n,g,r⟩,_⟩=>
    have:=(show u=.ref b' from e).symm.trans eb;cases this;exact bh g
  exact⟨λz=>absurd (ar.mp z) (bp (oW lt hD1)),bp lt⟩
 ·obtain⟨o,es,ep,e,r⟩:=eD;exact⟨o,es,ep,av _ (k1 _ _ e),r⟩
 ·obtain⟨o,eo,r⟩:=hb j b kv e1 e2;exact⟨o,av _ (k1 _ _ (av _ eo)),r⟩
 ·refine⟨rfl,h h2 tk2 hd2 λb o e=>?_⟩;have lt:=bh e;exact hk2 b o (λz=>absurd (ar.mp z) (bp (oW lt hD1))) (bp lt) (av _ (k1 _ _ (av _ e)))
end
theorem uI{X:Cx}(hu:X.A.units+4<cLine)(hc:X.calm=true):gj X (.type "dict") (λxs H Q=>∃(p:Addr)(ps:List (Addr×aJ×V×V)),xs=[.ref p]/\SqL X.K H p (ps.map λq=>V.ref q.1)/\(∀q∈ps,cG X.K H q.1 [q.2.2.1,q.2.2.2]/\q.2.1.at_ H q.2.2.1)/\(ps.map (·.2.1)).Nodup/\∀l,H l=none->Q (.ref l) (upd H l (.dM (ps.map λq=>(q.2.1,q.2.2.2))))):=by
 intro pins s σ H xs us Q I r h;obtain⟨p,ps,rfl,hp,hq,nd,q⟩:=h;obtain⟨u,rfl,ru⟩:=gL r;cases ru;obtain⟨its,rv,⟨o,n,e,c1,c2,c3⟩,hz⟩:=I.list hp;obtain⟨oc,od,oda,osl⟩:=o;simp only at c1 c2 c3;subst c1 c2 c3;have hlen:=rv.length;rw[ae]at hlen hz;have mk:∀ps:List (Addr×aJ×V×V),(∀q∈ps,cG X.K H q.1 [q.2.2.1,q.2.2.2]/\q.2.1.at_ H q.2.2.1)->∃ks:List dE,MV H (ps.map λq=>(q.2.1,q.2.2.2)) ks/\ks.map (·.1)=ps.map (·.2.1)/\(∀x∈ks,mI X.prog X.w s.heap x.1 x.2.1)/\∀(j:Nat)(b:Addr)(x:dE),(ps.map (·.1))[j]?=some b->ks[j]?=some x->IsTup s.heap b #[x.2.1,x.2.2]:=by
  intro ps;induction ps with
  |nil=>intro _;exact⟨[],.nil,rfl,λ_ h=>(nomatch h),λj b kv e=>by simp at e⟩
  |cons a r ih=>
   intro hq;obtain⟨ks,k1,k0,k3,k2⟩:=ih λx hx=>hq x (aq _ hx);obtain⟨ha,hm⟩:=hq a au;obtain⟨its',rv',ht',_⟩:=I.tuple ha;obtain⟨u1,u2,rfl,r1,r2⟩:=zT rv';refine⟨(a.2.1,u1,u2)::ks,.cons ⟨rfl,⟨_,hm,r1⟩,r2⟩ k1,by rw[aF,aF,k0],λx hx=>?_,λj b kv e1 e2=>?_⟩
   ·rcases bd.mp hx with rfl|hx
    ·exact tT I.hok hm r1
    ·exact k3 x hx
   ·cases j with
    |zero=>
     simp at e1 e2;subst e1 e2;exact ht'
    |succ j=>exact k2 j b kv (by simpa using e1) (by simpa using e2)
 obtain⟨ks,k1,k0,k3,k2⟩:=mk ps hq;have kl:=Paired.length k1;rw[ae]at kl;refine r9 hu (I.ok.hd hc) e (ps.map (·.1)) ks (by simp;omega) (by rw[k0];exact nd) (λi v ev=>?_) (by simp;omega) k3 k2 (by simp;omega) λh' tk hd hk=>?_
 ·have ev':its[i]?=some v:=by simpa using ev
  have hi:i<ps.length:=by rw[hlen];exact(bj.mp ev').1
  obtain⟨u',hu',ru'⟩:=rv.get (i:=i) (x:=.ref ps[i].1) (by simp[hi]);rw[ev']at hu';cases hu';cases ru';exact⟨ps[i].1,rfl,by simp[hi]⟩
 ·have hbig:(s.heap.objs.size==sysModules)=false:=beq_eq_false_iff_ne.mpr (Ck I.big);have hf:=I.hok.fresh (aY s.heap.objs.size);refine⟨.ref s.heap.objs.size,_,I.laid (t':=tk) (o:=.dM (ps.map λq=>(q.2.1,q.2.2.2))) hk (aY _) ⟨by rw[ae];omega,hbig,_,k1.keeps λb xs e=>?_,hd⟩,rfl,q _ hf⟩;rw[aV (aZ e hf)];exact e
end L2
namespace L2
open PySem PySem.Spec PyProof.Rows
theorem rj{H:Hp}:∀{kvs:List (aJ×V)}{xs:List dE}{ws:List Str},MV H kvs xs->kvs.map (·.1)=ws.map Sum.inl->xs.map (·.1)=ws.map Sum.inl/\∀x∈xs,∃w t,x.1=.inl w/\x.2.1=.str w t
 |_,_,ws,.nil,e=>by
  cases ws with
  |nil=>exact⟨rfl,λ_ h=>nomatch h⟩
  |cons a l=>cases e
 |_,_,ws,.cons (a:=p) (b:=q) ⟨e1,⟨y,m,r⟩,_⟩ t,e=>by
  cases ws with
  |nil=>cases e
  |cons a l=>
   rw[aF,aF]at e;obtain⟨ea,el⟩:=List.cons.inj e;obtain⟨h1,h2⟩:=rj t el;refine⟨by rw[aF,aF,h1,<-e1,ea],λx hx=>?_⟩;rcases bd.mp hx with rfl|hx
   ·rw[ea]at m;obtain⟨rfl,_⟩:=m;obtain⟨t',e'⟩:=(show∃t,x.2.1=Value.str a t from r);exact⟨a,t',by rw[<-e1,ea],e'⟩
   ·exact h2 x hx
def nO:aJ->dU
 |.inl x=>.inr x
 |.inr _=>.inr ""
theorem rp{prog:Program}{w:World}:∀{xs:List dE},(∀x∈xs,∃w t,x.1=.inl w/\x.2.1=Value.str w t)->Pairs (b8 prog w) (xs.map (iK (pB prog w))) (xs.map λx=>(nO x.1,x.2.2))
 |[],_=>.nil
 |x::xs,h=>by
  obtain⟨w',t,e1,e2⟩:=h x au;refine .cons ?_ rfl (rp λy hy=>h y (aq _ hy));show(b8 prog w).is (nO x.1) x.2.1=true;rw[e1,e2];exact fU prog w w' t
theorem By{prog:Program}{w:World}{h:Heap}{d:Addr}{xs:List dE}{ws:List Str}(D:MDict prog w h d xs)(e1:xs.map (·.1)=ws.map Sum.inl)(hx:∀x∈xs,∃w t,x.1=.inl w/\x.2.1=Value.str w t):h.DictOf (b8 prog w) d (xs.map λx=>(nO x.1,x.2.2)):=by
 obtain⟨o,es,ep,g,c,e,he,nd⟩:=D;refine⟨o,es,ep,g,c,e,λen hen=>?_,by rw[he];exact rp hx,?_⟩
 ·obtain⟨x,hxs,rfl⟩:=tQ he hen;obtain⟨w',t,e3,e4⟩:=hx x hxs;refine⟨.inr w',?_,?_⟩
  ·show(b8 prog w).is _ x.2.1=true;rw[e4];exact fU prog w w' t
  ·show pB prog w x.1=_;rw[e3];rfl
 ·have e5:(xs.map λx=>(nO x.1,x.2.2)).map (·.1)=ws.map (Sum.inr:Str->dU):=by
   rw[bm];show xs.map (nO∘(·.1))=_;rw[<-bm,e1,bm];rfl
  rw[e5];rw[e1]at nd;exact eN.mpr ((eN.mp nd).imp λh e=>h (by rw[Sum.inr.inj e]))
theorem oo{X:Cx}(hc:X.calm=true):gj X (.type "list") (λxs H Q=>∃(d:Addr)(kvs:List (aJ×V))(ws:List Str),xs=[.ref d]/\Rd H d (.dM kvs)/\kvs.map (·.1)=ws.map Sum.inl/\∀l,H l=none->Q (.ref l) (upd H l (.lst (ws.map V.str)))):=by
 intro pins s σ H xs us Q I r h;obtain⟨d,kvs,ws,rfl,hd,ek,q⟩:=h;obtain⟨u,rfl,ru⟩:=gL r;cases ru;obtain⟨z,hs,vs,rel,dd⟩:=jO I.hok hd;obtain⟨e1,hx⟩:=rj rel ek;obtain⟨ep,hat⟩:=(By dd e1 hx).dictAt;have Kd:=PySem.W.kdl_dict (prog:=X.prog) (w:=X.w) (knd:=b8 X.prog X.w) (kvs:=vs.map λx=>(nO x.1,x.2.2)) (ep:=ep) hs;have lk:kvs.length=ws.length:=by have:=b6 List.length ek;rw[ae,ae]at this;exact this
 have lv:vs.length=ws.length:=by have:=b6 List.length e1;rw[ae,ae]at this;exact this
 have el:(ws.map V.str).length=(vs.map λx=>((nO x.1,x.2.2):dU×Value)).length:=by rw[ae,ae,lv]
 rw[<-el]at Kd;refine nT (ys:=ws.map V.str) hc I Kd hat (by rw[ae,<-lk];exact z) (λi v y hv hy=>?_) q;obtain⟨k,x,hx',hk⟩:=hv;rw[ap]at hy hx';cases q2:ws[i]? with
 |none=>rw[q2]at hy;cases hy
 |some a=>
  rw[q2]at hy;cases hy;have e3:(vs.map (·.1))[i]?=some (.inl a):=by rw[e1,ap,q2];rfl
  rw[ap]at e3;cases q3:vs[i]? with
  |none=>rw[q3]at e3;cases e3
  |some b=>
   rw[q3]at e3 hx';have e4:b.1=.inl a:=Option.some.inj e3;cases hx';rw[e4]at hk;rcases dk (show kZ (.inr a) v=true from hk)with⟨i',t',e5,rfl⟩|⟨x',t',e5,rfl⟩
   ·cases e5
   ·cases e5;exact⟨t',rfl⟩
end L2
namespace L2
open PySem PySem.Spec PyProof.Rows
theorem ni:∀{ws:List Str}{its:List Value},cI (ws.map V.str) its->StrsAre its ws
 |[],_,.nil=>.nil
 |x::ws,_,.cons r t=>by
  obtain⟨k,rfl⟩:=(show∃k,_=Value.str x k from r);exact .cons x k (ni t)
theorem m7:∀{its:List Value}{ws:List Str},StrsAre its ws->cI (ws.map V.str) its
 |_,_,.nil=>.nil
 |_,_,.cons _ k t=>.cons ⟨k,rfl⟩ (m7 t)
theorem uF{X:Cx}:gj X (.builtin "sorted") (λxs H Q=>∃(l:Addr)(ws:List Str),xs=[.ref l]/\SqL X.K H l (ws.map V.str)/\ws.length<64/\∀(o:Addr)(ws':List Str),H o=none->ws'.Perm ws->Q (.ref o) (upd H o (.lst (ws'.map V.str)))):=by
 intro pins s σ H xs us Q I r h;obtain⟨l,ws,rfl,hl,h64,q⟩:=h;obtain⟨u,rfl,ru⟩:=gL r;cases ru;obtain⟨its,rv,ht,hz⟩:=I.list hl;have hlen:its.length<64:=by
  have:=rv.length;rw[ae]at this;omega
 refine sorted_strs ht.isList (ni rv) hlen λout ss' h1 hp _=>?_;have hf:=I.hok.fresh (jv s.heap.objs.size);obtain⟨e,he⟩:=sortedAll_at s.heap its out;have hz':(ss'.map V.str).length<=sizeLine:=by
  rw[ae,hp.length_eq];rw[ae]at hz;exact hz
 exact⟨.ref (s.heap.objs.size+1),_,I.laid (a:=s.heap.objs.size+1) (o:=.lst (ss'.map V.str)) (t':=s.toks) (λ_ _ z=>sortedAll_old z) (jv _) ⟨hz',out.toList,e,m7 h1,he⟩,rfl,q _ ss' hf hp⟩
end L2
namespace L2
open PySem PySem.Spec PyProof.Rows
section
variable{prog:Program}{w:World}{A:Around}{E:Value->Shared->Prop}{s:Shared}
theorem mF{it l:Addr}{i:Nat}{items:Array Value}{x:Value}{Q:Value->Shared->Prop}(hit:s.heap.IsRevIter it l (i:Int))(hl:s.heap.IsList l items)(hx:items[i]?=some x)
  (hQ:∀h',h'.IsRevIter it l ((i:Int)-1)->Heap.SameBut it s.heap h'->Q x {s with heap:=h'}):wpAny (model prog w) A (Builtin.SmallTypes.nextOf (.ref it)) Q E s:=by
 obtain⟨o,ho,hc,hd⟩:=id hit;obtain⟨ol,hol,_,nl,hdl⟩:=hl;unfold Builtin.SmallTypes.nextOf;refine ak (eV (name:=Str.ofString "__next__") hit.typeIs F.slot_lri_next
  (fX F.slot_lri_next hit.typeIs F.entry_lri_next ?_ (F.args_lri_next_1 _)))
 unfold Builtin.«list_reverseiterator.__next__»;refine ak (DS (a:=(Value.ref it,[])) rfl ?_)
 try dsimp only
 refine ak (qI ho hd (x:=rawInt (i:Int)) rfl ?_);show wpAny _ _ (if(i:Int)<0 then _ else _) _ _ s;rw[aM Qo];show wpAny _ _ (field (.ref it) 0>>=_) _ _ s;refine ak (qI ho hd (x:=.ref l) rfl ?_);show wpAny _ _ (seqItems? (.ref l)>>=_) _ _ s;refine ak (wpAny_seqItems hol hdl ?_);simp only[jw,hx];refine ak (wpAny_setField ho hd Qs ?_);refine aX ⟨x,rfl,aX (hQ _ ?_ (Heap.SameBut.update ..))⟩;exact⟨_,g7 _ ho (Obj.isFreed_of_fields (Obj.data_mapFields hd _)),(Obj.cls_mapFields ..).trans hc,by
  rw[Obj.data_mapFields hd];simp⟩
theorem jD{it l:Addr}{Q:Value->Shared->Prop}(hh:A.handled=none)(hit:s.heap.IsRevIter it l (-1))
  (hE:∀h' e,Heap.ExtBut it s.heap h'->(∃o,h'.get? e=some o/\o.cls=.type "StopIteration")->E (.ref e) {s with heap:=h'}):wpAny (model prog w) A (Builtin.SmallTypes.nextOf (.ref it)) Q E s:=by
 obtain⟨o,ho,hc,hd⟩:=id hit;unfold Builtin.SmallTypes.nextOf;refine ak (eV (name:=Str.ofString "__next__") hit.typeIs F.slot_lri_next
  (fX F.slot_lri_next hit.typeIs F.entry_lri_next ?_ (F.args_lri_next_1 _)))
 unfold Builtin.«list_reverseiterator.__next__»;refine ak (DS (a:=(Value.ref it,[])) rfl ?_)
 try dsimp only
 refine ak (qI ho hd (x:=rawInt (-1)) rfl ?_);show wpAny _ _ (if(-1:Int)<0 then _ else _) _ _ s;rw[bc Qd];refine ak (fk ?_);refine ak ?_;show wpAny _ _ (newExc (.type "StopIteration") []>>=_) _ _ _;refine ak ?_;simp only[newExc,newTuple];refine ak (oQ ?_ (by size_fits));refine ak (m:=firstArgMember _ _) (DS (a:=Value.none) (by simp only[firstArgMember];rfl) ?_);refine oQ ?_ (by size_fits);simp only[raiseNew];refine ak (wpAny_handled ?_)
 first|rw[show A.in1.handled=none from hh]|rw[hh]
 refine ak (aX (wpAny_throw ?_));exact hE _ _ (((Heap.ExtBut.refl _ _).push _).push _) ⟨_,br _ rfl,rfl⟩
end
theorem zB{h h':Heap}{a:Addr}{items:Array Value}(x:h.IsList a items)(k:∀o,h.get? a=some o->h'.get? a=some o):h'.IsList a items:=let⟨o,e,r⟩:=x;⟨o,k o e,r⟩
theorem lN{prog:Program}{w:World}{A:Around}{E:Value->Shared->Prop}{s:Shared}{e it l:Addr}{i:Nat}{old:Value}{Q:Option Value->Shared->Prop}(hh:A.handled=none)
  (he:IsEnum s.heap e it i old)(hit:s.heap.IsRevIter it l (-1))
  (hQ:∀h',Heap.ExtBut it s.heap h'->Q none {s with heap:=h'}):wpAny (model prog w) A (pyNext (.ref e)) Q E s:=by
 have hT:s.TypeIs (.ref e) "enumerate":=⟨_,he,rfl⟩;unfold pyNext;refine ak (wpAny_attempt (eV (name:=Str.ofString "__next__") hT F.slot_enumerate_next
  (fX F.slot_enumerate_next hT F.entry_enumerate_next ?_ (F.args_enumerate_next_1 _))))
 show wpAny _ _ (field (.ref e) 2>>=_) _ _ _;refine ak (qI he rfl (x:=.ref it) rfl ?_);refine ak (jD hh hit λh' x he' hx'=>?_);obtain⟨o,ho,hc⟩:=hx';refine ak (wpAny_isInstance (T:="StopIteration") (b:=true) ⟨o,ho,hc⟩ isSubtype_stop ?_);exact aX (hQ _ he')
theorem yQ{prog:Program}{w:World}{A:Around}(hh:A.handled=none)(it l:Addr)(hne:l≠it)(items:Array Value):
  Draws prog w A it [it,l] items.size (λi v=>items[items.size-1-i]?=some v) (λi h=>i<=items.size/\h.IsRevIter it l ((items.size:Int)-1-(i:Int))/\h.IsList l items) where
 live:=λ_ _ st=>let⟨o,ho,_⟩:=st.2.1;⟨o,ho⟩
 frame:=λ_ _ _ st hk=>⟨st.1,st.2.1.at λo e=>hk it Qs o e,zB st.2.2 λo e=>hk l Qs o e⟩
 item:=λi s Q E hi st hQ=>by
  obtain⟨_,hit,hl⟩:=st;have e0:((items.size:Int)-1-(i:Int))=((items.size-1-i:Nat):Int):=Qo;rw[e0]at hit;have hx:items[items.size-1-i]?=some (items[items.size-1-i]'(Qo)):=Qs;refine mF hit hl hx λh' hit' hs'=>?_;have e1:((items.size-1-i:Nat):Int)-1=(items.size:Int)-1-((i+1:Nat):Int):=Qo;rw[e1]at hit';exact hQ _ h' s.toks hx ⟨hi,hit',hl.extBut hs'.extBut hne⟩ hs'
 done:=λs Q E st hE=>by
  obtain⟨_,hit,hl⟩:=st;have e0:((items.size:Int)-1-(items.size:Int))=-1:=Qo;rw[e0]at hit;exact jD hh hit hE
theorem jG(r l:Addr)(i:Int)(dct:Option Addr)(sl:Array (Option Value)):
  Meets (Builtin.«enumerate.__new__» ⟨[.type "enumerate",.ref r],[]⟩) (λ_ R s=>s.heap.get? r=some {cls:=.type "list_reverseiterator",dict:=dct,data:=.fields #[.ref l,rawInt i],slots:=sl}/\
   R (.ok (.ret (.ref s.heap.objs.size)))
    {s with heap:=s.heap.push {cls:=.type "enumerate",data:=.fields #[.none,.bool false,.ref r,rawInt 0,.none,.none]}}):=
 .of_wp λprog w A R s h=>by
  obtain⟨hp,g,d,tk,os⟩:=s;obtain⟨hl,h⟩:=h;have hsub:=sub_enumerate;have hL:Heap.IsRevIter (Shared.heap ⟨hp,g,d,tk,os⟩) r l i:=⟨_,hl,rfl,rfl⟩
  wp_walk using wpAny_loadPart' hl
  refine wpAny_stack_any λst=>aX ?_;split
  ·rename_i c _ _ _ _ _;cases(c==Value.type "enumerate")
   ·wp_walk using wpAny_loadPart' hl,lW hL
    exact⟨_,rfl,h⟩
   ·wp_walk using wpAny_loadPart' hl,lW hL
    exact⟨_,rfl,h⟩
  ·wp_walk using wpAny_loadPart' hl,lW hL
   exact⟨_,rfl,h⟩
section
variable{prog:Program}{w:World}{A:Around}{E:Value->Shared->Prop}{s:Shared}
theorem kA{r l:Addr}{i:Int}{Q:Value->Shared->Prop}(hL:s.heap.IsRevIter r l i)
  (h:∀h',IsEnum h' s.heap.objs.size r 0 .none->h'.IsRevIter r l i->(∀b o,s.heap.get? b=some o->h'.get? b=some o)->Q (.ref s.heap.objs.size) {s with heap:=h'}):
  wpAny (model prog w) A (call (.type "enumerate") [.ref r]) Q E s:=by
 obtain⟨⟨c,dct,dt,sl⟩,hl,hc,hd⟩:=id hL;replace hc:c=.type "list_reverseiterator":=hc;replace hd:dt=.fields #[.ref l,rawInt i]:=hd;subst hc hd;refine callType_new F.called_enumerate Qd (F.typeCall_enumerate_1 _) (F.newCall_enumerate_1 _) (λobj=>F.args_object_init_2 obj _) F.entry_enumerate_new
  (jG r l i dct sl) ⟨hl,?_⟩
 have he:IsEnum (s.heap.push {cls:=.type "enumerate",data:=.fields #[.none,.bool false,.ref r,rawInt 0,.none,.none]}) s.heap.objs.size r 0 .none:=br _ rfl;show _/\_;exact⟨⟨_,he,rfl⟩,h _ he (hL.at λo e=>av _ e) λb o x=>av _ x⟩
end
def Cf(K:ag)(a:Addr)(n:Nat):It:=
 ⟨λi H=>i<n/\∃xs,SqL K H a xs/\xs.length=n,λi H v H'=>∃t,H t=none/\v=.ref t/\∀xs,SqL K H a xs->xs.length=n->∃x,xs[n-1-i]?=some x/\H'=upd H t (.tup [.int i,x]),λi H=>n<=i/\∃xs,SqL K H a xs/\xs.length=n⟩
theorem sL{P:Program}{w:World}{K:ag}{elts:List Expr}{k:Nat}{pos:Pos}(a e it:Addr)(n:Nat)(ne:e≠it)(na:a≠it)(nb:a≠e):sk P w K (.Tuple elts k pos) (Cf K a n) [e,it] e (λi h=>i<=n/\(∃old,IsEnum h e it i old)/\h.IsRevIter it a ((n:Int)-1-(i:Int))) where
 mem:=Qs
 obj:=λi h st b hb=>by
  obtain⟨_,⟨old,he⟩,o,hi,hc,hd⟩:=st;simp at hb;rcases hb with rfl|rfl
  ·exact⟨_,he,λv z=>by cases z⟩
  ·exact⟨o,hi,λv z=>by rw[hd]at z;cases z⟩
 keep:=λi h h' st kp=>by
  obtain⟨hn,⟨old,he⟩,hi⟩:=st;exact⟨hn,⟨old,kp e Qs _ he⟩,hi.at λo x=>kp it Qs o x⟩
 item:=by
  intro X hP hw hK hc i pins s σ H E I hf st hg;subst hP hw hK;obtain⟨hin,⟨old,he⟩,hit⟩:=st;obtain⟨hi,xs,hq,hn⟩:=hg;obtain⟨its,rv,p,hz⟩:=I.list hq;have hlen:=rv.length;have hlt0:n-1-i<xs.length:=Qo;have hx:xs[n-1-i]?=some xs[n-1-i]:=a_ hlt0;obtain⟨u,hu,ru⟩:=rv.get hx;have le:e<s.heap.objs.size:=bh he;have li:it<s.heap.objs.size:=by obtain⟨_,y,_⟩:=hit;exact bh y
  have hsz0:its.toArray.size=n:=by simp;omega
  have hlt:i<its.toArray.size:=Qo;have hit0:s.heap.IsRevIter it a ((its.toArray.size:Int)-1-(i:Int)):=by rw[hsz0];exact hit
  refine wpAny_pyNext_enum_itemD (yQ (A:=X.A.in1) (I.ok.hd hc) it a na its.toArray) he ⟨Qo,hit0,p.isList⟩ hlt ne (by simp[ne,nb.symm]) λu' h' tk hu' ho hit' hT hsz hk=>⟨_,rfl,?_⟩;have hu'':u'=u:=by
   rw[hsz0]at hu';have h1:its[n-1-i]?=some u':=by simpa using hu'
   rw[hu]at h1;exact(Option.some.inj h1).symm
  subst hu'';refine uQ ho λh2 he2 hs2=>?_;have I1:Inv X pins σ (upd H s.heap.objs.size (.tup [.int i,xs[n-1-i]])) {s with heap:=s.heap.push {cls:=.type "tuple",data:=.seq #[.int i tk,u']},toks:=tk+1}:=
   I.laid (λb o q=>av _ q) (aY _) ⟨by show 2<=sizeLine;decide,[.int i tk,u'],.cons ⟨_,rfl⟩ (.cons ru .nil),⟨_,br _ rfl,rfl,_,rfl⟩⟩
  have nn:∀b∈ [e,it],b≠s.heap.objs.size:=λb hb=>by
   simp at hb;rcases hb with rfl|rfl
   ·exact bp le
   ·exact bp li
  have I2:Inv X pins σ (upd H s.heap.objs.size (.tup [.int i,xs[n-1-i]])) {s with heap:=h2,toks:=tk+1}:=by
   refine Inv.turnedL (s:={s with heap:=s.heap.push {cls:=.type "tuple",data:=.seq #[.int i tk,u']},toks:=tk+1}) I1 (h':=h2) (t':=tk+1) (fp:=[e,it]) (λb o hb q=>?_) λb hb=>?_
   ·have b1:b≠e:=λz=>hb (by simp[z]);have b2:b≠it:=λz=>hb (by simp[z]);refine(hs2.2 b b1).trans ?_;rcases DX q with⟨z1,z2⟩|z
    ·rw[z1,z2];exact hT
    ·exact hk b o b1 b2 z
   ·obtain⟨f0,f1,f2,f3,f4,f5⟩:=hf b hb;exact⟨by rw[aV (nn b hb)];exact f0,f1,f2,f3,f4,f5⟩
  have hit2:=hit'.2.1;rw[hsz0]at hit2;refine⟨.ref s.heap.objs.size,_,I2,rfl,⟨_,I.fresh,rfl,λys hy _=>⟨xs[n-1-i],by rw[I.list_inj hy hq];exact hx,rfl⟩⟩,⟨hi,⟨_,he2⟩,hit2.at λo y=>(hs2.2 it ne.symm).trans y⟩,λb hb=>?_⟩;rw[aV (nn b hb)];exact(hf b hb).1
 done:=by
  intro X hP hw hK hc i pins s σ H E I hf st hg;subst hP hw hK;obtain⟨hin,⟨old,he⟩,hit⟩:=st;have hg':n<=i:=hg.1;have e0:((n:Int)-1-(i:Int))=-1:=Qo;rw[e0]at hit;exact lN (I.ok.hd hc) he hit λh' eb=>⟨rfl,I.turnedL (t':=s.toks) (fp:=[e,it]) (λb o hb y=>eb b o (λz=>hb (by simp[z])) y) hf⟩
 self:=λ_ _ _ _ _ st h=>jr st.2.1.choose_spec h
def E5(K:ag)(ta:TA):TI:=λσ H R=>ta σ H λvs H1=>∃a xs,vs=[.ref a]/\SqL K H1 a xs/\R (Cf K a xs.length) H1
theorem AO{X:Cx}{elts:List Expr}{k:Nat}{tpos:Pos}{l:Expr}{ta:TA}{p p2 pos pos2:Pos}(hg:Gl X "enumerate")(hm:X.mg "enumerate"=none)(hg2:Gl X "reversed")(hm2:X.mg "reversed"=none)(ha:PA X [l] ta)(hs:starEach [l] X.env=[(false,eval l X.env)]:=by rfl)
  (hs2:starEach [.Call (.Name "reversed" p2) [l] [] pos2] X.env=[(false,eval (.Call (.Name "reversed" p2) [l] [] pos2) X.env)]:=by rfl):PI X (.Tuple elts k tpos) (.Call (.Name "enumerate" p) [.Call (.Name "reversed" p2) [l] [] pos2] [] pos) (E5 X.K ta):=by
 intro pins s σ H R I h;refine Call_ (ky (u:=.type "enumerate") I hg hm (by kernel_rfl) (dR ?_ hs2 rfl));rw[hs2];show wpAny _ _ (spliced [(false,eval (.Call (.Name "reversed" p2) [l] [] pos2) X.env)]) _ _ s;refine Calls.spliced_cons (Call_ (ky (u:=.type "reversed") I hg2 hm2 uL (dR (dr (ha pos2 pins s σ H _ I h) λus s1⟨vs,H1,I1,r1,q1⟩=>?_) hs rfl)));obtain⟨a,xs,rfl,hq,q⟩:=q1;obtain⟨u,rfl,ru⟩:=gL r1;cases ru;obtain⟨its,rv,pl,hz⟩:=I1.list hq;have hlen:=rv.length;have la:a<s1.heap.objs.size:=let⟨o,n,e,_⟩:=pl;bh e;refine call_reversed_list pl.isList (Calls.spliced_nil ?_);have I2:Inv X pins σ H1 {s1 with heap:=s1.heap.push (revObj a ((its.toArray.size:Int)-1))}:=I1.kept (t':=s1.toks) λb o e=>av _ e;have hR:(s1.heap.push (revObj a ((its.toArray.size:Int)-1))).IsRevIter s1.heap.objs.size a ((its.toArray.size:Int)-1):=⟨_,br _ rfl,rfl,rfl⟩;have hz2:(s1.heap.push (revObj a ((its.toArray.size:Int)-1))).objs.size=s1.heap.objs.size+1:=eZ ..;refine kA (s:={s1 with heap:=s1.heap.push (revObj a ((its.toArray.size:Int)-1))}) hR λh' hE hI hk=>jr hE ?_;have hE':IsEnum h' (s1.heap.objs.size+1) s1.heap.objs.size 0 .none:=by rw[<-hz2];exact hE
 show GN X pins σ _ R (.ref (s1.heap.push (revObj a ((its.toArray.size:Int)-1))).objs.size) _;rw[hz2];refine⟨s1.heap.objs.size+1,[s1.heap.objs.size+1,s1.heap.objs.size],_,_,H1,rfl,I2.kept (t':=s1.toks) hk,sL a _ _ xs.length (qF _) (bp la) (bp (eM la)),⟨bO _,⟨_,hE'⟩,?_⟩,λb hb=>?_,q⟩
 ·have e:((xs.length:Int)-1-((0:Nat):Int))=((its.toArray.size:Int)-1):=by simp;omega
  rw[e];exact hI
 have hb':s1.heap.objs.size<=b:=by
  simp at hb;rcases hb with rfl|rfl<;>omega
 exact I1.fpOk hb' (I1.hok.fresh hb')
theorem yO{K:ag}{a:Addr}{xs:List V}{g:TG}{tb:TS}{D:oB}{σ:St}{H:Hp}(Pv:Nat->St->Hp->Prop)(h0:Pv 0 σ H)(hl:∀i σ H,i<=xs.length->Pv i σ H->SqL K H a xs)
  (hs:∀i x σ H t,xs.reverse[i]?=some x->Pv i σ H->H t=none->g (.ref t) σ (upd H t (.tup [.int i,x])) λσ2 H2=>tb {D with nx:=Pv (i+1),ct:=Pv (i+1),bk:=D.nx} σ2 H2)(hd:∀σ H,Pv xs.length σ H->D.nx σ H):
  ∃W:Nat->Nat->St->Hp->Prop,(∃m,W 0 m σ H)/\∀i m σ H,W i m σ H->
   ((Cf K a xs.length).stop i H/\D.nx σ H)\/((Cf K a xs.length).go i H/\∃N:St->Hp->Prop,(∀σ' H',N σ' H'->∃m',m'<m/\W (i+1) m' σ' H')/\∀x H',(Cf K a xs.length).yld i H x H'->g x σ H' λσ2 H2=>tb {D with nx:=N,ct:=N,bk:=D.nx} σ2 H2):=by
 refine⟨λi m σ H=>m=xs.length-i/\i<=xs.length/\Pv i σ H,⟨xs.length,Qs,bO _,h0⟩,?_⟩;rintro i m σ H⟨rfl,hi,p⟩;have q:=hl i σ H hi p;by_cases hlt:i<xs.length
 ·refine .inr ⟨⟨hlt,xs,q,rfl⟩,Pv (i+1),λσ' H' p'=>⟨xs.length-(i+1),Qo,rfl,hlt,p'⟩,λx H' y=>?_⟩;obtain⟨t,ht,rfl,y⟩:=y;obtain⟨x,hx,rfl⟩:=y xs q rfl;refine hs i x σ H t ?_ p ht;rw[List.getElem?_reverse hlt];exact hx
 ·have e:i=xs.length:=Qo;subst e;exact .inl ⟨⟨aY _,xs,q,rfl⟩,hd σ H p⟩
end L2
namespace Net
open PySem L2
def gw(i:Nat):Stmt:=PySem.Challenge.pw_netcourt_k63_values_of_turned_nets.main.body.getD i (.Pass ⟨0,0,0,0⟩)
abbrev s_is_made_of:Stmt:=gw 11
abbrev s_is_name:Stmt:=gw 12
abbrev s_is_whole:Stmt:=gw 13
abbrev s_is_row:Stmt:=gw 15
abbrev s_is_pair:Stmt:=gw 16
abbrev s_is_place:Stmt:=gw 18
abbrev s_are_unlike_places:Stmt:=gw 19
abbrev s_are_unlike:Stmt:=gw 20
abbrev s_steps_of:Stmt:=gw 26
abbrev s_steps_to_places:Stmt:=gw 27
abbrev s_steps_by_begin:Stmt:=gw 28
abbrev s_is_within:Stmt:=gw 29
abbrev s_no_step_leaves:Stmt:=gw 30
abbrev s_members_of:Stmt:=gw 32
abbrev s_within_paper:Stmt:=gw 33
abbrev s_shown_bound:Stmt:=gw 36
abbrev s_shown_across:Stmt:=gw 37
abbrev s_flow_above:Stmt:=gw 40
abbrev s_apart_above:Stmt:=gw 41
abbrev s_ties_leaving:Stmt:=gw 42
abbrev s_bare_above:Stmt:=gw 50
abbrev s_pairs_above:Stmt:=gw 53
abbrev s_greatest_flow:Stmt:=gw 60
abbrev s_free_ways:Stmt:=gw 61
abbrev s_add_along:Stmt:=gw 62
abbrev s_arcs_of_ties:Stmt:=gw 65
abbrev s_arcs_of_one:Stmt:=gw 66
abbrev s_arcs_through_places:Stmt:=gw 67
abbrev s_arcs_of_pairs:Stmt:=gw 68
abbrev s_value_of:Stmt:=gw 70
abbrev s_find_bound:Stmt:=gw 71
abbrev s_paper_of_one:Stmt:=gw 73
abbrev s_paper_of_flow:Stmt:=gw 75
abbrev s_paper_of_apart:Stmt:=gw 76
abbrev s_paper_of_bare:Stmt:=gw 77
abbrev s_paper_of_pairs:Stmt:=gw 79
abbrev s_refuse_no_name:Stmt:=gw 84
abbrev s_refuse_no_width:Stmt:=gw 85
abbrev s_refuse_more:Stmt:=gw 86
abbrev s_Net_init:Stmt:=j6 (gw 87) 0
abbrev s_Net_place:Stmt:=j6 (gw 87) 1
abbrev s_Net_tie:Stmt:=j6 (gw 87) 2
abbrev s_Net_places:Stmt:=j6 (gw 87) 6
abbrev s_Net_ties:Stmt:=j6 (gw 87) 7
abbrev s_Net_twin:Stmt:=j6 (gw 87) 8
abbrev s_l_cell_at:Stmt:=gw 89
abbrev s_l_name:Stmt:=gw 90
abbrev s_l_parts:Stmt:=gw 91
abbrev s_l_net:Stmt:=gw 92
abbrev s_l_three:Stmt:=gw 93
abbrev s_l_renamed:Stmt:=gw 94
abbrev s_l_between:Stmt:=gw 95
abbrev s_l_one:Stmt:=gw 96
abbrev s_law:Stmt:=gw 97
end Net
namespace Net
open PySem L2
section
variable{D:oB}{σ:St}{H:Hp}
theorem HV{t1 t2:TS}(h:∀u2,t2=u2->(cA t1 u2) D σ H):(cA t1 t2) D σ H:=h _ rfl
theorem HU{t1 t2 t3:TS}(h:∀u2 u3,t2=u2->t3=u3->(cA t1 (cA u2 u3)) D σ H):(cA t1 (cA t2 t3)) D σ H:=h _ _ rfl rfl
theorem HS{t1 t2 t3 t4:TS}(h:∀u2 u3 u4,t2=u2->t3=u3->t4=u4->(cA t1 (cA u2 (cA u3 u4))) D σ H):(cA t1 (cA t2 (cA t3 t4))) D σ H:=h _ _ _ rfl rfl rfl
theorem HR{t1 t2 t3 t4 t5:TS}(h:∀u2 u3 u4 u5,t2=u2->t3=u3->t4=u4->t5=u5->(cA t1 (cA u2 (cA u3 (cA u4 u5)))) D σ H):(cA t1 (cA t2 (cA t3 (cA t4 t5)))) D σ H:=h _ _ _ _ rfl rfl rfl rfl
theorem HQ{t1 t2 t3 t4 t5 t6:TS}(h:∀u2 u3 u4 u5 u6,t2=u2->t3=u3->t4=u4->t5=u5->t6=u6->(cA t1 (cA u2 (cA u3 (cA u4 (cA u5 u6))))) D σ H):(cA t1 (cA t2 (cA t3 (cA t4 (cA t5 t6))))) D σ H:=h _ _ _ _ _ rfl rfl rfl rfl rfl
theorem HP{t1 t2 t3 t4 t5 t6 t7:TS}(h:∀u2 u3 u4 u5 u6 u7,t2=u2->t3=u3->t4=u4->t5=u5->t6=u6->t7=u7->(cA t1 (cA u2 (cA u3 (cA u4 (cA u5 (cA u6 u7)))))) D σ H):(cA t1 (cA t2 (cA t3 (cA t4 (cA t5 (cA t6 t7)))))) D σ H:=h _ _ _ _ _ _ rfl rfl rfl rfl rfl rfl
theorem HN{t1 t2 t3 t4 t5 t6 t7 t8:TS}(h:∀u2 u3 u4 u5 u6 u7 u8,t2=u2->t3=u3->t4=u4->t5=u5->t6=u6->t7=u7->t8=u8->(cA t1 (cA u2 (cA u3 (cA u4 (cA u5 (cA u6 (cA u7 u8))))))) D σ H):(cA t1 (cA t2 (cA t3 (cA t4 (cA t5 (cA t6 (cA t7 t8))))))) D σ H:=h _ _ _ _ _ _ _ rfl rfl rfl rfl rfl rfl rfl
theorem HM{t1 t2 t3 t4 t5 t6 t7 t8 t9:TS}(h:∀u2 u3 u4 u5 u6 u7 u8 u9,t2=u2->t3=u3->t4=u4->t5=u5->t6=u6->t7=u7->t8=u8->t9=u9->(cA t1 (cA u2 (cA u3 (cA u4 (cA u5 (cA u6 (cA u7 (cA u8 u9)))))))) D σ H):(cA t1 (cA t2 (cA t3 (cA t4 (cA t5 (cA t6 (cA t7 (cA t8 t9)))))))) D σ H:=h _ _ _ _ _ _ _ _ rfl rfl rfl rfl rfl rfl rfl rfl
end
def zA:Str:="abcdefghijklmnopqrstuvwxyz"
def nr(c:Nat):Bool:=decide (97<=c)&&decide (c<=122)
def cE(x:Str):Bool:=decide (1<=x.length)&&decide (x.length<=12)&&x.cps.toList.all nr
structure dw where
 nm:Str
 a:Str
 b:Str
 w:Int
 c:Int
def dw.tup(r:dw):List V:=[.str r.nm,.str r.a,.str r.b,.int r.w,.int r.c]
structure NS where
 pl:List Str
 ti:List dw
def NS.nil:NS:=⟨[],[]⟩
def NS.nms(S:NS):List Str:=S.ti.map (·.nm)
def kb(ds dl:Addr):List (Str×V):=hZ "laid" (.ref dl) (hZ "standing" (.ref ds) [])
theorem Am:¬(("standing":Str)="laid"):=Qk
theorem ip(ds dl:Addr):(kb ds dl).lookup ("standing":Str)=some (.ref ds):=by
 unfold kb;rw[fh,aM Am,fh,bc rfl]
theorem lc(ds dl:Addr):(kb ds dl).lookup ("laid":Str)=some (.ref dl):=by
 unfold kb;rw[fh,bc rfl]
theorem df(ds dl:Addr){m:Str}(h1:¬m="laid")(h2:¬m="standing"):(kb ds dl).lookup m=none:=by
 unfold kb;rw[fh,aM h1,fh,aM h2]
 all_goals rfl
def gW(S:NS):List (dU×V):=S.pl.map λx=>(Sum.inr x,V.bl true)
def kz(L:List (dw×Addr)):List (dU×V):=L.map λq=>(Sum.inr q.1.nm,V.ref q.2)
def Rows(H:Hp)(L:List (dw×Addr))(rs:List dw):Prop:=L.map (·.1)=rs/\∀q∈L,H q.2=some (.tup q.1.tup)
structure fF(C:Addr)(H:Hp)(p ds dl:Addr)(S:NS):Prop where
 ob:∃dx,H p=some (.ins C dx (kb ds dl))
 st:H ds=some (.dK (gW S))
 ld:∃L,Rows H L S.ti/\H dl=some (.dK (kz L))
 ne:ds≠dl
def GJ(H H':Hp)(ds dl:Addr):Prop:=∀b o,H b=some o->b≠ds->b≠dl->H' b=some o
def Af:Sp:=λvs H Q _=>∃(x y:Str),vs=[.str x,.str y]/\x.length<=sizeLine/\∀H',aU H H'->Q (.bl (x.cps.toList.all λc=>decide (c∈y.cps.toList))) H'
def Ae:Sp:=λvs H Q _=>∃(x:Str),vs=[.str x]/\x.length<=sizeLine/\∀H',aU H H'->Q (.bl (cE x)) H'
def uY:Sp:=λvs H Q _=>∃(i:Int),vs=[.int i]/\Q (.bl true) H
def lI:Sp:=λvs H Q _=>∃(x:Str),vs=[.str x]/\cE x=true/\∀H',aU H H'->Q .non H'
def nj:Sp:=λvs H Q _=>∃(i:Int),vs=[.int i]/\1<=i/\Q .non H
def lJ:Sp:=λvs H Q _=>∃(i j:Int),vs=[.int i,.int j]/\i<=j/\Q .non H
def sR(C:Addr):Sp:=λvs H Q _=>∃(p dx:Addr),vs=[.ref p]/\H p=some (.ins C dx [])/\∀(ds dl:Addr)(H':Hp),H ds=none->H dl=none->fF C H' p ds dl .nil->(∀b o,H b=some o->b≠p->H' b=some o)->Q .non H'
def u_(C:Addr):Sp:=λvs H Q _=>∃(p ds dl:Addr)(S:NS)(x:Str),vs=[.ref p,.str x]/\fF C H p ds dl S/\cE x=true/\x∉S.pl/\S.pl.length<20/\
 ∀H',fF C H' p ds dl ⟨S.pl++[x],S.ti⟩->GJ H H' ds dl->Q .non H'
def fe(pl:List Str)(a b:Str):List Str:=pl++[a,b].filter λx=>!decide (x∈pl)
def Ad(C:Addr):Sp:=λvs H Q _=>∃(p ds dl:Addr)(S:NS)(r:dw),vs=[.ref p,.str r.nm,.str r.a,.str r.b,.int r.w,.int r.c]/\fF C H p ds dl S/\cE r.nm=true/\cE r.a=true/\cE r.b=true/\r.nm∉S.nms/\¬r.a=r.b/\1<=r.w/\
 S.ti.length<40/\(fe S.pl r.a r.b).length<=20/\∀H',fF C H' p ds dl ⟨fe S.pl r.a r.b,S.ti++[r]⟩->GJ H H' ds dl->Q .non H'
def g_(C:Addr):Sp:=λvs H Q _=>∃(p ds dl:Addr)(S:NS),vs=[.ref p]/\fF C H p ds dl S/\∀l,H l=none->Q (.ref l) (upd H l (.lst (S.pl.map V.str)))
def iu(C:Addr):Sp:=λvs H Q _=>∃(p ds dl:Addr)(S:NS),vs=[.ref p]/\fF C H p ds dl S/\∀(l:Addr)(H':Hp)(L:List (dw×Addr)),H l=none->aU H H'->Rows H L S.ti->H' l=some (.lst (L.map λq=>V.ref q.2))->Q (.ref l) H'
structure fo(K:ag)(mg:Str->Option Value)(C:Addr):Prop where
 cl:zC K C
 nS:jQ K C "standing"
 nL:jQ K C "laid"
 mgC:mg "Net"=some (.ref C)
 all:mg "all"=none
 isi:mg "isinstance"=none
 str:mg "str"=none
 int:mg "int"=none
 bool:mg "bool"=none
 list:mg "list"=none
 tuple:mg "tuple"=none
 len:mg "len"=none
 range:mg "range"=none
 abs:mg "abs"=none
 small:jS mg "SMALL_LETTERS" (.str zA)
 longest:jS mg "LONGEST_NAME" (.int 12)
 mostP:jS mg "MOST_PLACES" (.int 20)
 mostT:jS mg "MOST_TIES" (.int 40)
 kIB:cg K (.type "int") (.type "bool")=some false
section
variable{P:Program}{w:World}{K:ag}{mg:Str->Option Value}{base:Heap}{C:Addr}
theorem CP:bG ["text","signs"] ["text","signs"] (aA s_is_made_of):=⟨rfl,rfl,rfl,Qk,rfl,Qk,Qk⟩
theorem De{f:Addr}{fd:FuncData}(F:fI K "is_made_of" "is_made_of" s_is_made_of f fd)(T:fo K mg C):FnOk P w K mg base fA 1 f fd ["text","signs"] Af:=by
 refine F.ok CP (λvs H Q E h=>?_) (λcdv A outer s H vs Q E hr h=>?_)
 ·obtain⟨x,y,rfl,_⟩:=h;rfl
 ·obtain⟨x,y,rfl,hx,k⟩:=h;refine⟨_,aS (bC (pe_callB (gE rfl) Qr T.all mB (pa_cons (cW (N:=["sign","signs"]) (xs:=1) (js:=[1]) rfl (bt rfl) (EI (pv 0))
   (λ_ _ _ _=>be (i:=0) (show List.Nodup (["sign","signs"]:List Str)by decide+kernel) rfl (aN rfl)) (λ_ _ _ _=>cV) (λ_ _ _ _=>dJ xN (pv 0) (pv 1) Qw)) pa_nil))),?_⟩
  refine⟨_,rfl,x,rfl,BY (λi acc σ' H'=>H'=H/\acc=(x.cps.toList.take i).map (λc=>V.bl (decide (c∈y.cps.toList)))/\∃o,σ'=[o,some (.str y)])
   ⟨rfl,rfl,none,rfl⟩ (λi acc σ' H' h=>?_) hx (λi c acc σ' H' hc h=>?_) (λacc σ' H' h p hp=>?_)⟩
  ·rw[h.2.1,ae,aQ];omega
  ·obtain⟨rfl,rfl,o,rfl⟩:=h;refine⟨_,rfl,_,rfl,_,_,rfl,rfl,rfl,?_,_,rfl⟩;have hc':x.cps.toList[i]?=some c:=by simpa using hc
   rw[StrLaws.found_one,bi,hc',ah];rfl
  ·obtain⟨rfl,rfl,o,rfl⟩:=h;refine⟨p,x.cps.toList.map (λc=>decide (c∈y.cps.toList)),rfl,SqL.of ?_,?_⟩
   ·rw[ai,bm,dq Qs];rfl
   ·rw[f_];exact k _ λb ob e=>by rw[aV (aZ e hp)];exact e
theorem Dr(c:Nat):decide (c∈zA.cps.toList)=nr c:=by
 have e:zA.cps.toList=(List.range 26).map (97+ ·):=Qk;rw[e];unfold nr;rw[db];simp only[fJ,b7,aj,gI];constructor
 ·rintro⟨k,h1,h2⟩;omega
 ·intro h;exact⟨c-97,Qo,Qo⟩
theorem CO:bG ["word"] ["word"] (aA s_is_name):=⟨rfl,rfl,rfl,Qk,rfl,Qk,Qk⟩
theorem Dd{f:Addr}{fd:FuncData}(F:fI K "is_name" "is_name" s_is_name f fd)(T:fo K mg C)(c1:dc P w K mg base 1 "is_made_of" ["text","signs"] Af):FnOk P w K mg base fA 2 f fd ["word"] Ae:=by
 refine F.ok CO (λvs H Q E h=>?_) (λcdv A outer s H vs Q E hr h=>?_)
 ·obtain⟨x,rfl,_⟩:=h;rfl
 ·obtain⟨x,rfl,hx,k⟩:=h;refine⟨_,ax (b9 (dB (cY (pe_callB fj Qr T.isi ou (pa_cons (pv 0) (pa_cons (nE T.str Qr Gu) pa_nil))))) (aS (bC jh)) bF)
   (aS (bC (iV (AX vY vY aD (pe_callB ln Qr T.len b_len (pa_cons (pv 0) pa_nil)) (ia T.longest Qr))
    (iU (ba c1 hr Qr (pa_cons (pv 0) (pa_cons (ia T.small Qr) pa_nil))))))),?_⟩
  refine⟨_,rfl,_,"str",_,true,rfl,.str x,rfl,true,rfl,dz ?_⟩;refine⟨_,rfl,x,rfl,hx,_,_,rfl,rfl,_,rfl,?_⟩;refine oK (λh1=>⟨_,_,rfl,rfl,_,rfl,oK (λh2=>⟨_,rfl,x,zA,rfl,hx,λH' s'=>?_⟩) (λh2=>?_)⟩) (λh1=>⟨_,rfl,dz ?_⟩)
  ·have e:cE x=(x.cps.toList.all λc=>decide (c∈zA.cps.toList)):=by
    unfold cE;rw[af (p:=1<=x.length) (by have:=aK h1;omega),af (p:=x.length<=12) (by have:=aK h2;omega)];simp only[Dr,jT]
   rw[<-e];exact k H' s'
  ·have e:cE x=false:=by
    unfold cE;rw[am (p:=x.length<=12) (λz=>h2 (af Qo))];simp
   have:=k H (aU.refl H);rw[e]at this;exact this
  ·have e:cE x=false:=by
    unfold cE;rw[am (p:=1<=x.length) (λz=>h1 (af Qo))];simp
   have:=k H (aU.refl H);rw[e]at this;exact this
theorem Ar:bG ["thing"] ["thing"] (aA s_is_whole):=⟨rfl,rfl,rfl,Qk,rfl,Qk,Qk⟩
theorem A4{f:Addr}{fd:FuncData}(F:fI K "is_whole" "is_whole" s_is_whole f fd)(T:fo K mg C):FnOk P w K mg base fA 1 f fd ["thing"] uY:=by
 refine F.ok Ar (λvs H Q E h=>?_) (λcdv A outer s H vs Q E hr h=>?_)
 ·obtain⟨x,rfl,_⟩:=h;rfl
 ·obtain⟨x,rfl,k⟩:=h;refine⟨_,aS (bC (iV (pe_callB fj Qr T.isi ou (pa_cons (pv 0) (pa_cons (nE T.int Qr Eh) pa_nil)))
   (iU (AQ (pe_callB fj Qr T.isi ou (pa_cons (pv 0) (pa_cons (nE T.bool Qr B7) pa_nil))))))),?_⟩
  exact⟨_,rfl,_,"int",_,true,rfl,.int x,rfl,true,rfl,dv ⟨_,rfl,_,"bool",_,false,rfl,.int x,T.kIB,false,rfl,k⟩⟩
theorem sV:bG ["word"] ["word"] (aA s_refuse_no_name):=⟨rfl,rfl,rfl,Qk,rfl,Qk,Qk⟩
theorem tF{f:Addr}{fd:FuncData}(F:fI K "refuse_no_name" "refuse_no_name" s_refuse_no_name f fd)(T:fo K mg C)(c1:dc P w K mg base 2 "is_name" ["word"] Ae):FnOk P w K mg base fA 3 f fd ["word"] lI:=by
 refine F.ok sV (λvs H Q E h=>?_) (λcdv A outer s H vs Q E hr h=>?_)
 ·obtain⟨x,rfl,_⟩:=h;rfl
 ·obtain⟨x,rfl,hx,k⟩:=h;refine⟨_,aS (b9 (dB (cY (ba c1 hr Qr (pa_cons (pv 0) pa_nil)))) gY bF),?_⟩;refine⟨_,rfl,x,rfl,?_,λH' s'=>⟨_,rfl,?_⟩⟩
  ·have h1:x.length<=12:=by
    unfold cE at hx;simp at hx;exact hx.1.2
   exact ay h1 Qd
  ·rw[hx];exact dz (k H' s')
theorem qY:bG ["width"] ["width"] (aA s_refuse_no_width):=⟨rfl,rfl,rfl,Qk,rfl,Qk,Qk⟩
theorem rf{f:Addr}{fd:FuncData}(F:fI K "refuse_no_width" "refuse_no_width" s_refuse_no_width f fd)(T:fo K mg C)(c1:dc P w K mg base 1 "is_whole" ["thing"] uY):FnOk P w K mg base fA 2 f fd ["width"] nj:=by
 refine F.ok qY (λvs H Q E h=>?_) (λcdv A outer s H vs Q E hr h=>?_)
 ·obtain⟨x,rfl,_⟩:=h;rfl
 ·obtain⟨x,rfl,hx,k⟩:=h;refine⟨_,aS (b9 (PW.pt (jg (dB (cY (ba c1 hr Qr (pa_cons (pv 0) pa_nil)))) (iS (bJ A3 (pv 0) aD (nomark _))))) gY bF),?_⟩;refine⟨_,rfl,x,rfl,true,rfl,dz ⟨_,rfl,_,_,rfl,rfl,_,rfl,?_⟩⟩;rw[am Qo];exact dz k
theorem sW:bG ["many","most"] ["many","most"] (aA s_refuse_more):=⟨rfl,rfl,rfl,Qk,rfl,Qk,Qk⟩
theorem tG{f:Addr}{fd:FuncData}(F:fI K "refuse_more" "refuse_more" s_refuse_more f fd)(T:fo K mg C):FnOk P w K mg base fA 1 f fd ["many","most"] lJ:=by
 refine F.ok sW (λvs H Q E h=>?_) (λcdv A outer s H vs Q E hr h=>?_)
 ·obtain⟨x,y,rfl,_⟩:=h;rfl
 ·obtain⟨x,y,rfl,hx,k⟩:=h;refine⟨_,aS (b9 (bJ D_ (pv 0) (pv 1) (nomark _)) gY bF),?_⟩;refine⟨_,rfl,_,rfl,_,_,rfl,rfl,_,rfl,?_⟩;rw[am Qo];exact dz k
theorem CQ:bG ["self"] ["self"] (aA s_Net_init):=⟨rfl,rfl,rfl,Qk,rfl,Qk,Qk⟩
theorem Dg{f:Addr}{fd:FuncData}(F:fI K "__init__" "Net.__init__" s_Net_init f fd)(T:fo K mg C):FnOk P w K mg base fA 1 f fd ["self"] (sR C):=by
 refine F.ok CQ (λvs H Q E h=>?_) (λcdv A outer s H vs Q E hr h=>?_)
 ·obtain⟨p,dx,rfl,_⟩:=h;rfl
 ·obtain⟨p,dx,rfl,hp,k⟩:=h;refine⟨_,ax (p9 (pv 0) kW rfl) (aS (p9 (pv 0) kW rfl)),?_⟩;intro ds hds;have n1:p≠ds:=aZ hp hds;refine⟨_,rfl,p,C,dx,[],rfl,(by rw[aV n1];exact hp),T.cl,T.nS,(by show 0<1000;decide),?_⟩;intro dl hdl;have n2:p≠dl:=by
   intro e;subst e;rw[ai]at hdl;cases hdl
  have n3:ds≠dl:=by
   intro e;subst e;rw[aV n1.symm,ai]at hdl;cases hdl
  have hdl':H dl=none:=by
   rw[aV n2.symm,aV n3.symm]at hdl;exact hdl
  refine⟨_,rfl,p,C,dx,_,rfl,(by rw[aV n2,ai]),T.cl,T.nL,(by show 1<1000;decide),?_⟩;refine k ds dl _ hds hdl' ⟨⟨dx,ai⟩,?_,⟨[],⟨rfl,λq h=>nomatch h⟩,?_⟩,n3⟩ λb o e hb=>?_
  ·rw[aV n1.symm,aV n3,aV n1.symm,ai];rfl
  ·rw[aV n2.symm,ai];rfl
  ·rw[aV hb,aV (aZ e hdl'),aV hb,aV (aZ e hds)];exact e
theorem mR{S:NS}{x:Str}(h:x∉S.pl):valV (gW S) (Sum.inr x:dU)=none:=by
 cases e:valV (gW S) (Sum.inr x:dU)with
 |none=>rfl
 |some v=>
  have:=mO e;unfold gW at this;rw[bm]at this;obtain⟨y,hy,e2⟩:=aj.mp this;exact absurd (Sum.inr.inj e2▸hy) h
theorem CH{S:NS}{x:Str}(h:x∈S.pl):(valV (gW S) (Sum.inr x:dU)).isSome=true:=by
 cases e:valV (gW S) (Sum.inr x:dU)with
 |some v=>rfl
 |none=>
  refine absurd ?_ (zU e);unfold gW;rw[bm];exact aj.mpr ⟨x,h,rfl⟩
theorem FP(S:NS)(x:Str):(valV (gW S) (Sum.inr x:dU)).isSome=decide (x∈S.pl):=by
 by_cases h:x∈S.pl
 ·rw[CH h,af h]
 ·rw[mR h,am h];rfl
theorem Du{L:List (dw×Addr)}{rs:List dw}(h:L.map (·.1)=rs):(kz L).map (·.1)=rs.map λr=>(Sum.inr r.nm:dU):=by
 rw[<-h];unfold kz;rw[bm,bm];rfl
theorem wG{L:List (dw×Addr)}{S:NS}{x:Str}(hL:L.map (·.1)=S.ti)(h:x∉S.nms):valV (kz L) (Sum.inr x:dU)=none:=by
 cases e:valV (kz L) (Sum.inr x:dU)with
 |none=>rfl
 |some v=>
  have:=mO e;rw[Du hL]at this;obtain⟨y,hy,e2⟩:=aj.mp this;exact absurd (aj.mpr ⟨y,hy,Sum.inr.inj e2⟩) h
theorem Av:bG ["self","name"] ["self","name"] (aA s_Net_place):=⟨rfl,rfl,rfl,Qk,rfl,Qk,Qk⟩
theorem A7{f:Addr}{fd:FuncData}(F:fI K "place" "Net.place" s_Net_place f fd)(T:fo K mg C)(c1:dc P w K mg base 3 "refuse_no_name" ["word"] lI)(c2:dc P w K mg base 1 "refuse_more" ["many","most"] lJ):
  FnOk P w K mg base fA 4 f fd ["self","name"] (u_ C):=by
 refine F.ok Av (λvs H Q E h=>?_) (λcdv A outer s H vs Q E hr h=>?_)
 ·obtain⟨p,ds,dl,S,x,rfl,_⟩:=h;rfl
 ·obtain⟨p,ds,dl,S,x,rfl,N,hx,hn,hl,k⟩:=h;have hu:=iL hr;refine⟨_,ax (du (ba c1 hr Qr (pa_cons (pv 1) pa_nil)))
   (ax (b9 (gc (lO hu (pv 1) (gn (pv 0) rfl))) gY bF)
   (ax (du (ba c2 (hr.mono Qd) Qr (pa_cons (bP dG (pe_callB lU Qr T.len b_len (pa_cons (gn (pv 0) rfl) pa_nil)) aD) (pa_cons (ia T.mostP Qr) pa_nil))))
   (aS (j2 hu (gn (pv 0) rfl) (pv 1) jh rfl)))),?_⟩
  refine⟨_,rfl,x,rfl,hx,λH1 s1=>?_⟩;obtain⟨⟨dx,h1⟩,h2,⟨L,⟨r1,r2⟩,h3⟩,ne⟩:=N;have g1:=s1 _ _ h1;have g2:=s1 _ _ h2;refine⟨_,rfl,_,rfl,p,C,dx,_,_,rfl,g1,T.cl,T.nS,ip _ _,ds,_,rfl,eh.k (k:=Sum.inr x) g2,_,rfl,?_⟩;rw[mR hn];refine dz ?_;refine⟨_,rfl,p,C,dx,_,_,rfl,g1,T.cl,T.nS,ip _ _,ds,_,rfl,g2,_,_,rfl,rfl,_,_,rfl,?_,?_⟩
  ·unfold gW;rw[ae];omega
  refine⟨_,rfl,p,C,dx,_,_,rfl,g1,T.cl,T.nS,ip _ _,_,rfl,ds,_,rfl,lB.k (k:=Sum.inr x) g2 (cT (by unfold gW;rw[ae];omega)),?_⟩;have npd:p≠ds:=cU g1 g2 (by intro z;cases z);have e:fM (gW S) (Sum.inr x:dU) (V.bl true)=gW ⟨S.pl++[x],S.ti⟩:=by
   rw[gC _ (mR hn)];unfold gW;rw[ah];rfl
  refine k _ ⟨⟨dx,by rw[aV npd];exact g1⟩,by rw[ai,e],⟨L,⟨r1,λq hq=>?_⟩,by rw[aV ne.symm];exact s1 _ _ h3⟩,ne⟩ λb o z z1 z2=>by rw[aV z1];exact s1 _ _ z
  have z:=s1 _ _ (r2 q hq);rw[aV (cU z g2 (by intro y;cases y))];exact z
theorem xH:bG ["self"] ["self"] (aA s_Net_places):=⟨rfl,rfl,rfl,Qk,rfl,Qk,Qk⟩
theorem xQ{f:Addr}{fd:FuncData}(F:fI K "places" "Net.places" s_Net_places f fd)(T:fo K mg C):FnOk P w K mg base fA 1 f fd ["self"] (g_ C):=by
 refine F.ok xH (λvs H Q E h=>?_) (λcdv A outer s H vs Q E hr h=>?_)
 ·obtain⟨p,ds,dl,S,rfl,_⟩:=h;rfl
 ·obtain⟨p,ds,dl,S,rfl,⟨⟨dx,h1⟩,h2,_,_⟩,k⟩:=h;refine⟨_,aS (bC (fT (uH rfl) Qr T.list lV (pa_cons (gn (pv 0) rfl) pa_nil))),?_⟩;refine⟨_,rfl,p,C,dx,_,_,rfl,h1,T.cl,T.nS,ip _ _,ds,gW S,rfl,.inl h2,λl hl=>?_⟩;have e:(gW S).map (λkv=>kV kv.1)=S.pl.map V.str:=by
   unfold gW;rw[bm];rfl
  rw[e];exact k l hl
theorem CM:bG ["self"] ["self"] (aA s_Net_ties):=⟨rfl,rfl,rfl,Qk,rfl,Qk,Qk⟩
theorem Dc{f:Addr}{fd:FuncData}(F:fI K "ties" "Net.ties" s_Net_ties f fd)(T:fo K mg C):FnOk P w K mg base fA 1 f fd ["self"] (iu C):=by
 refine F.ok CM (λvs H Q E h=>?_) (λcdv A outer s H vs Q E hr h=>?_)
 ·obtain⟨p,ds,dl,S,rfl,_⟩:=h;rfl
 ·obtain⟨p,ds,dl,S,rfl,⟨⟨dx,h1⟩,h2,⟨L,R,h3⟩,_⟩,k⟩:=h;refine⟨_,aS (bC (fT (uG rfl) Qr T.list lV (pa_cons (EK eY zH PySem.F.type_dict_values xZ (gn (pv 0) rfl)) pa_nil))),?_⟩;refine⟨_,rfl,p,C,dx,_,_,rfl,h1,T.cl,T.nL,lc _ _,.inr (.inr (.inl ⟨rfl,.inl ⟨_,h3⟩⟩)),dl,kz L,rfl,rfl,.inl h3,λv hv=>?_⟩;have nv:dl≠v:=aZ h3 hv;refine⟨v,dl,kz L,rfl,ai,.inl (by rw[aV nv];exact h3),λl hl=>?_⟩;have hlv:l≠v:=by
   intro e;subst e;rw[ai]at hl;cases hl
  have hl':H l=none:=by rw[aV hlv]at hl;exact hl
  refine k l _ L hl' ((aU.new hv).upd hl) R ?_;rw[ai];unfold kz;rw[bm];rfl
end
end Net
namespace Net
open PySem L2
section
variable{P:Program}{w:World}{K:ag}{mg:Str->Option Value}{base:Heap}{C:Addr}
theorem CS:bG ["_law_script","_law_k"] ["_law_script","_law_k"] (aA s_l_cell_at):=⟨rfl,rfl,rfl,Qk,rfl,Qk,Qk⟩
theorem iI{α:Type}[DecidableEq α]:∀{l m:List α},l.Nodup->(∀x∈l,x∈m)->l.length<=m.length
 |[],_,_,_=>bO _
 |x::r,m,h,hs=>by
  obtain⟨h1,h2⟩:=bM.mp h;have hx:x∈m:=hs x au;have:=iI (l:=r) (m:=m.erase x) h2 λy hy=>by
   have hne:y≠x:=λe=>h1 (e▸hy);exact(DU hne).mpr (hs y (aq _ hy))
  rw[zJ hx]at this;have hp:0<m.length:=Cm hx;rw[bT];omega
theorem DI{j:Nat}(h:j<26):zA.cps.toList[j]?=some (97+j):=by
 have e:zA.cps.toList=(List.range 26).map (97+ ·):=Qk;rw[e,ap,mL h];rfl
end
end Net
namespace Net
open PySem L2
theorem iY{l:List Str}{x:Str}(h:l.Nodup)(hx:x∉l):(l++[x]).Nodup:=L2.gX h hx
theorem qK(pl:List Str)(a b:Str):fe pl a b=pl++((if a∈pl then []else [a])++(if b∈pl then []else [b])):=by
 unfold fe;by_cases ha:a∈pl<;>by_cases hb:b∈pl<;>simp[ha,hb]
theorem Rows.same{H H':Hp}{L:List (dw×Addr)}{rs:List dw}(s:aU H H')(h:Rows H L rs):Rows H' L rs:=⟨h.1,λq hq=>s _ _ (h.2 q hq)⟩
theorem fF.same{C:Addr}{H H':Hp}{p ds dl:Addr}{S:NS}(s:aU H H')(h:fF C H p ds dl S):fF C H' p ds dl S:=
 ⟨let⟨dx,e⟩:=h.ob;⟨dx,s _ _ e⟩,s _ _ h.st,let⟨L,r,e⟩:=h.ld;⟨L,r.same s,s _ _ e⟩,h.ne⟩
theorem de{x:Str}(h:cE x=true):PyData.strOk x=true:=by
 unfold cE at h;simp only[b7,ce]at h;unfold PyData.strOk;rw[Array.all_eq_true'];intro c hc;have:=h.2 c (by simpa using hc);unfold nr at this;simp at this;simp;omega
def q9(r:dw):PyData:=.tuple [.str r.nm,.str r.a,.str r.b,.int r.w,.int r.c]
theorem p8{K:ag}{H:Hp}{l:Addr}{ws:List Str}(h:H l=some (.lst (ws.map V.str)))(ok:∀x∈ws,cE x=true):mH K H 2 (.ref l) (.list (ws.map PyData.str)):=by
 refine .inl ⟨_,_,SqL.of h,rfl,?_⟩;clear h;induction ws with
 |nil=>exact .nil
 |cons x r ih=>exact .cons ⟨de (ok x au),rfl⟩ (ih λy hy=>ok y (aq _ hy))
theorem vQ{K:ag}{H:Hp}{l:Addr}{L:List (dw×Addr)}{rs:List dw}(R:Rows H L rs)(h:H l=some (.lst (L.map λq=>V.ref q.2)))
  (ok:∀r∈rs,cE r.nm=true/\cE r.a=true/\cE r.b=true):mH K H 2 (.ref l) (.list (rs.map q9)):=by
 refine .inl ⟨_,_,SqL.of h,rfl,?_⟩;clear h;obtain⟨rfl,h2⟩:=R;induction L with
 |nil=>exact .nil
 |cons q r ih=>
  refine .cons (.inr ⟨_,_,cG.of (h2 q au),rfl,?_⟩) (ih (λy hy=>h2 y (aq _ hy)) λy hy=>ok y (aq _ hy));obtain⟨a1,a2,a3⟩:=ok q.1 au;exact .cons ⟨de a1,rfl⟩ (.cons ⟨de a2,rfl⟩ (.cons ⟨de a3,rfl⟩ (.cons rfl (.cons rfl .nil))))
theorem AJ{K:ag}{H:Hp}{l:Addr}(h:H l=some (.lst [])):mH K H 2 (.ref l) (.list []):=.inl ⟨_,_,SqL.of h,rfl,.nil⟩
theorem BC{ws:List Str}(ok:∀x∈ws,cE x=true):PyData.eqv (.list (ws.map PyData.str)) (.list (ws.map PyData.str))=true:=by
 rw[PyData.eqv];induction ws with
 |nil=>rfl
 |cons x r ih=>
  show(PyData.eqv (.str x) (.str x)&&PyData.eqvAll (r.map PyData.str) (r.map PyData.str))=true;rw[ih λy hy=>ok y (aq _ hy)];simp[PyData.eqv]
theorem BD(rs:List dw):PyData.eqv (.list (rs.map q9)) (.list (rs.map q9))=true:=by
 rw[PyData.eqv];induction rs with
 |nil=>rfl
 |cons x r ih=>
  show(PyData.eqv (q9 x) (q9 x)&&PyData.eqvAll (r.map q9) (r.map q9))=true;rw[ih];simp[q9,PyData.eqv,PyData.eqvAll]
theorem wL(ds:List PyData):PyData.eqv (.list ds) (.list [])=ds.isEmpty:=by
 cases ds<;>rfl
theorem dD(x:Str)(ns:List Str):jm (.str x) (ns.map V.str)=decide (x∈ns):=by
 unfold jm;rw[List.any_map,db];simp only[cD,Function.comp,fJ,DB];constructor
 ·rintro⟨y,h1,h2⟩;have:=eq_of_beq h2;exact this▸h1
 ·intro h;exact⟨x,h,Qs⟩
theorem cH(ns:List Str):(ns.map V.str).all lf=true:=by
 rw[f_];exact ce.mpr λ_ _=>rfl
end Net
namespace Net
open PySem L2
section
variable{P:Program}{w:World}{K:ag}{mg:Str->Option Value}{base:Heap}{C:Addr}
abbrev HA:List Str:=["self","name","a","b","width","cost","word","new_places","end"]
theorem p6:bG HA ["self","name","a","b","width","cost"] (aA s_Net_tie):=⟨rfl,rfl,rfl,Qk,rfl,Qk,Qk⟩
theorem EO{f:Addr}{fd:FuncData}(F:fI K "tie" "Net.tie" s_Net_tie f fd)(T:fo K mg C)(c1:dc P w K mg base 3 "refuse_no_name" ["word"] lI)(c2:dc P w K mg base 2 "refuse_no_width" ["width"] nj)(c3:dc P w K mg base 1 "refuse_more" ["many","most"] lJ):
  FnOk P w K mg base fA 4 f fd ["self","name","a","b","width","cost"] (Ad C):=by
 refine F.ok p6 (λvs H Q E h=>?_) (λcdv A outer s H vs Q E hr h=>?_)
 ·obtain⟨p,ds,dl,S,r,rfl,_⟩:=h;rfl
 ·obtain⟨p,ds,dl,S,r,rfl,N,n1,n2,n3,hn,hab,hw,hl40,hl20,k⟩:=h;have hu:=iL hr;refine⟨_,ax (fg PassesOwn.never rfl (AN (bX (pa_cons (pv 1) (pa_cons (pv 2) (pa_cons (pv 3) pa_nil))))) (be (i:=6) p6.nd rfl (aN rfl)) (aS (du (ba c1 hr Qr (pa_cons (pv 6) pa_nil)))))
   (ax (b9 (gc (lO hu (pv 1) (gn (pv 0) rfl))) gY bF)
   (ax (b9 (bJ d9 (pv 2) (pv 3) (nomark _)) gY bF)
   (ax (du (ba c2 (hr.mono Qd) Qr (pa_cons (pv 4) pa_nil)))
   (ax (gd (j:=7) (N:=["end","self"]) (xs:=1) (js:=[0]) rfl p6.nd rfl rfl (bt rfl) (AN (bX (pa_cons (pv 2) (pa_cons (pv 3) pa_nil)))) (λ_ _ _ _=>be (i:=0) (show List.Nodup (["end","self"]:List Str)by decide+kernel) rfl (aN rfl))
    (λ_ _ _ _=>gb (gc (j4 hu (pv 0) (C5 K Qr (pv 1) Qr)))) (λ_ _ _ _=>pv 0) rfl)
   (ax (du (ba c3 (hr.mono Qd) Qr (pa_cons (bP dG (pe_callB lU Qr T.len b_len (pa_cons (gn (pv 0) rfl) pa_nil)) aD) (pa_cons (ia T.mostT Qr) pa_nil))))
   (ax (du (ba c3 (hr.mono Qd) Qr (pa_cons (bP dG (pe_callB lU Qr T.len b_len (pa_cons (gn (pv 0) rfl) pa_nil)) (pe_callB call_len_seq Qr T.len b_len (pa_cons (pv 7) pa_nil))) (pa_cons (ia T.mostP Qr) pa_nil))))
   (ax (fg PassesOwn.never rfl (bU (pv 7)) (be (i:=8) p6.nd rfl (aN rfl)) (aS (j2 hu (gn (pv 0) rfl) (pv 8) jh rfl)))
   (aS (j2 hu (gn (pv 0) rfl) (pv 1) (bX (pa_cons (pv 1) (pa_cons (pv 2) (pa_cons (pv 3) (pa_cons (pv 4) (pa_cons (pv 5) pa_nil)))))) rfl))))))))),?_⟩
  refine⟨_,rfl,_,rfl,_,rfl,(by show 3<=sizeLine;decide),λt ht=>⟨t,rfl,⟨_,cG.of ai⟩,?_⟩⟩;have st:aU H (upd H t (.tup [V.str r.nm,V.str r.a,V.str r.b])):=aU.new ht;have et:(upd H t (.tup [V.str r.nm,V.str r.a,V.str r.b])) t=some (.tup [V.str r.nm,V.str r.a,V.str r.b]):=ai;generalize upd H t (.tup [V.str r.nm,V.str r.a,V.str r.b])=H1 at st et;refine DA (K:=K) (a:=t) (xs:=[V.str r.nm,V.str r.a,V.str r.b]) (λi σ' H'=>(∃v,σ'=[some (.ref p),some (.str r.nm),some (.str r.a),some (.str r.b),some (.int r.w),some (.int r.c),v,none,none])/\aU H1 H')
   ⟨⟨_,rfl⟩,aU.refl H1⟩ (λi σ' H' _ h=>cG.of (h.2 _ _ et)) (λi x σ' H' hx h=>?_) (λσ' H' h=>?_)
  ·obtain⟨⟨v,rfl⟩,s1⟩:=h;obtain⟨y,rfl,hy⟩:∃y,x=V.str y/\cE y=true:=by
    match i,hx with
    |0,hx=>exact⟨_,(Option.some.inj hx).symm,n1⟩
    |1,hx=>exact⟨_,(Option.some.inj hx).symm,n2⟩
    |2,hx=>exact⟨_,(Option.some.inj hx).symm,n3⟩
    |n+3,hx=>simp at hx
   exact⟨_,rfl,y,rfl,hy,λH2 s2=>⟨⟨_,rfl⟩,s1.trans s2⟩⟩
  obtain⟨⟨v,rfl⟩,s1⟩:=h;have sA:=st.trans s1;obtain⟨⟨dx,h1⟩,h2,⟨L,R,h3⟩,ne⟩:=N.same sA;refine⟨_,rfl,_,rfl,p,C,dx,_,_,rfl,h1,T.cl,T.nL,lc _ _,dl,_,rfl,eh.k (k:=Sum.inr r.nm) h3,_,rfl,?_⟩;rw[wG R.1 hn];refine dz ?_;refine⟨_,rfl,_,rfl,rfl,_,rfl,?_⟩;rw[am (λz=>hab (by injection z))];refine dz ⟨_,rfl,r.w,rfl,hw,?_⟩;refine⟨_,rfl,_,rfl,(by show 2<=sizeLine;decide),λt2 ht2=>⟨t2,rfl,⟨_,cG.of ai⟩,?_⟩⟩;have sB:aU H' (upd H' t2 (.tup [V.str r.a,V.str r.b])):=aU.new ht2;have et2:(upd H' t2 (.tup [V.str r.a,V.str r.b])) t2=some (.tup [V.str r.a,V.str r.b]):=ai;generalize upd H' t2 (.tup [V.str r.a,V.str r.b])=H2 at sB et2;have g1:=sB _ _ h1;have g2:=sB _ _ h2;have g3:=sB _ _ h3;refine BX (K:=K) (a:=t2) (ys:=[r.a,r.b].map V.str) (λi acc σ' H'=>H'=H2/\acc=(([r.a,r.b].take i).filter λx=>!decide (x∈S.pl)).map V.str/\∃o,σ'=[o,some (.ref p)]) ⟨rfl,rfl,none,rfl⟩ (λi acc σ' H' h=>?_) (by show 2<=sizeLine;decide)
   (λi acc σ' H' _ h=>by rw[h.1];exact cG.of et2) (λi x acc σ' H' hx h=>?_) (λacc σ' H' h np hnp=>?_)
  ·obtain⟨_,rfl,_⟩:=h;rw[ae];exact ay (bu _ _) (by rw[aQ];omega)
  ·obtain⟨rfl,rfl,o,rfl⟩:=h;rw[ap]at hx;cases ex:[r.a,r.b][i]? with
   |none=>rw[ex]at hx;cases hx
   |some y=>
    rw[ex]at hx;cases hx;refine⟨_,rfl,_,rfl,p,C,dx,_,_,rfl,g1,T.cl,T.nS,ip _ _,ds,_,rfl,eh.k (k:=Sum.inr y) g2,_,rfl,?_⟩;rw[FP];by_cases hy:y∈S.pl
    ·rw[af hy];refine dz ⟨rfl,?_,_,rfl⟩;rw[bi,ex,d8];simp[hy]
    ·rw[am hy];refine dv ⟨_,rfl,rfl,?_,_,rfl⟩;rw[bi,ex,d8,ah];simp[hy]
  obtain⟨rfl,rfl,o,rfl⟩:=h;have etk:([r.a,r.b].take ([r.a,r.b].map V.str).length)=[r.a,r.b]:=rfl;rw[etk];generalize hnew:([r.a,r.b].filter λx=>!decide (x∈S.pl))=new;have hwe:fe S.pl r.a r.b=S.pl++new:=by rw[<-hnew];rfl
  have hnn:new.Nodup/\∀x∈new,x∉S.pl:=by
   rw[<-hnew];refine⟨?_,λx hx=>by simpa using(bK.mp hx).2⟩;refine List.Pairwise.filter _ ?_;simp[hab]
  have sC:aU H' (upd H' np (.lst (new.map V.str))):=aU.new hnp;have enp:(upd H' np (.lst (new.map V.str))) np=some (.lst (new.map V.str)):=ai;generalize upd H' np (.lst (new.map V.str))=H3 at sC enp;have k1:=sC _ _ g1;have k2:=sC _ _ g2;have k3:=sC _ _ g3;refine⟨_,rfl,p,C,dx,_,_,rfl,k1,T.cl,T.nL,lc _ _,dl,_,rfl,k3,_,_,rfl,rfl,_,_,rfl,?_,?_⟩
  ·have:(kz L).length=S.ti.length:=by unfold kz;rw[ae,<-R.1,ae]
   omega
  refine⟨_,rfl,p,C,dx,_,_,rfl,k1,T.cl,T.nS,ip _ _,ds,_,rfl,k2,_,rfl,np,_,rfl,.inl (SqL.of enp),_,_,rfl,rfl,_,_,rfl,?_,?_⟩
  ·rw[hwe,aI]at hl20;have:(gW S).length=S.pl.length:=by unfold gW;rw[ae]
   rw[ae];omega
  have nnd:np≠ds:=cU enp k2 (by intro z;cases z);refine⟨_,rfl,np,rfl,⟨_,SqL.of enp⟩,fi (K:=K) (a:=np) (xs:=new.map V.str) (λi σ' H'=>i<=new.length/\(∃e,σ'=[some (.ref p),some (.str r.nm),some (.str r.a),some (.str r.b),some (.int r.w),some (.int r.c),v,some (.ref np),e])/\H' ds=some (.dK (gW ⟨S.pl++new.take i,S.ti⟩))/\∀b ob,H3 b=some ob->b≠ds->H' b=some ob)
   ⟨bO _,⟨_,rfl⟩,by rw[List.take_zero,b_];exact k2,λb ob e _=>e⟩ (λi σ' H' _ h=>SqL.of (h.2.2.2 _ _ enp nnd)) (λi x σ' H' hx h=>?_) (λσ' H' h=>?_)⟩
  ·obtain⟨hi,⟨e0,rfl⟩,hds,kp⟩:=h;rw[ap]at hx;cases ex:new[i]? with
   |none=>rw[ex]at hx;cases hx
   |some y=>
    rw[ex]at hx;cases hx;have hil:i<new.length:=(bj.mp ex).1;have hyn:y∉S.pl++new.take i:=by
     intro m;rcases aw.mp m with z|z
     ·exact hnn.2 y (ao ex) z
     ·obtain⟨j,hj,ej⟩:=lX.mp z;rw[aQ]at hj;rw[List.getElem_take]at ej;have e2:=a_ hil;rw[ex]at e2;have:j=i:=(List.getElem_inj hnn.1).mp (ej.trans (Option.some.inj e2));omega
    refine⟨_,rfl,p,C,dx,_,_,rfl,kp _ _ k1 (cU k1 k2 (by intro z;cases z)),T.cl,T.nS,ip _ _,_,rfl,ds,_,rfl,lB.k (k:=Sum.inr y) hds (cT ?_),Qo,⟨_,rfl⟩,?_,λb ob e h1=>by rw[aV h1];exact kp b ob e h1⟩
    ·unfold gW;rw[ae,aI,aQ];rw[hwe,aI]at hl20;omega
    ·rw[ai,gC _ (mR (S:=⟨S.pl++new.take i,S.ti⟩) hyn),bi,ex];unfold gW;show _=some (HO.dK ((S.pl++(new.take i++[y])).map _));rw[<-oY,ah (l₂:=[y])];rfl
  obtain⟨_,⟨e0,rfl⟩,hds,kp⟩:=h;rw[ae,bf,<-hwe]at hds;have q1:=kp _ _ k1 (cU k1 k2 (by intro z;cases z));have q3:=kp _ _ k3 ne.symm;refine⟨_,rfl,_,rfl,_,rfl,_,rfl,_,rfl,(by show 5<=sizeLine;decide),λu hu'=>?_⟩;have sD:aU H' (upd H' u (.tup [V.str r.nm,V.str r.a,V.str r.b,V.int r.w,V.int r.c])):=aU.new hu';have eu:(upd H' u (.tup [V.str r.nm,V.str r.a,V.str r.b,V.int r.w,V.int r.c])) u=some (.tup r.tup):=ai;generalize upd H' u (.tup [V.str r.nm,V.str r.a,V.str r.b,V.int r.w,V.int r.c])=H5 at sD eu;refine⟨_,rfl,p,C,dx,_,_,rfl,sD _ _ q1,T.cl,T.nL,lc _ _,_,rfl,dl,_,rfl,lB.k (k:=Sum.inr r.nm) (sD _ _ q3) (cT ?_),?_⟩
  ·have:(kz L).length=S.ti.length:=by unfold kz;rw[ae,<-R.1,ae]
   omega
  have npd:p≠dl:=cU q1 q3 (by intro z;cases z);have udl:u≠dl:=by intro z;rw[z]at hu';rw[q3]at hu';cases hu'
  refine k _ ⟨⟨dx,by rw[aV npd];exact sD _ _ q1⟩,by rw[aV ne];exact sD _ _ hds,⟨L++[(r,u)],⟨?_,λq hq=>?_⟩,?_⟩,ne⟩ λb ob e z1 z2=>?_
  ·rw[ah,R.1];rfl
  ·rcases aw.mp hq with hq|hq
   ·have y:=R.2 q hq;have y3:=kp _ _ (sC _ _ (sB _ _ y)) (cU (sC _ _ (sB _ _ y)) k2 (by intro z;cases z));rw[aV (cU y3 q3 (by intro z;cases z))];exact sD _ _ y3
   ·rw[ar.mp hq,aV udl];exact eu
  ·rw[ai,gC _ (wG R.1 hn)];unfold kz;rw[ah];rfl
  ·rw[aV z2];exact sD _ _ (kp _ _ (sC _ _ (sB _ _ (sA _ _ e))) z1)
end
end Net
namespace L2
open PySem PySem.Spec PyProof.Rows
section
variable{X:Cx}
end
end L2
namespace Net
open PySem L2
end Net
namespace L2
open PySem PySem.Spec PyProof.Rows
section
variable{X:Cx}
theorem oq:gj X (.type "dict") (λxs H Q=>∃d kvs,xs=[.ref d]/\Rd H d (.dK kvs)/\∀l,H l=none->Q (.ref l) (upd H l (.dK kvs))):=by
 intro pins s σ H xs us Q I r h;obtain⟨d,kvs,rfl,hd,q⟩:=h;obtain⟨u,rfl,ru⟩:=gL r;cases ru;obtain⟨z,hs,vs,rel,dd⟩:=iM I.hok hd;have e:=rel.length;refine kt_call_dict hs dd (by rw[<-e];exact z) λh' hm sb=>?_;have kp:∀b o,s.heap.get? b=some o->h'.get? b=some o:=λb o eb=>(sb.2 b (bp (bh eb))).trans (av _ eb);exact⟨.ref s.heap.objs.size,_,I.laid (t':=s.toks) (o:=.dK kvs) kp (aY _) (qu z (beq_eq_false_iff_ne.mpr (Ne.symm (bp I.big))) rel hm),rfl,q _ (I.hok.fresh (aY _))⟩
end
end L2
namespace Net
open PySem L2
theorem j7(ds dl:Addr):kb ds dl=[(("standing":Str),V.ref ds),(("laid":Str),V.ref dl)]:=by
 unfold kb;simp only[hZ,aM Am]
theorem rR(ds dl l:Addr):hZ "standing" (.ref l) (kb ds dl)=kb l dl:=by
 rw[j7,j7];simp[hZ]
theorem rT(ds dl l:Addr):hZ "laid" (.ref l) (kb ds dl)=kb ds l:=by
 rw[j7,j7];simp[hZ,Am]
def Ac(C:Addr):Sp:=λvs H Q _=>∃(p ds dl:Addr)(S:NS),vs=[.ref p]/\fF C H p ds dl S/\
 ∀(x ds' dl':Addr)(H':Hp),aU H H'->H x=none->H ds'=none->H dl'=none->fF C H' x ds' dl' S->Q (.ref x) H'
section
variable{P:Program}{w:World}{K:ag}{mg:Str->Option Value}{base:Heap}{C:Addr}
theorem vK:bG ["self","other"] ["self"] (aA s_Net_twin):=⟨rfl,rfl,rfl,Qk,rfl,Qk,Qk⟩
theorem Db{f:Addr}{fd:FuncData}(F:fI K "twin" "Net.twin" s_Net_twin f fd)(T:fo K mg C)(td:mg "dict"=none)(ci:Cg P w K mg base 1 C ["self"] (sR C)):FnOk P w K mg base fA 3 f fd ["self"] (Ac C):=by
 refine F.ok vK (λvs H Q E h=>?_) (λcdv A outer s H vs Q E hr h=>?_)
 ·obtain⟨p,ds,dl,S,rfl,_⟩:=h;rfl
 ·obtain⟨p,ds,dl,S,rfl,N,q⟩:=h;refine⟨_,ax (bH (i:=1) vK.nd rfl (aN rfl) (pq ci hr Qr T.mgC))
   (ax (p9 (pv 1) (fT oq Qr td uM (pa_cons (gn (pv 0) rfl) pa_nil)) rfl)
   (ax (p9 (pv 1) (fT oq Qr td uM (pa_cons (gn (pv 0) rfl) pa_nil)) rfl)
   (aS (bC (pv 1))))),?_⟩
  intro x dx nx ndx nex;refine⟨x,dx,rfl,ai,λds0 dl0 H1 fds fdl N1 kp1=>⟨rfl,?_⟩⟩;have s0:aU H (upd (upd H dx (.own x)) x (.ins C dx [])):=λb ob e=>by
   rw[aV (aZ e nx),aV (aZ e ndx)];exact e
  have s1:aU H H1:=λb ob e=>kp1 b ob (s0 b ob e) (aZ e nx);obtain⟨⟨dp,h1⟩,h2,⟨L,R,h3⟩,ne⟩:=N;obtain⟨⟨dx1,o1⟩,_,_,_⟩:=N1;refine⟨_,rfl,p,C,dp,_,_,rfl,s1 _ _ h1,T.cl,T.nS,ip _ _,ds,gW S,rfl,.inl (s1 _ _ h2),λl1 hl1=>?_⟩;have nx1:x≠l1:=aZ o1 hl1;refine⟨_,rfl,x,C,dx1,_,rfl,(by rw[aV nx1];exact o1),T.cl,T.nS,(by rw[j7];show 2<1000;decide),?_⟩;rw[rR];have f1:H l1=none:=s1.free hl1;generalize hH3:upd (upd H1 l1 (.dK (gW S))) x (.ins C dx1 (kb l1 dl0))=H3;have s3:aU H H3:=λb ob e=>by
   rw[<-hH3,aV (aZ e nx),aV (aZ e f1)];exact s1 b ob e
  have x3:H3 x=some (.ins C dx1 (kb l1 dl0)):=by rw[<-hH3];exact ai
  have l3:H3 l1=some (.dK (gW S)):=by rw[<-hH3,aV nx1.symm];exact ai
  refine⟨_,rfl,p,C,dp,_,_,rfl,s3 _ _ h1,T.cl,T.nL,lc _ _,dl,kz L,rfl,.inl (s3 _ _ h3),λl2 hl2=>?_⟩;have nx2:x≠l2:=aZ x3 hl2;have n12:l1≠l2:=aZ l3 hl2;refine⟨_,rfl,x,C,dx1,_,rfl,(by rw[aV nx2];exact x3),T.cl,T.nL,(by rw[j7];show 2<1000;decide),?_⟩;rw[rT];have f2:H l2=none:=s3.free hl2;have s5:aU H (upd (upd H3 l2 (.dK (kz L))) x (.ins C dx1 (kb l1 l2))):=λb ob e=>by
   rw[aV (aZ e nx),aV (aZ e f2)];exact s3 b ob e
  refine⟨_,rfl,q x l1 l2 _ s5 nx f1 f2 ⟨⟨dx1,ai⟩,?_,⟨L,R.same s5,?_⟩,n12⟩⟩
  ·rw[aV nx1.symm,aV n12];exact l3
  ·rw[aV nx2.symm,ai]
end
end Net
namespace Net
open PySem L2
def PD(H:Hp):Nat->V->PyData->Prop
 |_,.non,d=>d=.none
 |_,.bl b,d=>d=.bool b
 |_,.int i,d=>d=.int i
 |_,.str x,d=>PyData.strOk x=true/\d=.str x
 |n+1,.ref a,d=>(∃xs ds,H a=some (.lst xs)/\d=.list ds/\Paired (PD H n) xs ds)\/∃xs ds,H a=some (.tup xs)/\d=.tuple ds/\Paired (PD H n) xs ds
 |_,_,_=>False
theorem rc{α β:Type}{F:α->β->Prop}{a:α}:∀{xs:List α}{ys:List β}{i:Nat},Paired F xs ys->xs[i]?=some a->∃b,ys[i]?=some b/\F a b
 |_,_,i,.nil,h=>by simp at h
 |_,_,0,.cons (a:=c) (b:=b) h _,e=>by
  have e':c=a:=by simpa using e
  subst e';exact⟨b,rfl,h⟩
 |_,_,i+1,.cons _ t,e=>by
  obtain⟨b,h1,h2⟩:=rc (i:=i) t (by simpa using e);exact⟨b,by simpa using h1,h2⟩
theorem PD.same{H H':Hp}(s:aU H H'):∀{n:Nat}{v:V}{d:PyData},PD H n v d->PD H' n v d
 |0,v,d,h=>by cases v<;>first|exact h|exact h.elim
 |n+1,v,d,h=>by
  cases v<;>first|exact h|exact h.elim|skip
  rcases h with⟨xs,ds,e,e2,p⟩|⟨xs,ds,e,e2,p⟩
  ·exact .inl ⟨xs,ds,s _ _ e,e2,L2.Paired.mapP p λ_ _ h=>PD.same s h⟩
  ·exact .inr ⟨xs,ds,s _ _ e,e2,L2.Paired.mapP p λ_ _ h=>PD.same s h⟩
theorem PD.rd{K:ag}{H:Hp}:∀{n:Nat}{v:V}{d:PyData},PD H n v d->mH K H n v d
 |0,v,d,h=>by cases v<;>first|exact h|exact h.elim
 |n+1,v,d,h=>by
  cases v<;>first|exact h|exact h.elim|skip
  rcases h with⟨xs,ds,e,e2,p⟩|⟨xs,ds,e,e2,p⟩
  ·exact .inl ⟨xs,ds,SqL.of e,e2,L2.Paired.mapP p λ_ _ h=>PD.rd h⟩
  ·exact .inr ⟨xs,ds,cG.of e,e2,L2.Paired.mapP p λ_ _ h=>PD.rd h⟩
theorem PD.up{H:Hp}:∀{n:Nat}{v:V}{d:PyData},PD H n v d->PD H (n+1) v d
 |0,v,d,h=>by cases v<;>first|exact h|exact h.elim
 |n+1,v,d,h=>by
  cases v<;>first|exact h|exact h.elim|skip
  rcases h with⟨xs,ds,e,e2,p⟩|⟨xs,ds,e,e2,p⟩
  ·exact .inl ⟨xs,ds,e,e2,L2.Paired.mapP p λ_ _ h=>PD.up h⟩
  ·exact .inr ⟨xs,ds,e,e2,L2.Paired.mapP p λ_ _ h=>PD.up h⟩
theorem PD.mono{H:Hp}{n:Nat}{v:V}{d:PyData}(h:PD H n v d):∀k,PD H (n+k) v d
 |0=>h
 |k+1=>(PD.mono h k).up
theorem PD.strs{H:Hp}{n:Nat}:∀{ws:List Str},(∀x∈ws,cE x=true)->Paired (PD H n) (ws.map V.str) (ws.map PyData.str)
 |[],_=>.nil
 |x::r,ok=>.cons (by cases n<;>exact⟨de (ok x au),rfl⟩) (PD.strs λy hy=>ok y (aq _ hy))
def Gc:PyData->Bool
 |.list _=>true
 |_=>false
def GM:PyData->Bool
 |.str _=>true
 |_=>false
theorem PD.ty{K:ag}{H:Hp}{n:Nat}{v:V}{d:PyData}(h:PD H n v d):∃t,lu K H v t/\cg K t (.type "list")=some (Gc d)/\cg K t (.type "str")=some (GM d):=by
 cases n with
 |zero=>
  cases v<;>try exact h.elim
  ·cases(show d=_ from h);exact⟨_,.non,Ec K,Eb K⟩
  ·cases(show d=_ from h);exact⟨_,.bl _,Eg K,Ef K⟩
  ·cases(show d=_ from h);exact⟨_,.int _,Ee K,Ed K⟩
  ·cases h.2;exact⟨_,.str _,Ea K,rfl⟩
 |succ n=>
  cases v<;>try exact h.elim
  ·cases(show d=_ from h);exact⟨_,.non,Ec K,Eb K⟩
  ·cases(show d=_ from h);exact⟨_,.bl _,Eg K,Ef K⟩
  ·cases(show d=_ from h);exact⟨_,.int _,Ee K,Ed K⟩
  ·cases h.2;exact⟨_,.str _,Ea K,rfl⟩
  ·rcases h with⟨xs,ds,e,rfl,p⟩|⟨xs,ds,e,rfl,p⟩
   ·exact⟨_,.lst e,rfl,Ga K⟩
   ·exact⟨_,.tup e,F_ K,F9 K⟩
theorem PD.str_of{H:Hp}{n:Nat}{v:V}{d:PyData}(h:PD H n v d)(e:GM d=true):∃x,v=.str x/\d=.str x:=by
 cases n with
 |zero=>cases v<;>first|exact h.elim|(cases(show d=_ from h);cases e)|exact⟨_,rfl,h.2⟩
 |succ n=>
  cases v<;>first|exact h.elim|(cases(show d=_ from h);cases e)|exact⟨_,rfl,h.2⟩|skip
  rcases h with⟨xs,ds,e1,rfl,p⟩|⟨xs,ds,e1,rfl,p⟩<;>cases e
theorem PD.list_of{H:Hp}{n:Nat}{v:V}{ds:List PyData}(h:PD H n v (.list ds)):∃m a xs,n=m+1/\v=.ref a/\H a=some (.lst xs)/\Paired (PD H m) xs ds:=by
 cases n with
 |zero=>cases v<;>first|exact h.elim|cases(show PyData.list ds=_ from h)|cases h.2
 |succ n=>
  cases v<;>first|exact h.elim|cases(show PyData.list ds=_ from h)|cases h.2|skip
  rcases h with⟨xs,ds',e1,e2,p⟩|⟨xs,ds',e1,e2,p⟩
  ·cases e2;exact⟨n,_,xs,rfl,rfl,e1,p⟩
  ·cases e2
def pk(ti:List dw)(x:Str):Option dw:=ti.find? λr=>decide (r.nm=x)
def kn(ti:List dw)(here:Str):PyData->Option Str
 |.str x=>(pk ti x).bind λr=>if r.a=here then some r.b else none
 |_=>none
def stD(ti:List dw):Str->List PyData->Option (List Str)
 |here,[]=>some [here]
 |here,d::ds=>(kn ti here d).bind λh=>(stD ti h ds).map (here:: ·)
def CG(ti:List dw)(a:Str):PyData->Option (List Str)
 |.list ds=>stD ti a ds
 |_=>none
def n_(ti:List dw)(a:Str)(d:PyData):Option Str:=(CG ti a d).bind List.getLast?
theorem n8(ti:List dw)(a:Str)(e:List PyData):n_ ti a (.list e)=(stD ti a e).bind List.getLast?:=rfl
theorem Ab{ti:List dw}:∀{ds:List PyData}{a:Str}{l:List Str},stD ti a ds=some l->l≠ []
 |[],a,l,h=>by cases h;exact List.cons_ne_nil _ _
 |d::ds,a,l,h=>by
  unfold stD at h;cases e:kn ti a d with
  |none=>rw[e]at h;cases h
  |some x=>
   rw[e]at h;cases e2:stD ti x ds with
   |none=>rw[ig,e2]at h;cases h
   |some l'=>rw[ig,e2]at h;cases h;exact List.cons_ne_nil _ _
theorem qU{ti:List dw}{d:PyData}{here:Str}:∀{ds:List PyData}{a:Str}{l:List Str},stD ti a ds=some l->l.getLast?=some here->stD ti a (ds++[d])=(kn ti here d).map λx=>l++[x]
 |[],a,l,h,e=>by
  cases h;have e':a=here:=by simpa using e
  subst e';show(kn ti a d).bind (λx=>(stD ti x []).map (a:: ·))=_;cases kn ti a d<;>rfl
 |c::ds,a,l,h,e=>by
  unfold stD at h;show(kn ti a c).bind (λx=>(stD ti x (ds++[d])).map (a:: ·))=_;cases e1:kn ti a c with
  |none=>rw[e1]at h;cases h
  |some x=>
   rw[e1,ig]at h;rw[ig];cases e2:stD ti x ds with
   |none=>rw[e2]at h;cases h
   |some l'=>
    rw[e2]at h;cases h;have hne:=Ab e2;have e':l'.getLast?=some here:=by
     rw[<-e];cases l' with
     |nil=>exact absurd rfl hne
     |cons y ys=>simp[zO]
    rw[qU e2 e'];cases kn ti here d<;>rfl
structure Ff(mg:Str->Option Value):Prop where
 dict:mg "dict"=none
 sum:mg "sum"=none
section
variable{P:Program}{w:World}{K:ag}{mg:Str->Option Value}{base:Heap}{C:Addr}
theorem sZ:bG ["net","paper"] ["net","paper"] (aA s_is_place):=⟨rfl,rfl,rfl,Qk,rfl,Qk,Qk⟩
end
end Net
namespace L2
open PySem PySem.Spec PyProof.Rows
end L2
namespace Net
open PySem L2
abbrev eS:=Str×Str×Str
def eS.vs(t:eS):List V:=[.str t.1,.str t.2.1,.str t.2.2]
def eQ(to:Bool)(ti:List dw):List eS:=ti.map λr=>if to then(r.nm,r.b,r.a)else(r.nm,r.a,r.b)
def lw(H:Hp)(L:List (eS×Addr))(T:List eS):Prop:=L.map (·.1)=T/\∀q∈L,H q.2=some (.tup (eS.vs q.1))
theorem lw.same{H H':Hp}{L:List (eS×Addr)}{T:List eS}(s:aU H H')(h:lw H L T):lw H' L T:=⟨h.1,λq hq=>s _ _ (h.2 q hq)⟩
inductive oP(T:List eS)(a:Str):List Str->Str->Prop
 |nil:oP T a [] a
 |snoc {ws:List Str} {x nm y:Str} (p:oP T a ws x) (h:(nm,x,y)∈T):oP T a (ws++[nm]) y
def qA(T:List eS)(S:List Str):Prop:=∀t∈T,t.2.1∈S->t.2.2∈S
theorem oP.in_{T:List eS}{a:Str}{S ws:List Str}{x:Str}(c:qA T S)(h:a∈S)(p:oP T a ws x):x∈S:=by
 induction p with
 |nil=>exact h
 |snoc p h ih=>exact c _ h ih
abbrev Fd:=Str×List Str×Addr
def jn(G:List Fd):List (dU×V):=G.map λg=>(Sum.inr g.1,V.ref g.2.2)
def cN(G:List Fd):List Str:=G.map (·.1)
structure sr(H:Hp)(d:Addr)(T:List eS)(a:Str)(G:List Fd):Prop where
 ob:H d=some (.dK (jn G))
 ws:∀g∈G,H g.2.2=some (.lst (g.2.1.map V.str))/\oP T a g.2.1 g.1/\g.2.1.length<G.length
 nd:(cN G).Nodup
theorem sr.same{H H':Hp}{d:Addr}{T:List eS}{a:Str}{G:List Fd}(s:aU H H')(h:sr H d T a G):sr H' d T a G:=
 ⟨s _ _ h.ob,λg hg=>⟨s _ _ (h.ws g hg).1,(h.ws g hg).2⟩,h.nd⟩
theorem nZ{G:List Fd}{x:Str}(h:x∈cN G):∃g∈G,g.1=x/\valV (jn G) (Sum.inr x:dU)=some (.ref g.2.2):=by
 induction G with
 |nil=>exact nomatch h
 |cons g r ih=>
  by_cases e:g.1=x
  ·exact⟨g,au,e,g8 (b6 Sum.inr e)⟩
  ·have h':x∈cN r:=by
    rcases bd.mp h with z|z
    ·exact absurd z.symm e
    ·exact z
   obtain⟨g',h1,h2,h3⟩:=ih h';refine⟨g',aq _ h1,h2,?_⟩;show valV (_::jn r) _=_;rw[g9 (λz=>e (Sum.inr.inj z))];exact h3
theorem m6{G:List Fd}{x:Str}(h:x∉cN G):valV (jn G) (Sum.inr x:dU)=none:=by
 cases e:valV (jn G) (Sum.inr x:dU)with
 |none=>rfl
 |some v=>
  have:=mO e;unfold jn at this;rw[bm]at this;obtain⟨y,hy,e2⟩:=aj.mp this;exact absurd (aj.mpr ⟨y,hy,Sum.inr.inj e2⟩) h
theorem wK(G:List Fd)(x:Str):(valV (jn G) (Sum.inr x:dU)).isSome=decide (x∈cN G):=by
 by_cases h:x∈cN G
 ·obtain⟨g,_,_,e⟩:=nZ h;rw[e,af h];rfl
 ·rw[m6 h,am h];rfl
def pU(C:Addr):Sp:=λvs H Q _=>∃(p ds dl:Addr)(S:NS)(wd:Str),vs=[.ref p,.str wd]/\fF C H p ds dl S/\S.ti.length<=40/\
 ∀(l:Addr)(H':Hp)(L:List (eS×Addr)),H l=none->aU H H'->lw H' L (eQ (decide (wd="to")) S.ti)->H' l=some (.lst (L.map λq=>V.ref q.2))->Q (.ref l) H'
def D6:Sp:=λvs H Q _=>∃(l:Addr)(L:List (eS×Addr))(T:List eS)(a:Str),vs=[.ref l,.str a]/\H l=some (.lst (L.map λq=>V.ref q.2))/\lw H L T/\T.length<=40/\cE a=true/\(∀t∈T,cE t.2.2=true)/\
 ∀(d:Addr)(H':Hp)(G:List Fd),H d=none->aU H H'->sr H' d T a G->a∈cN G->qA T (cN G)->G.length<=41->(∀g∈G,H g.2.2=none)->Q (.ref d) H'
def ke(x:Str)(L:List (eS×Addr)):List (eS×Addr):=L.filter λq=>decide (q.1.2.1=x)
structure Cd(H:Hp)(d:Addr)(L:List (eS×Addr))(B:List Fd):Prop where
 ob:H d=some (.dK (jn B))
 ls:∀b∈B,H b.2.2=some (.lst ((ke b.1 L).map λq=>V.ref q.2))
 all:∀q∈L,q.1.2.1∈cN B
theorem Cd.same{H H':Hp}{d:Addr}{L:List (eS×Addr)}{B:List Fd}(s:aU H H')(h:Cd H d L B):Cd H' d L B:=⟨s _ _ h.ob,λb hb=>s _ _ (h.ls b hb),h.all⟩
structure BI(H H':Hp)(d:Addr)(L:List (eS×Addr))(B:List Fd):Prop where
 same:aU H H'
 on:Cd H' d L B
 hd:H d=none
 fr:∀b∈B,H b.2.2=none
 na:(B.map (·.2.2)).Nodup
 nd:(cN B).Nodup
 few:B.length<=L.length
theorem gq{α β:Type}{f:α->β}:∀{l:List α},(l.map f).Nodup->∀{a b:α},a∈l->b∈l->f a=f b->a=b
 |[],_,_,_,h,_,_=>nomatch h
 |x::r,n,a,b,ha,hb,e=>by
  obtain⟨n1,n2⟩:=bM.mp n;rcases bd.mp ha with h1|h1
  ·rcases bd.mp hb with h2|h2
   ·exact h1.trans h2.symm
   ·exact absurd (by rw[<-h1,e];exact aj.mpr ⟨b,h2,rfl⟩) n1
  ·rcases bd.mp hb with h2|h2
   ·exact absurd (by rw[<-h2,<-e];exact aj.mpr ⟨a,h1,rfl⟩) n1
   ·exact gq n2 h1 h2 e
theorem pP(x:Str)(L:List (eS×Addr))(q:eS×Addr):ke x (L++[q])=ke x L++if q.1.2.1=x then [q]else []:=by
 unfold ke;rw[d8];by_cases h:q.1.2.1=x
 ·rw[bc h];simp[h]
 ·rw[aM h];simp[h]
theorem B6(x:Str)(L:List (eS×Addr)):(ke x L).length<=L.length:=bu ..
def FQ:Sp:=λvs H Q _=>∃(l:Addr)(L:List (eS×Addr))(T:List eS),vs=[.ref l]/\H l=some (.lst (L.map λq=>V.ref q.2))/\lw H L T/\T.length<=40/\∀(d:Addr)(H':Hp)(B:List Fd),aU H H'->Cd H' d L B->Q (.ref d) H'
theorem jy{to:Bool}(ti:List dw):(eQ to ti).length=ti.length:=ae ..
section
variable{P:Program}{w:World}{K:ag}{mg:Str->Option Value}{base:Heap}{C:Addr}
theorem As:bG ["net","word"] ["net","word"] (aA s_steps_of):=⟨rfl,rfl,rfl,Qk,rfl,Qk,Qk⟩
theorem A5{f:Addr}{fd:FuncData}(F:fI K "steps_of" "steps_of" s_steps_of f fd)(T:fo K mg C)(m2:gt P w K mg base 1 C "ties" ["self"] (iu C)):FnOk P w K mg base fA 2 f fd ["net","word"] (pU C):=by
 refine F.ok As (λvs H Q E h=>?_) (λcdv A outer s H vs Q E hr h=>?_)
 ·obtain⟨p,ds,dl,S,wd,rfl,_⟩:=h;rfl
 ·obtain⟨p,ds,dl,S,wd,rfl,N,few,q⟩:=h;obtain⟨dx,h1⟩:=N.ob;refine⟨_,ax (b9 (bJ d9 (pv 1) bQ (nomark _)) (aS (bC (cW (N:=["row"]) (xs:=1) (js:=[]) rfl (bt rfl) (bU (cB (pv 0) T.cl m2 hr))
   (λ_ _ _ _=>be (i:=0) (show List.Nodup (["row"]:List Str)by decide+kernel) rfl (aN rfl)) (λ_ _ _ _=>cV)
   (λ_ _ _ _=>bX (pa_cons (bw (cx K Qr) (pv 0) aD (λ_ _=>Qr)) (pa_cons (bw (cx K Qr) (pv 0) aD (λ_ _=>Qr)) (pa_cons (bw (cx K Qr) (pv 0) aD (λ_ _=>Qr)) pa_nil))))))) bF)
   (aS (bC (cW (N:=["row"]) (xs:=1) (js:=[]) rfl (bt rfl) (bU (cB (pv 0) T.cl m2 hr))
   (λ_ _ _ _=>be (i:=0) (show List.Nodup (["row"]:List Str)by decide+kernel) rfl (aN rfl)) (λ_ _ _ _=>cV)
   (λ_ _ _ _=>bX (pa_cons (bw (cx K Qr) (pv 0) aD (λ_ _=>Qr)) (pa_cons (bw (cx K Qr) (pv 0) aD (λ_ _=>Qr)) (pa_cons (bw (cx K Qr) (pv 0) aD (λ_ _=>Qr)) pa_nil))))))),?_⟩
  refine⟨_,rfl,rfl,_,rfl,?_⟩;by_cases ew:wd="to"
  ·have eb:decide (wd="to")=true:=af ew;rw[eb]at q;refine dH (by rw[ew];simp) ?_;refine⟨_,rfl,p,dx,_,rfl,h1,df ds dl Qk Qk,p,ds,dl,S,rfl,N,λl H1 L hl s1 RL e1=>?_⟩;have RL1:=RL.same s1;refine⟨l,rfl,⟨_,SqL.of e1⟩,bW (K:=K) (ys:=L.map λq=>V.ref q.2) (λi acc σ' H'=>∃M:List (eS×Addr),acc=M.map (λq=>V.ref q.2)/\lw H' M (eQ true ((L.take i).map (·.1)))/\aU H1 H'/\∃o,σ'=[o])
    ⟨[],rfl,⟨rfl,λ_ h=>nomatch h⟩,aU.refl H1,none,rfl⟩ (λi acc σ' H' h=>?_) ?_ (λi acc σ' H' _ h=>?_) (λi x acc σ' H' hx h=>?_) (λacc σ' H' h pp hpp=>?_)⟩
   ·obtain⟨M,rfl,e,_⟩:=h;have:=b6 List.length e.1;rw[jy,ae,ae,aQ]at this;rw[ae];omega
   ·have e:L.length=S.ti.length:=by rw[<-RL.1,ae]
    rw[ae,e];exact ay few Qd
   ·obtain⟨_,_,_,s2,_⟩:=h;exact SqL.of (s2 _ _ e1)
   ·obtain⟨M,rfl,e,s2,o,rfl⟩:=h;rw[ap]at hx;cases eq:L[i]? with
    |none=>rw[eq]at hx;cases hx
    |some qq=>
     rw[eq]at hx;cases hx;have hq:=s2 _ _ (RL1.2 qq (ao eq));refine⟨_,rfl,_,_,_,.str qq.1.nm,rfl,rfl,cG.of hq,rfl,_,rfl,_,_,_,.str qq.1.b,rfl,rfl,cG.of hq,rfl,_,rfl,_,_,_,.str qq.1.a,rfl,rfl,cG.of hq,rfl,(by show 3<=sizeLine;decide),λt ht=>?_⟩;refine⟨M++[((qq.1.nm,qq.1.b,qq.1.a),t)],by rw[ah];rfl,⟨?_,λz hz=>?_⟩,s2.upd ht,_,rfl⟩
     ·rw[ah,e.1,bi,eq,ah];unfold eQ;rw[ah];rfl
     ·rcases aw.mp hz with hz|hz
      ·exact(aU.new ht) _ _ (e.2 z hz)
      ·cases ar.mp hz;exact ai
   ·obtain⟨M,rfl,e,s2,o,rfl⟩:=h;rw[ae,bf,RL.1]at e;have s3:=aU.new (o:=.lst (M.map λq=>V.ref q.2)) hpp;have sa:=s1.trans s2;exact q pp _ M (sa.free hpp) (sa.trans s3) (e.same s3) ai
  ·have eb:decide (wd="to")=false:=am ew;rw[eb]at q;refine cq (by simp[ew]) ?_;refine⟨_,rfl,p,dx,_,rfl,h1,df ds dl Qk Qk,p,ds,dl,S,rfl,N,λl H1 L hl s1 RL e1=>?_⟩;have RL1:=RL.same s1;refine⟨l,rfl,⟨_,SqL.of e1⟩,bW (K:=K) (ys:=L.map λq=>V.ref q.2) (λi acc σ' H'=>∃M:List (eS×Addr),acc=M.map (λq=>V.ref q.2)/\lw H' M (eQ false ((L.take i).map (·.1)))/\aU H1 H'/\∃o,σ'=[o])
    ⟨[],rfl,⟨rfl,λ_ h=>nomatch h⟩,aU.refl H1,none,rfl⟩ (λi acc σ' H' h=>?_) ?_ (λi acc σ' H' _ h=>?_) (λi x acc σ' H' hx h=>?_) (λacc σ' H' h pp hpp=>?_)⟩
   ·obtain⟨M,rfl,e,_⟩:=h;have:=b6 List.length e.1;rw[jy,ae,ae,aQ]at this;rw[ae];omega
   ·have e:L.length=S.ti.length:=by rw[<-RL.1,ae]
    rw[ae,e];exact ay few Qd
   ·obtain⟨_,_,_,s2,_⟩:=h;exact SqL.of (s2 _ _ e1)
   ·obtain⟨M,rfl,e,s2,o,rfl⟩:=h;rw[ap]at hx;cases eq:L[i]? with
    |none=>rw[eq]at hx;cases hx
    |some qq=>
     rw[eq]at hx;cases hx;have hq:=s2 _ _ (RL1.2 qq (ao eq));refine⟨_,rfl,_,_,_,.str qq.1.nm,rfl,rfl,cG.of hq,rfl,_,rfl,_,_,_,.str qq.1.a,rfl,rfl,cG.of hq,rfl,_,rfl,_,_,_,.str qq.1.b,rfl,rfl,cG.of hq,rfl,(by show 3<=sizeLine;decide),λt ht=>?_⟩;refine⟨M++[((qq.1.nm,qq.1.a,qq.1.b),t)],by rw[ah];rfl,⟨?_,λz hz=>?_⟩,s2.upd ht,_,rfl⟩
     ·rw[ah,e.1,bi,eq,ah];unfold eQ;rw[ah];rfl
     ·rcases aw.mp hz with hz|hz
      ·exact(aU.new ht) _ _ (e.2 z hz)
      ·cases ar.mp hz;exact ai
   ·obtain⟨M,rfl,e,s2,o,rfl⟩:=h;rw[ae,bf,RL.1]at e;have s3:=aU.new (o:=.lst (M.map λq=>V.ref q.2)) hpp;have sa:=s1.trans s2;exact q pp _ M (sa.free hpp) (sa.trans s3) (e.same s3) ai
abbrev Ik:List Str:=["steps","onward","step"]
theorem pi:bG Ik ["steps"] (aA s_steps_by_begin):=⟨rfl,rfl,rfl,Qk,rfl,Qk,Qk⟩
theorem F4{f:Addr}{fd:FuncData}(F:fI K "steps_by_begin" "steps_by_begin" s_steps_by_begin f fd)(T:fo K mg C):FnOk P w K mg base fA 1 f fd ["steps"] FQ:=by
 refine F.ok pi (λvs H Q E h=>?_) (λcdv A outer s H vs Q E hr h=>?_)
 ·obtain⟨l,L,T,rfl,_⟩:=h;rfl
 ·obtain⟨l,L,TT,rfl,hl,tr,few,q⟩:=h;refine⟨_,(ax (bH (i:=1) pi.nd rfl (aN rfl) kW)
   (ax (fg PassesOwn.never rfl (bU (pv 0)) (be (i:=2) pi.nd rfl (aN rfl))
    (aS (du (iH bN ck cj fu (AT (pv 1) (bw bV (pv 2) aD (λ_ _=>Qr)) (dC pa_nil) ⟨rfl,rfl,rfl,rfl⟩) (pa_cons (pv 2) pa_nil)))))
   (aS (bC (pv 1))))),?_⟩
  intro d hd;have hLl:L.length<=40:=by
   have:L.length=TT.length:=by rw[<-tr.1,ae]
   omega
  have s0:=aU.new (o:=.dK []) hd;refine⟨_,rfl,l,rfl,⟨_,SqL.of (s0 _ _ hl)⟩,fi (K:=K) (a:=l) (xs:=L.map λq=>V.ref q.2) (λj σ' H'=>∃(B:List Fd)(v:Option V),σ'=[some (.ref l),some (.ref d),v]/\BI H H' d (L.take j) B)
   ⟨[],none,rfl,s0,⟨ai,λ_ h=>(nomatch h),λ_ h=>(nomatch h)⟩,hd,λ_ h=>(nomatch h),fQ,fQ,bO _⟩ (λj σ' H' _ h=>?_) (λj v σ' H' hv h=>?_) (λσ' H' h=>?_)⟩
  ·obtain⟨_,_,_,b⟩:=h;exact SqL.of (b.same _ _ hl)
  ·obtain⟨B,v',rfl,b⟩:=h;rw[ap]at hv;cases eq:L[j]? with
   |none=>rw[eq]at hv;cases hv
   |some qq=>
    rw[eq]at hv;cases hv;have hq:=b.same _ _ (tr.2 qq (ao eq));have et:L.take (j+1)=L.take j++[qq]:=by rw[bi,eq];rfl
    have hj:(L.take j).length<=40:=ay (DV ..) hLl;have hB:=b.few;refine⟨_,rfl,d,rfl,.inl ⟨_,.inl b.on.ob⟩,_,rfl,_,_,_,.str qq.1.2.1,rfl,rfl,cG.of hq,rfl,Qd,λe he=>⟨jn B,Sum.inr qq.1.2.1,(aU.new he) _ _ b.on.ob,rfl,cT (by unfold jn;rw[ae];omega),λv hv=>?_,λhn=>?_⟩⟩
    ·have hk:qq.1.2.1∈cN B:=by
      by_cases z:qq.1.2.1∈cN B
      ·exact z
      ·rw[m6 z]at hv;cases hv
     obtain⟨b0,hb0,e0,v0⟩:=nZ hk;rw[v0]at hv;cases hv;have h0:=(aU.new (o:=.lst []) he) _ _ (b.on.ls b0 hb0);refine⟨.inl ⟨rfl,_,SqL.of h0⟩,_,rfl,_,_,_,rfl,rfl,h0,cT (by rw[ae];have:=B6 b0.1 (L.take j);omega),?_⟩;have ndb:d≠b0.2.2:=cU b.on.ob (b.on.ls b0 hb0) (by intro z;cases z);refine⟨B,_,rfl,⟨λy ob z=>?_,⟨?_,λb1 hb1=>?_,λq1 hq1=>?_⟩,b.hd,b.fr,b.na,b.nd,?_⟩⟩
     ·rw[aV (aZ z (b.fr b0 hb0))];exact(b.same.upd he) _ _ z
     ·rw[aV ndb];exact(aU.new he) _ _ b.on.ob
     ·rw[et,pP];by_cases ea:b1=b0
      ·subst ea;rw[bc e0.symm,ai,ah];rfl
      ·rw[aM (λz=>ea (gq b.nd hb1 hb0 (z.symm.trans e0.symm))),b_,aV (λz=>ea (gq b.na hb1 hb0 z))];exact(aU.new he) _ _ (b.on.ls b1 hb1)
     ·rw[et]at hq1;rcases aw.mp hq1 with z|z
      ·exact b.on.all q1 z
      ·cases ar.mp z;exact hk
     ·rw[et,aI];omega
    ·have hk:qq.1.2.1∉cN B:=λz=>by
      obtain⟨_,_,_,v0⟩:=nZ z;rw[hn]at v0;cases v0
     rw[gC _ hn];have nde:d≠e:=aZ b.on.ob he;have h0:(upd (upd H' e (.lst [])) d (.dK (jn B++[((Sum.inr qq.1.2.1:dU),V.ref e)]))) e=some (.lst []):=by rw[aV nde.symm];exact ai
     have heH:H e=none:=b.same.free he;refine⟨.inl ⟨rfl,_,SqL.of h0⟩,_,rfl,_,_,_,rfl,rfl,h0,Qd,?_⟩;have none_q:ke qq.1.2.1 (L.take j)=[]:=by
      unfold ke;refine fm.mpr λq1 hq1 z=>hk ?_;rw[<-aK z];exact b.on.all q1 hq1
     refine⟨B++[(qq.1.2.1,[],e)],_,rfl,⟨λy ob z=>?_,⟨?_,λb1 hb1=>?_,λq1 hq1=>?_⟩,b.hd,λb1 hb1=>?_,?_,?_,?_⟩⟩
     ·rw[aV (aZ z heH),aV (aZ z b.hd)];exact(b.same.upd he) _ _ z
     ·rw[aV nde,ai];unfold jn;rw[ah];rfl
     ·rw[et,pP];rcases aw.mp hb1 with hb1|hb1
      ·have nb:b1.2.2≠e:=aZ (b.on.ls b1 hb1) he;rw[aM (λz=>hk (by rw[z];exact aj.mpr ⟨b1,hb1,rfl⟩)),b_,aV nb,aV (cU (b.on.ls b1 hb1) b.on.ob (by intro z;cases z)),aV nb];exact b.on.ls b1 hb1
      ·cases ar.mp hb1;rw[bc rfl,none_q];exact ai
     ·unfold cN;rw[ah];rw[et]at hq1;rcases aw.mp hq1 with z|z
      ·exact bo _ (b.on.all q1 z)
      ·cases ar.mp z;exact bn _ au
     ·rcases aw.mp hb1 with hb1|hb1
      ·exact b.fr b1 hb1
      ·cases ar.mp hb1;exact heH
     ·rw[ah];refine L2.gX b.na λz=>?_;obtain⟨b1,hb1,e1⟩:=aj.mp z;have:=b.on.ls b1 hb1;rw[show b1.2.2=e from e1,he]at this;cases this
     ·unfold cN;rw[ah];exact L2.gX b.nd hk
     ·rw[et,aI,aI];show B.length+1<=(L.take j).length +1;omega
  ·obtain⟨B,v',rfl,b⟩:=h;rw[ae,bf]at b;exact⟨_,rfl,q d H' B b.same b.on⟩
structure BF(H H':Hp)(d wt:Addr)(T:List eS)(a:Str)(G:List Fd)(ws:List Str):Prop where
 same:aU H H'
 fd:sr H' d T a G
 wl:H' wt=some (.lst (ws.map V.str))
 hd:H d=none
 hw:H wt=none
 fr:∀g∈G,H g.2.2=none/\g.2.2≠wt
 inw:∀x∈ws,x∈cN G
 st:a∈cN G
 sub:∀x∈cN G,x∈a::T.map (·.2.2)
theorem BF.up{H H' H2:Hp}{d wt:Addr}{T:List eS}{a:Str}{G:List Fd}{ws:List Str}(b:BF H H' d wt T a G ws)(s:aU H' H2):BF H H2 d wt T a G ws:=
 ⟨b.same.trans s,b.fd.same s,s _ _ b.wl,b.hd,b.hw,b.fr,b.inw,b.st,b.sub⟩
theorem BF.few{H H':Hp}{d wt:Addr}{T:List eS}{a:Str}{G:List Fd}{ws:List Str}(b:BF H H' d wt T a G ws):G.length<=T.length+1:=by
 have:=iI b.fd.nd b.sub;unfold cN at this;rw[ae,bT,ae]at this;exact this
theorem BF.ok{H H':Hp}{d wt:Addr}{T:List eS}{a:Str}{G:List Fd}{ws:List Str}(b:BF H H' d wt T a G ws)(h1:cE a=true)(h2:∀t∈T,cE t.2.2=true):∀x∈cN G,cE x=true:=λx hx=>by
 rcases bd.mp (b.sub x hx)with rfl|z
 ·exact h1
 ·obtain⟨t,ht,rfl⟩:=aj.mp z;exact h2 t ht
def BW(H:Hp)(l od d wt:Addr)(T:List eS)(a:Str)(m:Nat)(σ:St)(H':Hp):Prop:=∃(G:List Fd)(ws:List Str)(v1 v2 v3 v4:Option V),σ=[some (.ref l),some (.str a),some (.ref od),some (.ref d),some (.ref wt),v1,v2,v3,v4]/\BF H H' d wt T a G ws/\
 (∀t∈T,t.2.1∈cN G->t.2.1∉ws->t.2.2∈cN G)/\m=2*(T.length+1-G.length)+ws.length/\m<=100
abbrev HC:List Str:=["steps","a","onward","found","waiting","here","name","begin","end"]
theorem fH:bG HC ["steps","a"] (aA s_steps_to_places):=⟨rfl,rfl,rfl,Qk,rfl,Qk,Qk⟩
theorem ET{f:Addr}{fd:FuncData}(F:fI K "steps_to_places" "steps_to_places" s_steps_to_places f fd)(T:fo K mg C)(cy:dc P w K mg base 1 "steps_by_begin" ["steps"] FQ):FnOk P w K mg base fA 2 f fd ["steps","a"] D6:=by
 refine F.ok fH (λvs H Q E h=>?_) (λcdv A outer s H vs Q E hr h=>?_)
 ·obtain⟨l,L,T,a,rfl,_⟩:=h;rfl
 ·obtain⟨l,L,TT,a,rfl,hl00,tr00,few,oka,okt,q00⟩:=h;have hu:=iL hr;have hU:=hr.units;refine⟨_,ax (bH (i:=2) fH.nd rfl (aN rfl) (ba cy hr rfl (pa_cons (pv 0) pa_nil)))
   (ax (bH (i:=3) fH.nd rfl (aN rfl) (C6 (AM (pv 1) (dC pa_nil) C1) rfl rfl Qs Qd))
   (ax (bH (i:=4) fH.nd rfl (aN rfl) (dC (pa_cons (pv 1) pa_nil)))
   (ax (nA PassesOwn.never (bJ (nI hU) (pv 4) (dC pa_nil) (nomark _))
    (ax (bH (i:=5) fH.nd rfl (aN rfl) (iH bN Cv Ct rm (pv 4) (pa_cons aD pa_nil)))
    (aS (fg PassesOwn.never rfl (bU (ra hu (pv 2) (pv 5) (dC pa_nil) ⟨rfl,rfl,rfl,rfl⟩)) (ge rfl (bq (be (i:=6) fH.nd rfl (aN rfl)) (bq (be (i:=7) fH.nd rfl (aN rfl)) (bq (be (i:=8) fH.nd rfl (aN rfl)) dI))))
     (aS (b9 (gc (j4 hu (pv 8) (pv 3)))
      (ax (j2 hu (pv 3) (pv 8) (bP nK (gx hu (pv 3) (pv 5) (λ_ _=>rfl)) (dC (pa_cons (pv 6) pa_nil))) rfl)
      (aS (du (iH bN ck cj fu (pv 4) (pa_cons (pv 8) pa_nil))))) bF))))))
   (aS (bC (pv 3)))))),?_⟩
  refine⟨_,rfl,l,L,TT,rfl,hl00,tr00,few,λod H9 B9 s9 on9=>?_⟩;have hl:=s9 _ _ hl00;have tr:=tr00.same s9;have q:∀(d:Addr)(H':Hp)(G:List Fd),H9 d=none->aU H9 H'->sr H' d TT a G->a∈cN G->qA TT (cN G)->G.length<=41->(∀g∈G,H9 g.2.2=none)->Q (.ref d) H':=
   λd H' G h1 h2 h3 h4 h5 h6 h7=>q00 d H' G (s9.free h1) (s9.trans h2) h3 h4 h5 h6 λg hg=>s9.free (h7 g hg)
  clear q00 hl00 tr00;generalize H9=H at*;intro d hd;refine⟨_,rfl,Qd,λe he=>?_⟩;have nde:d≠e:=aZ ai he;have he0:H e=none:=by rw[aV nde.symm]at he;exact he
  refine⟨by rw[aV nde];exact ai,[(Sum.inr a,.ref e)],rfl,(by show 1<=15;decide),?_⟩;have s1:aU H (upd (upd (upd H d (.dK [])) e (.lst [])) d (.dK (jE [] [(Sum.inr a,V.ref e)]))):=λb ob z=>by
   rw[aV (aZ z hd),aV (aZ z he0),aV (aZ z hd)];exact z
  have F1:sr (upd (upd (upd H d (.dK [])) e (.lst [])) d (.dK (jE [] [(Sum.inr a,V.ref e)]))) d TT a [(a,[],e)]:=
   ⟨ai,λg hg=>by
    rw[ar.mp hg];exact⟨by rw[aV nde.symm];exact ai,.nil,by show 0<1;decide⟩,by simp[cN]⟩
  generalize upd (upd (upd H d (.dK [])) e (.lst [])) d (.dK (jE [] [(Sum.inr a,V.ref e)]))=H1 at s1 F1;refine⟨_,rfl,(by show 1<=sizeLine;decide),λwt hwt=>?_⟩;have s2:=aU.new (o:=.lst [.str a]) hwt;have nwe:e≠wt:=aZ (F1.ws _ au).1 hwt;have B0:BF H (upd H1 wt (.lst [.str a])) d wt TT a [(a,[],e)] [a]:=⟨s1.trans s2,F1.same s2,ai,hd,s1.free hwt,λg hg=>by rw[ar.mp hg];exact⟨he0,nwe⟩,λx hx=>hx,au,λx hx=>by rw[ar.mp hx];exact au⟩;generalize upd H1 wt (.lst [.str a])=H2 at B0;refine⟨BW H l od d wt TT a,⟨_,_,_,none,none,none,none,rfl,B0,λt ht h1 h2=>absurd h1 h2,rfl,?_⟩,?_⟩
  ·show 2*(TT.length+1-1)+1<=100;omega
  rintro m σ' H'⟨G,ws,v1,v2,v3,v4,rfl,B,cl,hm,h100⟩;have kok:=B.ok oka okt;refine⟨_,rfl,Qd,λee hee=>⟨2,_,_,Qd,p8 ((aU.new hee) _ _ B.wl) (λx hx=>kok x (B.inw x hx)),AJ ai,_,rfl,?_⟩⟩;have B1:=B.up (aU.new (o:=.lst []) hee);generalize upd H' ee (.lst [])=H3 at B1;show if(!PyData.eqv (.list (ws.map PyData.str)) (.list []))=true then _ else _;rw[wL];cases ws with
  |nil=>
   refine dz ⟨_,rfl,?_⟩;have hf:=B1.few;exact q d H3 G hd B1.same B1.fd B1.st (λt ht hb=>cl t ht hb (λz=>nomatch z)) Qo λg hg=>(B1.fr g hg).1
  |cons here rest=>
   refine dv ⟨λσ' H'=>∃m',m'<m/\BW H l od d wt TT a m' σ' H',λ_ _ z=>z,?_⟩;have hhere:here∈cN G:=B1.inw here au;refine⟨_,rfl,.inl ⟨rfl,_,SqL.of B1.wl⟩,wt,_,0,0,.str here,rfl,rfl,B1.wl,Qd,Qd,by simp[seqIndex?],rfl,?_⟩;have sw:aU H (upd H3 wt (.lst ((here::rest).map V.str |>.eraseIdx 0))):=λb ob z=>by
    rw[aV (aZ z B1.hw)];exact B1.same _ _ z
   have ndw:d≠wt:=cU B1.fd.ob B1.wl (by intro z;cases z);have B2:BF H (upd H3 wt (.lst ((here::rest).map V.str |>.eraseIdx 0))) d wt TT a G rest:=
    ⟨sw,⟨by rw[aV ndw];exact B1.fd.ob,λg hg=>⟨by rw[aV (B1.fr g hg).2];exact(B1.fd.ws g hg).1,(B1.fd.ws g hg).2⟩,B1.fd.nd⟩,ai,B1.hd,B1.hw,B1.fr,λx hx=>B1.inw x (aq _ hx),B1.st,B1.sub⟩
   generalize upd H3 wt (.lst ((here::rest).map V.str |>.eraseIdx 0))=H4 at B2;have hLl:L.length=TT.length:=by rw[<-tr.1,ae]
   have oc:=on9.same B2.same;refine⟨_,rfl,od,rfl,.inl ⟨_,.inl oc.ob⟩,_,rfl,Qd,λe5 he5=>?_⟩;have s5:=aU.new (o:=.lst []) he5;have B3:=B2.up s5;have oc5:=oc.same s5;have nw5:e5≠wt:=(aZ B2.wl he5).symm;have h5:(upd H4 e5 (.lst [])) e5=some (.lst []):=ai;generalize upd H4 e5 (.lst [])=H5 at B3 oc5 h5;have key:∃(lx:Addr),(Option.getD (valV (jn B9) (Sum.inr here:dU)) (.ref e5))=.ref lx/\H5 lx=some (.lst ((ke here L).map λq=>V.ref q.2))/\lx≠wt:=by
    by_cases hk:here∈cN B9
    ·obtain⟨b0,hb0,e0,v0⟩:=nZ hk;refine⟨b0.2.2,by rw[v0];rfl,by rw[<-e0];exact oc5.ls b0 hb0,λz=>?_⟩;have:=on9.ls b0 hb0;rw[z,B2.hw]at this;cases this
    ·refine⟨e5,by rw[m6 hk];rfl,?_,nw5⟩;have:ke here L=[]:=by
      unfold ke;refine fm.mpr λq1 hq1 z=>hk ?_;rw[<-aK z];exact on9.all q1 hq1
     rw[this];exact h5
   obtain⟨lx,elx,hlx,nlw⟩:=key;refine⟨_,eh.k (k:=Sum.inr here) oc5.ob,lx,elx,⟨_,SqL.of hlx⟩,fi (K:=K) (a:=lx) (xs:=(ke here L).map λq=>V.ref q.2) (λj σ' H'=>∃(G2:List Fd)(ws2:List Str)(v2 v3 v4:Option V),σ'=[some (.ref l),some (.str a),some (.ref od),some (.ref d),some (.ref wt),some (.str here),v2,v3,v4]/\BF H H' d wt TT a G2 ws2/\here∈cN G2/\
     (∀t∈TT,t.2.1∈cN G2->t.2.1∉ws2->t.2.1≠here->t.2.2∈cN G2)/\(∀t∈(ke here L).take j,t.1.2.2∈cN G2)/\2*(TT.length+1-G2.length)+ws2.length<m/\H' lx=some (.lst ((ke here L).map λq=>V.ref q.2)))
    ⟨G,rest,_,_,_,rfl,B3,hhere,λt ht h1 h2 h3=>cl t ht h1 (λz=>(bd.mp z).elim h3 h2),λt ht=>(nomatch ht),by rw[hm,bT];omega,hlx⟩ (λj σ' H' _ h=>?_) (λj v σ' H' hv h=>?_) (λσ' H' h=>?_)⟩
   ·obtain⟨_,_,_,_,_,_,b,_,_,_,_,hx⟩:=h;exact SqL.of hx
   ·obtain⟨G2,ws2,v2',v3',v4',rfl,b,hh,c1,c2,lt,hx⟩:=h;rw[ap]at hv;cases eq:(ke here L)[j]? with
    |none=>rw[eq]at hv;cases hv
    |some qq=>
     rw[eq]at hv;cases hv;obtain⟨hqL,hqh⟩:=bK.mp (ao eq);have eb:=aK hqh;have hqm:qq.1∈TT:=by rw[<-tr.1];exact aj.mpr ⟨qq,hqL,rfl⟩
     have hq:=b.same _ _ (tr.2 qq hqL);obtain⟨⟨nm,bg,en⟩,qa⟩:=qq;have tk:∀t∈(ke here L).take (j+1),t∈(ke here L).take j\/t=((nm,bg,en),qa):=λt ht=>by
      rw[bi,eq]at ht;rcases aw.mp ht with z|z
      ·exact .inl z
      ·exact .inr (ar.mp z)
     refine⟨qa,_,rfl,cG.of hq,rfl,_,_,rfl,_,_,rfl,_,_,rfl,rfl,?_⟩;refine⟨_,rfl,_,rfl,d,_,rfl,eh.k (k:=Sum.inr en) b.fd.ob,_,rfl,?_⟩;rw[wK];by_cases ek:en∈cN G2
     ·refine cq (by simp[ek]) ⟨G2,ws2,_,_,_,rfl,b,hh,c1,λt ht=>?_,lt,hx⟩;rcases tk t ht with z|rfl
      ·exact c2 t z
      ·exact ek
     ·refine dH (by simp[ek]) ?_;obtain⟨g,hg,eg,vg⟩:=nZ hh;have hgl:=b.fd.ws g hg;have hgf:=b.few;refine⟨_,rfl,_,rfl,d,.ref g.2.2,rfl,by rw[<-vg];exact eh.k (k:=Sum.inr here) b.fd.ob,_,rfl,(by show 1<=sizeLine;decide),λpn hpn=>?_⟩;have z1:=aU.new (o:=.lst [.str nm]) hpn;refine⟨g.2.2,pn,_,_,rfl,rfl,z1 _ _ hgl.1,ai,?_,λpp hpp=>?_⟩
      ·rw[ae];exact ay (show _+1<=100 by omega) Qd
      have z2:=z1.upd (o:=.lst (g.2.1.map V.str++[.str nm])) hpp;have ep:(upd (upd H' pn (.lst [.str nm])) pp (.lst (g.2.1.map V.str++[.str nm]))) pp=some (.lst ((g.2.1++[nm]).map V.str)):=by rw[ai,ah];rfl
      have hpp0:H' pp=none:=z1.free hpp;have bz:=b.up z2;have hxz:=z2 _ _ hx;generalize upd (upd H' pn (.lst [.str nm])) pp (.lst (g.2.1.map V.str++[.str nm]))=H6 at ep bz hxz;refine⟨_,rfl,_,rfl,d,_,rfl,lB.k (k:=Sum.inr en) bz.fd.ob (cT (by unfold jn;rw[ae];omega)),?_⟩;rw[gC _ (m6 ek)];have npd:pp≠d:=cU ep bz.fd.ob (by intro z;cases z);have nwd:wt≠d:=cU bz.wl bz.fd.ob (by intro z;cases z);have npw:pp≠wt:=λz=>by rw[z]at hpp0;rw[b.wl]at hpp0;cases hpp0
      have nxd:lx≠d:=cU hxz bz.fd.ob (by intro z;cases z);have hpH:H pp=none:=b.same.free hpp0;have ekv:jn G2++[((Sum.inr en:dU),V.ref pp)]=jn (G2++[(en,g.2.1++[nm],pp)]):=by unfold jn;rw[ah];rfl
      rw[ekv];have ewt:(upd H6 d (.dK (jn (G2++[(en,g.2.1++[nm],pp)])))) wt=some (.lst (ws2.map V.str)):=by rw[aV nwd];exact bz.wl
      have hwl:ws2.length<=100:=Qo;refine⟨_,rfl,.inl ⟨rfl,_,SqL.of ewt⟩,_,rfl,wt,_,_,rfl,rfl,ewt,cT (by rw[ae];omega),?_⟩;have kk:cN (G2++[(en,g.2.1++[nm],pp)])=cN G2++[en]:=by unfold cN;rw[ah];rfl
      refine⟨G2++[(en,g.2.1++[nm],pp)],ws2++[en],_,_,_,rfl,⟨λy ob z=>?_,⟨?_,λg' hg'=>?_,?_⟩,?_,b.hd,b.hw,λg' hg'=>?_,λx hx=>?_,?_,λx hx=>?_⟩,?_,λt ht h1 h2 h3=>?_,λt ht=>?_,?_,?_⟩
      ·rw[aV (aZ z b.hw),aV (aZ z b.hd)];exact bz.same _ _ z
      ·rw[aV nwd.symm];exact ai
      ·rw[aI];rcases aw.mp hg' with hg'|hg'
       ·have o1:=bz.fd.ws g' hg';refine⟨?_,o1.2.1,eM o1.2.2⟩;rw[aV (bz.fr g' hg').2,aV (cU o1.1 bz.fd.ob (by intro z;cases z))];exact o1.1
       ·cases ar.mp hg';refine⟨by rw[aV npw,aV npd];exact ep,.snoc (eg▸hgl.2.1) (eb▸hqm),?_⟩;show(g.2.1++[nm]).length <G2.length+1;rw[aI];show g.2.1.length+1<_;omega
      ·rw[kk];exact iY b.fd.nd ek
      ·rw[ai,ah];rfl
      ·rcases aw.mp hg' with hg'|hg'
       ·exact b.fr g' hg'
       ·cases ar.mp hg';exact⟨hpH,npw⟩
      ·rw[kk];rcases aw.mp hx with z|z
       ·exact bo _ (b.inw x z)
       ·exact bn _ z
      ·rw[kk];exact bo _ b.st
      ·rw[kk]at hx;rcases aw.mp hx with z|z
       ·exact b.sub x z
       ·rw[ar.mp z];exact aq _ (aj.mpr ⟨_,hqm,rfl⟩)
      ·rw[kk];exact bo _ hh
      ·rw[kk]at h1⊢;rcases aw.mp h1 with z|z
       ·exact bo _ (c1 t ht z (λy=>h2 (bo _ y)) h3)
       ·exact absurd (bn _ z) h2
      ·rw[kk];rcases tk t ht with z|rfl
       ·exact bo _ (c2 t z)
       ·exact bn _ au
      ·have hb2:G2.length<TT.length+1:=by
        have nd2:(cN G2++[en]).Nodup:=iY b.fd.nd ek;have:=iI nd2 (m:=a::TT.map (·.2.2)) (λx hx=>by
         rcases aw.mp hx with z|z
         ·exact b.sub x z
         ·rw[ar.mp z];exact aq _ (aj.mpr ⟨_,hqm,rfl⟩))
        have e1:(cN G2++[en]).length=G2.length+1:=by unfold cN;rw[aI,ae];rfl
        rw[e1,bT,ae]at this;omega
       rw[aI,aI];show 2*(TT.length+1-(G2.length+1))+(ws2.length+1)<m;omega
      ·rw[aV nlw,aV nxd];exact hxz
   ·obtain⟨G2,ws2,v2',v3',v4',rfl,b,hh,c1,c2,lt,hx⟩:=h;rw[ae,bf]at c2;refine⟨_,lt,G2,ws2,_,_,_,_,rfl,b,λt ht h1 h2=>?_,rfl,Qo⟩;by_cases e3:t.2.1=here
    ·rw[<-tr.1]at ht;obtain⟨q1,hq1,rfl⟩:=aj.mp ht;exact c2 q1 (bK.mpr ⟨hq1,af e3⟩)
    ·exact c1 t ht h1 h2 e3
end
end Net
namespace L2
open PySem PySem.Spec PyProof.Rows
theorem kU{X:Cx}{es:List Expr}{k:Nat}{t:Ek}{n:Nat}{pos:Pos}(K:ag)(hK:X.K=K)(hc:X.calm=true)(h:Gz X es t)
  (hn:(assignEach es X.env).length=n:=by rfl)(hst:(assignEach es X.env).findIdx? (·.1)=none:=by rfl):PG X (.Tuple es k pos) (Gh K n t):=by
 subst hK;exact ge hc h hn hst
end L2
namespace Net
open PySem L2
inductive Kd where
 |all
 |these(ns:List Str)
 |from_(a:Str)
 |to_(a:Str)
def jR(H:Hp)(t:Addr):Kd->Prop
 |.all=>H t=some (.tup [.str "all"])
 |.these ns=>∃l,H t=some (.tup [.str "these",.ref l])/\H l=some (.lst (ns.map V.str))
 |.from_ a=>H t=some (.tup [.str "from",.str a])
 |.to_ a=>H t=some (.tup [.str "to",.str a])
theorem jR.same{H H':Hp}{t:Addr}(s:aU H H'):∀{k:Kd},jR H t k->jR H' t k
 |.all,h=>s _ _ h
 |.these _,⟨l,h1,h2⟩=>⟨l,s _ _ h1,s _ _ h2⟩
 |.from_ _,h=>s _ _ h
 |.to_ _,h=>s _ _ h
def oz(S:NS):Kd->Prop
 |.all=>True
 |.these ns=>ns.length<=100/\∀x∈ns,x∈S.pl
 |.from_ a=>a∈S.pl
 |.to_ a=>a∈S.pl
structure fW(C:Addr)(H:Hp)(p ds dl:Addr)(S:NS):Prop where
 net:fF C H p ds dl S
 nd:S.nms.Nodup
 few:S.ti.length<=40
 fewP:S.pl.length<=20
 ndP:S.pl.Nodup
 okP:∀x∈S.pl,cE x=true
 okT:∀r∈S.ti,cE r.nm=true/\r.a∈S.pl/\r.b∈S.pl
theorem fW.same{C:Addr}{H H':Hp}{p ds dl:Addr}{S:NS}(s:aU H H')(h:fW C H p ds dl S):fW C H' p ds dl S:=⟨h.net.same s,h.nd,h.few,h.fewP,h.ndP,h.okP,h.okT⟩
def fb(pl ws:List Str):Bool:=(ws.all λx=>decide (x∈pl))&&decide ws.Nodup
def kX(T:List eS)(ws:List Str):Bool:=(T.filter λt=>decide (t.2.1∈ws)).all λt=>decide (t.2.2∈ws)
def withinK(S:NS)(k:Kd)(ws:List Str):Bool:=match k with
 |.all=>S.pl.all λx=>decide (x∈ws)
 |.these ns=>ns.all λx=>decide (x∈ws)
 |.from_ a=>decide (a∈ws)&&kX (eQ false S.ti) ws
 |.to_ a=>decide (a∈ws)&&kX (eQ true S.ti) ws
def ga(S:NS)(k:Kd)(ws:List Str):Bool:=fb S.pl ws&&withinK S k ws
def Dp(S:NS)(k:Kd)(x:Str)(ws:List Str):Bool:=match k with
 |.all=>ws.isEmpty
 |.these ns=>decide (x∈ns)&&ws.isEmpty
 |.from_ a=>decide (n_ S.ti a (.list (ws.map PyData.str))=some x)
 |.to_ a=>decide (n_ S.ti x (.list (ws.map PyData.str))=some a)
def Dq(S:NS)(k:Kd)(x:Str)(ws:List Str):Bool:=decide (x∈S.pl)&&Dp S k x ws
open Classical in
noncomputable def reachB (T:List eS) (a x:Str):Bool:=decide (∃ws,oP T a ws x)
noncomputable def inB (S:NS) (k:Kd) (x:Str):Bool:=match k with
 |.all=>true
 |.these ns=>decide (x∈ns)
 |.from_ a=>reachB (eQ false S.ti) a x
 |.to_ a=>reachB (eQ true S.ti) a x
noncomputable def membersD (S:NS) (k:Kd):List Str:=S.pl.filter λx=>inB S k x
open Classical in
theorem tf{H:Hp}{d:Addr}{T:List eS}{a:Str}{G:List Fd}(F:sr H d T a G)(h:a∈cN G)(c:qA T (cN G))(x:Str):reachB T a x=decide (x∈cN G):=by
 unfold reachB;by_cases e:x∈cN G
 ·rw[af e];obtain⟨g,hg,rfl⟩:=aj.mp e;exact af ⟨_,(F.ws g hg).2.1⟩
 ·rw[am e];exact am λ⟨ws,p⟩=>e (p.in_ c h)
theorem AD{ti:List dw}(nd:(ti.map (·.nm)).Nodup){r:dw}(h:r∈ti):pk ti r.nm=some r:=by
 induction ti with
 |nil=>exact nomatch h
 |cons q t ih=>
  have nd':q.nm∉t.map (·.nm)/\(t.map (·.nm)).Nodup:=bM.mp nd;unfold pk;rcases bd.mp h with rfl|h
  ·rw[kG Qs]
  ·have hne:¬q.nm=r.nm:=λz=>nd'.1 (aj.mpr ⟨r,h,z.symm⟩);rw[gK (by simpa using hne)];exact ih nd'.2 h
theorem xM{ti:List dw}(nd:(ti.map (·.nm)).Nodup){a:Str}{ws:List Str}{x:Str}(p:oP (eQ false ti) a ws x):∃l,stD ti a (ws.map PyData.str)=some l/\l.getLast?=some x:=by
 induction p with
 |nil=>exact⟨[a],rfl,rfl⟩
 | @snoc ws x nm y p h ih=>
  obtain⟨l,e1,e2⟩:=ih;obtain⟨r,hr,er⟩:=aj.mp h;have er':(r.nm,r.a,r.b)=(nm,x,y):=er;cases er';refine⟨l++[r.b],?_,Qs⟩;rw[ah];show stD ti a (ws.map PyData.str++[.str r.nm])=_;rw[qU e1 e2];show((pk ti r.nm).bind _).map _=_;rw[AD nd hr];show(if r.a=r.a then some r.b else none).map _=_;rw[bc rfl];rfl
theorem C9{ti:List dw}(nd:(ti.map (·.nm)).Nodup){a:Str}{ws:List Str}{x:Str}(p:oP (eQ true ti) a ws x):∃l,stD ti x (ws.reverse.map PyData.str)=some l/\l.getLast?=some a:=by
 induction p with
 |nil=>exact⟨[a],rfl,rfl⟩
 | @snoc ws x nm y p h ih=>
  obtain⟨l,e1,e2⟩:=ih;obtain⟨r,hr,er⟩:=aj.mp h;have er':(r.nm,r.b,r.a)=(nm,x,y):=er;cases er';refine⟨r.a::l,?_,?_⟩
  ·rw[List.reverse_append];show(kn ti r.a (.str r.nm)).bind (λz=>(stD ti z (ws.reverse.map PyData.str)).map (r.a:: ·))=_;have:kn ti r.a (.str r.nm)=some r.b:=by
    show(pk ti r.nm).bind _=_;rw[AD nd hr];show(if r.a=r.a then some r.b else none)=_;rw[bc rfl]
   rw[this,ig,e1];rfl
  ·have hne:=Ab e1;cases l with
   |nil=>exact absurd rfl hne
   |cons y ys=>rw[zO];exact e2
def pf:Sp:=λvs H Q _=>∃(sl l:Addr)(L:List (eS×Addr))(T:List eS)(ws:List Str),vs=[.ref sl,.ref l]/\H sl=some (.lst (L.map λq=>V.ref q.2))/\lw H L T/\T.length<=40/\H l=some (.lst (ws.map V.str))/\∀H',aU H H'->Q (.bl (kX T ws)) H'
def iE(C:Addr):Sp:=λvs H Q _=>∃(p ds dl kt:Addr)(S:NS)(k:Kd),vs=[.ref p,.ref kt]/\fW C H p ds dl S/\jR H kt k/\oz S k/\∀(l:Addr)(H':Hp),H l=none->aU H H'->H' l=some (.lst ((membersD S k).map V.str))->Q (.ref l) H'
section
variable{P:Program}{w:World}{K:ag}{mg:Str->Option Value}{base:Heap}{C:Addr}
structure Fg(mg:Str->Option Value):Prop where
 set:mg "set"=none
 rev:mg "reversed"=none
def pY:Sp:=λvs H Q _=>∃(l:Addr)(ws:List Str),vs=[.ref l]/\H l=some (.lst (ws.map V.str))/\ws.length<=1000/\∀H',aU H H'->Q (.bl (decide ws.Nodup)) H'
theorem AB:bG ["names"] ["names"] (aA s_are_unlike):=⟨rfl,rfl,rfl,Qk,rfl,Qk,Qk⟩
theorem Bl{f:Addr}{fd:FuncData}(F:fI K "are_unlike" "are_unlike" s_are_unlike f fd)(T:fo K mg C)(TS:Fg mg):FnOk P w K mg base fA 1 f fd ["names"] pY:=by
 refine F.ok AB (λvs H Q E h=>?_) (λcdv A outer s H vs Q E hr h=>?_)
 ·obtain⟨l,ws,rfl,_⟩:=h;rfl
 ·obtain⟨l,ws,rfl,hl,hn,q⟩:=h;refine⟨_,aS (bC (dJ d9 (pe_callB yY Qr T.len b_len (pa_cons (fT (yV rfl) Qr TS.set b_set (pa_cons (pv 0) pa_nil)) pa_nil)) (pe_callB call_len_seq Qr T.len b_len (pa_cons (pv 0) pa_nil)) (nomark _))),?_⟩;refine⟨_,rfl,l,ws,rfl,SqL.of hl,?_,λst hst=>?_⟩
  ·exact d7 (show ws.length+1<=1001 by omega) Qd
  have s3:=(aU.refl H).upd (o:=CK P w st ws) hst;refine⟨st,ws,rfl,ai,_,rfl,l,_,rfl,.inl (SqL.of (s3 _ _ hl)),rfl,?_⟩;have:=q _ s3;have e2:decide (V.int ((iN ws).length:Nat)=V.int ((ws.map V.str).length:Nat))=decide ws.Nodup:=by
   rw[ae,db,fJ,fJ,<-yR];constructor
   ·intro z;have z':(((iN ws).length:Nat):Int)=((ws.length:Nat):Int):=by injection z
    omega
   ·intro z;rw[z]
  rw[e2];exact this
theorem xG:bG ["net","paper"] ["net","paper"] (aA s_are_unlike_places):=⟨rfl,rfl,rfl,Qk,rfl,Qk,Qk⟩
theorem sX:bG ["steps","places"] ["steps","places"] (aA s_no_step_leaves):=⟨rfl,rfl,rfl,Qk,rfl,Qk,Qk⟩
theorem tI{f:Addr}{fd:FuncData}(F:fI K "no_step_leaves" "no_step_leaves" s_no_step_leaves f fd)(T:fo K mg C):FnOk P w K mg base fA 1 f fd ["steps","places"] pf:=by
 refine F.ok sX (λvs H Q E h=>?_) (λcdv A outer s H vs Q E hr h=>?_)
 ·obtain⟨sl,l,L,TT,ws,rfl,_⟩:=h;rfl
 ·obtain⟨sl,l,L,TT,ws,rfl,hsl,tr,few,hl,q⟩:=h;refine⟨_,aS (bC (pe_callB (gE rfl) Qr T.all mB (pa_cons (cW (N:=["name","begin","end","places"]) (xs:=3) (js:=[1]) rfl (bt rfl) (bU (pv 0))
    (λ_ _ _ _=>kU (n:=3) K Qr Qr (bq (be (i:=0) (show List.Nodup (["name","begin","end","places"]:List Str)by decide+kernel) rfl (aN rfl)) (bq (be (i:=1) (show List.Nodup (["name","begin","end","places"]:List Str)by decide+kernel) rfl (aN rfl)) (bq (be (i:=2) (show List.Nodup (["name","begin","end","places"]:List Str)by decide+kernel) rfl (aN rfl)) dI))))
    (λ_ _ _ _=>gb (bJ (ib K Qr) (pv 1) (pv 3) Qw)) (λ_ _ _ _=>dJ (ib K Qr) (pv 2) (pv 3) Qw)) pa_nil))),?_⟩
  refine⟨_,rfl,sl,rfl,⟨_,SqL.of hsl⟩,bW (K:=K) (ys:=L.map λq=>V.ref q.2) (λi acc σ' H'=>H'=H/\acc=(((TT.take i).filter λt=>decide (t.2.1∈ws)).map λt=>V.bl (decide (t.2.2∈ws)))/\∃o1 o2 o3,σ'=[o1,o2,o3,some (.ref l)])
   ⟨rfl,rfl,none,none,none,rfl⟩ (λi acc σ' H' h=>?_) ?_ (λi acc σ' H' _ h=>by rw[h.1];exact SqL.of hsl) (λi x acc σ' H' hx h=>?_) (λacc σ' H' h pp hpp=>?_)⟩
  ·rw[h.2.1,ae];exact ay (bu _ _) (by rw[aQ];omega)
  ·have e:L.length=TT.length:=by rw[<-tr.1,ae]
   rw[ae,e];exact ay few Qd
  ·obtain⟨rfl,rfl,o1,o2,o3,rfl⟩:=h;rw[ap]at hx;cases eq:L[i]? with
   |none=>rw[eq]at hx;cases hx
   |some qq=>
    rw[eq]at hx;cases hx;have et:TT[i]?=some qq.1:=by rw[<-tr.1,ap,eq];rfl
    have hq:=tr.2 qq (ao eq);obtain⟨⟨nm,bg,en⟩,qa⟩:=qq;refine⟨qa,_,rfl,cG.of hq,rfl,_,_,rfl,_,_,rfl,_,_,rfl,rfl,?_⟩;refine⟨_,rfl,_,rfl,l,ws.map V.str,rfl,.inl (SqL.of hl),rfl,cH _,_,rfl,?_⟩;have e1:(if false=true then !jm (.str bg) (ws.map V.str)else jm (.str bg) (ws.map V.str))=decide (bg∈ws):=dD bg ws;show if(if false=true then !jm (.str bg) (ws.map V.str)else jm (.str bg) (ws.map V.str))=true then _ else _;rw[e1];have ef:∀b,decide (bg∈ws)=b->((TT.take (i+1)).filter λt=>decide (t.2.1∈ws))=((TT.take i).filter λt=>decide (t.2.1∈ws))++(if b then [(nm,bg,en)]else []):=λb hb=>by
     rw[bi,et,d8];show _++List.filter _ [(nm,bg,en)]=_;cases b with
     |true=>rw[gz (by simpa using hb)];rfl
     |false=>rw[gA (by simpa using hb)];rfl
    by_cases hb:bg∈ws
    ·rw[af hb];refine dv ⟨_,rfl,_,rfl,l,ws.map V.str,rfl,.inl (SqL.of hl),rfl,cH _,rfl,?_,_,_,_,rfl⟩;rw[ef true (af hb),ah];show _++[V.bl (jm (.str en) (ws.map V.str))]=_;rw[dD];rfl
    ·rw[am hb];refine dz ⟨rfl,?_,_,_,_,rfl⟩;rw[ef false (am hb)];simp
  ·obtain⟨rfl,rfl,o1,o2,o3,rfl⟩:=h;have e:L.length=TT.length:=by rw[<-tr.1,ae]
   rw[ae,e,bf];refine⟨pp,(TT.filter λt=>decide (t.2.1∈ws)).map λt=>decide (t.2.2∈ws),rfl,SqL.of (by rw[ai,bm];rfl),?_⟩;have e2:((TT.filter λt=>decide (t.2.1∈ws)).map λt=>decide (t.2.2∈ws)).all id=kX TT ws:=by rw[f_];rfl
   rw[e2];exact q _ (aU.new hpp)
end
end Net
namespace Net
open PySem L2
theorem s_all_all:decide (V.str "all"=V.str "all")=true:=Qk
theorem s_these_all:decide (V.str "these"=V.str "all")=false:=Qk
theorem s_from_all:decide (V.str "from"=V.str "all")=false:=Qk
theorem s_to_all:decide (V.str "to"=V.str "all")=false:=Qk
theorem s_these_these:decide (V.str "these"=V.str "these")=true:=Qk
theorem s_from_these:decide (V.str "from"=V.str "these")=false:=Qk
theorem s_to_these:decide (V.str "to"=V.str "these")=false:=Qk
theorem s_from_from:decide (V.str "from"=V.str "from")=true:=Qk
theorem s_to_from:decide (V.str "to"=V.str "from")=false:=Qk
theorem s_from_to:decide (V.str "from"=V.str "to")=false:=Qk
theorem s_to_to:decide (V.str "to"=V.str "to")=true:=Qk
theorem BU:decide (("from":Str)="to")=false:=Qk
theorem Gq:decide (("to":Str)="to")=true:=Qk
section
variable{P:Program}{w:World}{K:ag}{mg:Str->Option Value}{base:Heap}{C:Addr}
theorem xF:bG ["net","kind","paper"] ["net","kind","paper"] (aA s_is_within):=⟨rfl,rfl,rfl,Qk,rfl,Qk,Qk⟩
theorem mq{H:Hp}{l:Addr}{ws:List Str}(h:H l=some (.lst (ws.map V.str)))(ok:∀x∈ws,cE x=true):PD H 1 (.ref l) (.list (ws.map PyData.str)):=.inl ⟨_,_,h,rfl,PD.strs ok⟩
end
end Net
namespace Net
open PySem L2
theorem dF{α:Type}{xs:List α}{i:Nat}{y:α}(f:α->Bool)(e:xs[i]?=some y){b:Bool}(h:f y=b):(xs.take (i+1)).filter f=(xs.take i).filter f++(if b then [y]else []):=by
 rw[bi,e,d8];show _++List.filter f [y]=_;cases b with
 |true=>rw[gz h];rfl
 |false=>rw[gA (by rw[h];decide)];rfl
theorem kY(S:NS):membersD S .all=S.pl:=List.filter_eq_self.mpr λ_ _=>rfl
theorem zY{C:Addr}{H:Hp}{p ds dl:Addr}{S:NS}(N:fW C H p ds dl S)(b:Bool):∀t∈eQ b S.ti,t.2.2∈S.pl:=λt ht=>by
 obtain⟨r,hr,rfl⟩:=aj.mp ht;cases b
 ·exact(N.okT r hr).2.2
 ·exact(N.okT r hr).2.1
open Classical in
structure Fi(H:Hp)(kt:Addr)(S:NS)(k:Kd)(b:Bool)(a wd:Str):Prop where
 tp:H kt=some (.tup [.str wd,.str a])
 nall:decide (V.str wd=V.str "all")=false
 nthese:decide (V.str wd=V.str "these")=false
 isto:decide (wd="to")=b
 istoV:decide (V.str wd=V.str "to")=b
 isfrV:decide (V.str wd=V.str "from")=!b
 ain:a∈S.pl
 mem:membersD S k=S.pl.filter λx=>reachB (eQ b S.ti) a x
 win:∀ws,withinK S k ws=(decide (a∈ws)&&kX (eQ b S.ti) ws)
 path:∀{ws:List Str}{x:Str},S.nms.Nodup->oP (eQ b S.ti) a ws x->x∈S.pl->Dq S k x (if b then ws.reverse else ws)=true
theorem Dv{H:Hp}{kt:Addr}{S:NS}:∀{k:Kd},jR H kt k->oz S k->k=.all \/(∃ns,k=.these ns)\/∃b a wd,Fi H kt S k b a wd
 |.all,_,_=>.inl rfl
 |.these _,_,_=>.inr (.inl ⟨_,rfl⟩)
 | .from_ a,h,o=>.inr (.inr ⟨false,a,"from",h,s_from_all,s_from_these,BU,s_from_to,s_from_from,o,rfl,λ_=>rfl,λnd p hx=>by
   obtain⟨l,e1,e2⟩:=xM nd p;show(decide (_∈S.pl)&&decide (n_ S.ti a (.list (List.map PyData.str _))=some _))=true;rw[af hx,jT];refine af ?_;rw[n8,aM aG,e1];exact e2⟩)
 | .to_ a,h,o=>.inr (.inr ⟨true,a,"to",h,s_to_all,s_to_these,Gq,s_to_to,s_to_from,o,rfl,λ_=>rfl,λnd p hx=>by
   obtain⟨l,e1,e2⟩:=C9 nd p;show(decide (_∈S.pl)&&decide (n_ S.ti _ (.list (List.map PyData.str _))=some a))=true;rw[af hx,jT];refine af ?_;rw[n8,bc rfl,e1];exact e2⟩)
section
variable{P:Program}{w:World}{K:ag}{mg:Str->Option Value}{base:Heap}{C:Addr}
theorem nw:bG ["net","kind","found"] ["net","kind"] (aA s_members_of):=⟨rfl,rfl,rfl,Qk,rfl,Qk,Qk⟩
theorem tJ{f:Addr}{fd:FuncData}(F:fI K "members_of" "members_of" s_members_of f fd)(T:fo K mg C)(cs:dc P w K mg base 2 "steps_of" ["net","word"] (pU C))(cb:dc P w K mg base 2 "steps_to_places" ["steps","a"] D6)
  (m1:gt P w K mg base 1 C "places" ["self"] (g_ C)):FnOk P w K mg base fA 3 f fd ["net","kind"] (iE C):=by
 refine F.ok nw (λvs H Q E h=>?_) (λcdv A outer s H vs Q E hr h=>?_)
 ·obtain⟨p,ds,dl,kt,S,k,rfl,_⟩:=h;rfl
 ·obtain⟨p,ds,dl,kt,S,k,rfl,N,hk,kok,q⟩:=h;have hu:=iL hr;have r1:c_ 1 _:=hr.mono Qd;have r2:c_ 2 _:=hr.mono Qd;have nd2:List.Nodup (["place","kind"]:List Str):=Qk;have nd3:List.Nodup (["place","found"]:List Str):=Qk;refine⟨_,ax (b9 (bJ d9 (bw bV (pv 1) aD (λ_ _=>Qr)) bQ (nomark _)) (aS (bC (cB (pv 0) T.cl m1 r1))) bF)
   (ax (b9 (bJ d9 (bw bV (pv 1) aD (λ_ _=>Qr)) bQ (nomark _)) (aS (bC (cW (N:=["place","kind"]) (xs:=1) (js:=[1]) rfl (bt rfl) (bU (cB (pv 0) T.cl m1 r1))
    (λ_ _ _ _=>be (i:=0) nd2 rfl (aN rfl)) (λ_ _ _ _=>gb (bJ (ib K Qr) (pv 0) (bw (cx K Qr) (pv 1) aD (λ_ _=>Qr)) Qw)) (λ_ _ _ _=>pv 0)))) bF)
   (ax (bH (i:=2) nw.nd rfl (iz rfl) (ba cb r2 Qr (pa_cons (ba cs hr Qr (pa_cons (pv 0) (pa_cons (bw bV (pv 1) aD (λ_ _=>Qr)) pa_nil))) (pa_cons (bw bV (pv 1) aD (λ_ _=>Qr)) pa_nil))))
   (aS (bC (cW (N:=["place","found"]) (xs:=1) (js:=[2]) rfl (bt rfl) (bU (cB (pv 0) T.cl m1 r1))
    (λ_ _ _ _=>be (i:=0) nd3 rfl (aN rfl)) (λ_ _ _ _=>gb (gc (lO hu (pv 0) (pv 1)) Qw)) (λ_ _ _ _=>pv 0)))))),?_⟩
  obtain⟨dx,h1⟩:=N.net.ob;rcases Dv hk kok with rfl|⟨ns,rfl⟩|⟨b,a,wd,v⟩
  ·refine⟨_,rfl,kt,_,_,.str "all",rfl,rfl,cG.of hk,rfl,rfl,_,rfl,dH s_all_all ?_⟩;refine⟨_,rfl,p,dx,_,rfl,h1,df ds dl Qk Qk,p,ds,dl,S,rfl,N.net,λpl hpl=>?_⟩;exact q pl _ hpl (aU.new hpl) (by rw[ai,kY])
  ·obtain⟨nl,g1,g2⟩:=hk;refine⟨_,rfl,kt,_,_,.str "these",rfl,rfl,cG.of g1,rfl,rfl,_,rfl,cq s_these_all ?_⟩;refine⟨_,rfl,kt,_,_,.str "these",rfl,rfl,cG.of g1,rfl,rfl,_,rfl,dH s_these_these ?_⟩;refine⟨_,rfl,p,dx,_,rfl,h1,df ds dl Qk Qk,p,ds,dl,S,rfl,N.net,λpl hpl=>⟨pl,rfl,⟨_,SqL.of ai⟩,?_⟩⟩;have s1:=aU.new (o:=.lst (S.pl.map V.str)) hpl;have e1:(upd H pl (.lst (S.pl.map V.str))) pl=some (.lst (S.pl.map V.str)):=ai;generalize upd H pl (.lst (S.pl.map V.str))=H1 at s1 e1;refine bW (K:=K) (ys:=S.pl.map V.str) (λi acc σ' H'=>H'=H1/\acc=(((S.pl.take i).filter λx=>decide (x∈ns)).map V.str)/\∃o,σ'=[o,some (.ref kt)])
    ⟨rfl,rfl,none,rfl⟩ (λi acc σ' H' h=>?_) ?_ (λi acc σ' H' _ h=>by rw[h.1];exact SqL.of e1) (λi x acc σ' H' hx h=>?_) (λacc σ' H' h pp hpp=>?_)
   ·rw[h.2.1,ae];exact ay (bu _ _) (by rw[aQ];omega)
   ·rw[ae];exact ay N.fewP Qd
   ·obtain⟨rfl,rfl,o,rfl⟩:=h;rw[ap]at hx;cases eq:S.pl[i]? with
    |none=>rw[eq]at hx;cases hx
    |some y=>
     rw[eq]at hx;cases hx;refine⟨_,rfl,_,rfl,kt,_,_,.ref nl,rfl,rfl,cG.of (s1 _ _ g1),rfl,nl,ns.map V.str,rfl,.inl (SqL.of (s1 _ _ g2)),rfl,cH _,_,rfl,?_⟩;have ei:(if false=true then !jm (.str y) (ns.map V.str)else jm (.str y) (ns.map V.str))=decide (y∈ns):=dD y ns;show if(if false=true then !jm (.str y) (ns.map V.str)else jm (.str y) (ns.map V.str))=true then _ else _;rw[ei];by_cases hb:y∈ns
     ·refine dH (af hb) ⟨_,rfl,rfl,?_,_,rfl⟩;rw[dF _ eq (af hb),ah];rfl
     ·refine cq (am hb) ⟨rfl,?_,_,rfl⟩;rw[dF _ eq (am hb),ah];exact(b_ _).symm
   ·obtain⟨rfl,rfl,o,rfl⟩:=h;rw[ae,bf];exact q pp _ (s1.free hpp) (s1.upd hpp) ai
  ·refine⟨_,rfl,kt,_,_,.str wd,rfl,rfl,cG.of v.tp,rfl,rfl,_,rfl,cq v.nall ?_⟩;refine⟨_,rfl,kt,_,_,.str wd,rfl,rfl,cG.of v.tp,rfl,rfl,_,rfl,cq v.nthese ?_⟩;refine⟨_,rfl,_,rfl,kt,_,_,.str wd,rfl,rfl,cG.of v.tp,rfl,p,ds,dl,S,wd,rfl,N.net,N.few,λsl H1 L hsl s1 tr esl=>?_⟩;rw[v.isto]at tr;refine⟨_,rfl,kt,_,_,.str a,rfl,rfl,cG.of (s1 _ _ v.tp),rfl,sl,L,_,a,rfl,esl,tr,by rw[jy];exact N.few,N.okP _ v.ain,λt ht=>N.okP _ (zY N b t ht),λd H2 G hd s2 fd hG hcl hln hfr=>?_⟩;have s02:=s1.trans s2;have N2:=N.same s02;obtain⟨dx2,h12⟩:=N2.net.ob;refine⟨_,rfl,p,dx2,_,rfl,h12,df ds dl Qk Qk,p,ds,dl,S,rfl,N2.net,λpl hpl=>⟨pl,rfl,⟨_,SqL.of ai⟩,?_⟩⟩;have s3:=s02.upd (o:=.lst (S.pl.map V.str)) hpl;have fd3:=fd.same (aU.new (o:=.lst (S.pl.map V.str)) hpl);have e1:(upd H2 pl (.lst (S.pl.map V.str))) pl=some (.lst (S.pl.map V.str)):=ai;generalize upd H2 pl (.lst (S.pl.map V.str))=H3 at s3 e1 fd3;refine bW (K:=K) (ys:=S.pl.map V.str) (λi acc σ' H'=>H'=H3/\acc=(((S.pl.take i).filter λx=>reachB (eQ b S.ti) a x).map V.str)/\∃o,σ'=[o,some (.ref d)])
    ⟨rfl,rfl,none,rfl⟩ (λi acc σ' H' h=>?_) ?_ (λi acc σ' H' _ h=>by rw[h.1];exact SqL.of e1) (λi x acc σ' H' hx h=>?_) (λacc σ' H' h pp hpp=>?_)
   ·rw[h.2.1,ae];exact ay (bu _ _) (by rw[aQ];omega)
   ·rw[ae];exact ay N.fewP Qd
   ·obtain⟨rfl,rfl,o,rfl⟩:=h;rw[ap]at hx;cases eq:S.pl[i]? with
    |none=>rw[eq]at hx;cases hx
    |some y=>
     rw[eq]at hx;cases hx;refine⟨_,rfl,_,rfl,d,_,rfl,eh.k (k:=Sum.inr y) fd3.ob,_,rfl,?_⟩;have er:=tf fd3 hG hcl y;rw[wK];by_cases hb:y∈cN G
     ·rw[af hb]at er;refine dH (af hb) ⟨_,rfl,rfl,?_,_,rfl⟩;rw[dF (λx=>reachB (eQ b S.ti) a x) eq er,ah];rfl
     ·rw[am hb]at er;refine cq (am hb) ⟨rfl,?_,_,rfl⟩;rw[dF (λx=>reachB (eQ b S.ti) a x) eq er,ah];exact(b_ _).symm
   ·obtain⟨rfl,rfl,o,rfl⟩:=h;rw[ae,bf,<-v.mem];exact q pp _ (s3.free hpp) (s3.upd hpp) ai
theorem xE:bG ["net","kind"] ["net","kind"] (aA s_within_paper):=⟨rfl,rfl,rfl,Qk,rfl,Qk,Qk⟩
theorem xO{f:Addr}{fd:FuncData}(F:fI K "within_paper" "within_paper" s_within_paper f fd)(cm:dc P w K mg base 3 "members_of" ["net","kind"] (iE C)):FnOk P w K mg base fA 4 f fd ["net","kind"] (iE C):=by
 refine F.ok xE (λvs H Q E h=>?_) (λcdv A outer s H vs Q E hr h=>?_)
 ·obtain⟨p,ds,dl,kt,S,k,rfl,_⟩:=h;rfl
 ·obtain⟨p,ds,dl,kt,S,k,rfl,N,hk,kok,q⟩:=h;refine⟨_,aS (bC (ba cm hr Qr (pa_cons (pv 0) (pa_cons (pv 1) pa_nil)))),?_⟩;exact⟨_,rfl,_,rfl,p,ds,dl,kt,S,k,rfl,N,hk,kok,q⟩
end
end Net
namespace Net
open PySem L2
def fO:List PyData->Option (List Str)
 |[]=>some []
 |.str x::r=>(fO r).map (x:: ·)
 |_::_=>none
def dZ:PyData->Option (List Str)
 |.list ds=>fO ds
 |_=>none
theorem ff:∀ws:List Str,fO (ws.map PyData.str)=some ws
 |[]=>rfl
 |x::r=>by
  show(fO (r.map PyData.str)).map (x:: ·)=_;rw[ff r];rfl
theorem jA:∀{ds:List PyData}{ws:List Str},fO ds=some ws->ds=ws.map PyData.str
 |[],ws,h=>by cases h;rfl
 |d::r,ws,h=>by
  cases d<;>first|(cases h;done)|skip
  rename_i x;have h':(fO r).map (x:: ·)=some ws:=h;cases e:fO r with
  |none=>rw[e]at h';cases h'
  |some w=>
   rw[e]at h';cases h';rw[jA e];rfl
def jj(pl:List Str):PyData->Bool
 |.str x=>decide (x∈pl)
 |_=>false
def bZ(pl:List Str)(d:PyData):Bool:=match dZ d with
 |some ws=>fb pl ws
 |none=>false
def e_(S:NS)(k:Kd)(d:PyData):Bool:=match dZ d with
 |some ws=>ga S k ws
 |none=>false
def Bx(S:NS)(k:Kd)(x:Str)(d:PyData):Bool:=match k with
 |.all=>PyData.eqv d (.list [])
 |.these ns=>decide (x∈ns)&&PyData.eqv d (.list [])
 |.from_ a=>decide (n_ S.ti a d=some x)
 |.to_ a=>decide (n_ S.ti x d=some a)
def wE(S:NS)(k:Kd)(x:Str)(d:PyData):Bool:=decide (x∈S.pl)&&Bx S k x d
theorem kN(S:NS)(k:Kd)(ws:List Str):e_ S k (.list (ws.map PyData.str))=ga S k ws:=by
 show(match fO (ws.map PyData.str)with|some ws=>ga S k ws|none=>false)=_;rw[ff]
theorem kQ(pl ws:List Str):bZ pl (.list (ws.map PyData.str))=fb pl ws:=by
 show(match fO (ws.map PyData.str)with|some ws=>fb pl ws|none=>false)=_;rw[ff]
theorem sI{S:NS}{k:Kd}{d:PyData}(h:bZ S.pl d=false):e_ S k d=false:=by
 unfold e_;unfold bZ at h;cases e:dZ d with
 |none=>rfl
 |some ws=>
  rw[e]at h;show ga S k ws=false;unfold ga;have h':fb S.pl ws=false:=h;rw[h'];rfl
theorem Hs(x y:Str):PyData.eqv (.str x) (.str y)=decide (x=y):=by
 by_cases h:x=y
 ·subst h;simp[PyData.eqv]
 ·simp[PyData.eqv,h]
theorem Ht{d:PyData}(x:Str)(h:GM d=false):PyData.eqv (.str x) d=false:=by
 cases d<;>first|rfl|cases h|simp[PyData.eqv]
theorem B8(d:PyData):∀pl:List Str,((pl.map PyData.str).any λy=>PyData.eqv y d)=jj pl d
 |[]=>by cases d<;>first|rfl|simp[jj]
 |y::r=>by
  rw[aF,ii,B8 d r];cases e:GM d with
  |true=>
   obtain⟨x,rfl⟩:∃x,d=.str x:=by cases d<;>first|exact⟨_,rfl⟩|cases e
   rw[Hs];show(decide (y=x)||decide (x∈r))=decide (x∈y::r);rw[db,Bool.or_eq_true,decide_eq_true_iff,decide_eq_true_iff,decide_eq_true_iff,bd];exact⟨λh=>h.imp Eq.symm id,λh=>h.imp Eq.symm id⟩
  |false=>
   rw[Ht y e];cases d<;>first|rfl|cases e
theorem B_{pl:List Str}:∀{ds:List PyData},ds.all (jj pl)=true->∃ws:List Str,ds=ws.map PyData.str/\∀x∈ws,x∈pl
 |[],_=>⟨[],rfl,λ_ h=>nomatch h⟩
 |d::r,h=>by
  rw[zK,dj]at h;obtain⟨ws,e,hw⟩:=B_ h.2;have h1:=h.1;cases d<;>first|(cases h1;done)|skip
  rename_i x;refine⟨x::ws,by rw[e];rfl,λy hy=>?_⟩;rcases bd.mp hy with rfl|hy
  ·exact aK h1
  ·exact hw y hy
theorem qM{pl:List Str}{ds:List PyData}(h:ds.all (jj pl)=false):bZ pl (.list ds)=false:=by
 unfold bZ;cases e:dZ (.list ds)with
 |none=>rfl
 |some ws=>
  have e':=jA (show fO ds=some ws from e);subst e';show fb pl ws=false;unfold fb;have h1:(ws.all λx=>decide (x∈pl))=false:=by
   rw[f_]at h;exact h
  rw[h1];rfl
theorem qb{H:Hp}{n:Nat}:∀{ws:List Str}{xs:List V},Paired (PD H n) xs (ws.map PyData.str)->xs=ws.map V.str
 |[],_,h=>by cases h;rfl
 |x::r,_,h=>by
  cases h with
  |cons h t=>
   obtain⟨y,rfl,e⟩:=h.str_of rfl;cases e;rw[qb t];rfl
theorem dY{H:Hp}{pl:List Str}{n:Nat}{v:V}{d:PyData}(pd:PD H n v d)(h:bZ pl d=true):∃(l:Addr)(ws:List Str),v=.ref l/\d=.list (ws.map PyData.str)/\H l=some (.lst (ws.map V.str))/\fb pl ws=true:=by
 unfold bZ at h;cases e:dZ d with
 |none=>rw[e]at h;cases h
 |some ws=>
  rw[e]at h;have h':fb pl ws=true:=h;cases d<;>first|(cases e;done)|skip
  rename_i ds;have e':=jA (show fO ds=some ws from e);subst e';obtain⟨m,l,xs,rfl,rfl,hl,p⟩:=pd.list_of;rw[qb p]at hl;exact⟨l,ws,rfl,rfl,hl,h'⟩
theorem CU{K:ag}{H:Hp}{l:Addr}{n:Nat}(h:H l=some (.lst [])):mH K H (n+2) (.ref l) (.list []):=.inl ⟨_,_,SqL.of h,rfl,.nil⟩
def nk(C:Addr):Sp:=λvs H Q _=>∃(p ds dl:Addr)(S:NS)(v:V)(n:Nat)(d:PyData),vs=[.ref p,v]/\fF C H p ds dl S/\(∀x∈S.pl,cE x=true)/\PD H n v d/\n<=50/\∀H',aU H H'->Q (.bl (jj S.pl d)) H'
def iD(C:Addr):Sp:=λvs H Q _=>∃(p ds dl:Addr)(S:NS)(v:V)(n:Nat)(d:PyData),vs=[.ref p,v]/\fF C H p ds dl S/\(∀x∈S.pl,cE x=true)/\PD H n v d/\n<=50/\(∀e,d=.list e->e.length<=1000)/\∀H',aU H H'->Q (.bl (bZ S.pl d)) H'
def pe(C:Addr):Sp:=λvs H Q _=>∃(p ds dl kt:Addr)(S:NS)(k:Kd)(v:V)(n:Nat)(d:PyData),vs=[.ref p,.ref kt,v]/\fW C H p ds dl S/\jR H kt k/\oz S k/\PD H n v d/\n<=50/\(∀e,d=.list e->e.length<=1000)/\∀H',aU H H'->Q (.bl (e_ S k d)) H'
section
variable{P:Program}{w:World}{K:ag}{mg:Str->Option Value}{base:Heap}{C:Addr}
theorem rg{f:Addr}{fd:FuncData}(F:fI K "is_place" "is_place" s_is_place f fd)(T:fo K mg C)(m1:gt P w K mg base 1 C "places" ["self"] (g_ C)):FnOk P w K mg base fA 2 f fd ["net","paper"] (nk C):=by
 refine F.ok sZ (λvs H Q E h=>?_) (λcdv A outer s H vs Q E hr h=>?_)
 ·obtain⟨p,ds,dl,S,v,n,d,rfl,_⟩:=h;rfl
 ·obtain⟨p,ds,dl,S,v,n,d,rfl,N,ok,pd,n50,q⟩:=h;have hu:=hr.units;refine⟨_,(aS (bC (dJ (EM hu) (pv 1) (cB (pv 0) T.cl m1 hr) Qw))),?_⟩;obtain⟨dx,h1⟩:=N.ob;refine⟨_,rfl,_,rfl,p,dx,_,rfl,h1,df ds dl Qk Qk,p,ds,dl,S,rfl,N,λl hl=>⟨n+1,d,S.pl.map PyData.str,Qo,((pd.same (aU.new hl)).mono 1).rd,?_,?_⟩⟩
  ·exact PD.rd (n:=n+1) (.inl ⟨_,_,ai,rfl,PD.strs ok⟩)
  ·show Q (.bl ((S.pl.map PyData.str).any λy=>PyData.eqv y d)) _;rw[B8];exact q _ (aU.new hl)
theorem tD{f:Addr}{fd:FuncData}(F:fI K "are_unlike_places" "are_unlike_places" s_are_unlike_places f fd)(T:fo K mg C)(TS:Fg mg)(c1:dc P w K mg base 2 "is_place" ["net","paper"] (nk C))(c2:dc P w K mg base 1 "are_unlike" ["names"] pY):FnOk P w K mg base fA 3 f fd ["net","paper"] (iD C):=by
 refine F.ok xG (λvs H Q E h=>?_) (λcdv A outer s H vs Q E hr h=>?_)
 ·obtain⟨p,ds,dl,S,v,n,d,rfl,_⟩:=h;rfl
 ·obtain⟨p,ds,dl,S,v,n,d,rfl,N,ok,pd,n50,blen,q⟩:=h;refine⟨_,ax (b9 (PW.pt (jg (dB (cY (pe_callB fj Qr T.isi ou (pa_cons (pv 1) (pa_cons (nE T.list Qr lV) pa_nil)))))
    (iS (dB (cY (pe_callB (gE rfl) Qr T.all mB (pa_cons (cW (N:=["part","net"]) (xs:=1) (js:=[0]) rfl (bt rfl) (bU (pv 1))
     (λ_ _ _ _=>be (i:=0) (show List.Nodup (["part","net"]:List Str)by decide+kernel) rfl (aN rfl)) (λ_ _ _ _=>cV) (λ_ _ _ _=>ba c1 hr Qr (pa_cons (pv 1) (pa_cons (pv 0) pa_nil)))) pa_nil))))))) (aS (bC jh)) bF)
   (aS (bC (ba c2 (hr.mono Qd) Qr (pa_cons (pv 1) pa_nil)))),?_⟩
  obtain⟨t,ty,kl,_⟩:=PD.ty (K:=K) pd;refine⟨_,rfl,v,"list",t,Gc d,rfl,ty,kl,_,rfl,?_⟩;cases el:Gc d with
  |false=>
   refine dv (dv ?_);have:=q H (aU.refl H);have e:bZ S.pl d=false:=by cases d<;>first|rfl|cases el
   rw[e]at this;exact this
  |true=>
   refine dz ?_;obtain⟨es,rfl⟩:∃e,d=.list e:=by cases d<;>first|exact⟨_,rfl⟩|cases el
   obtain⟨m,l,xs,rfl,rfl,hl,pr⟩:=pd.list_of;have hxl:xs.length=es.length:=Paired.length pr;have hle:=blen es rfl;refine⟨_,rfl,l,rfl,⟨_,SqL.of hl⟩,bW (K:=K) (ys:=xs) (λi acc σ' H'=>aU H H'/\acc=((es.take i).map λx=>V.bl (jj S.pl x))/\∃o,σ'=[o,some (.ref p)])
    ⟨aU.refl H,rfl,none,rfl⟩ (λi acc σ' H' h=>?_) (by rw[hxl];exact ay hle Qd) (λi acc σ' H' _ h=>SqL.of (h.1 _ _ hl)) (λi x acc σ' H' hx h=>?_) (λacc σ' H' h pp hpp=>?_)⟩
   ·rw[h.2.1,ae,aQ];omega
   ·obtain⟨s1,rfl,o,rfl⟩:=h;obtain⟨dy,hd,pdy⟩:=rc pr hx;refine⟨_,rfl,_,rfl,p,ds,dl,S,x,m,dy,rfl,N.same s1,ok,pdy.same s1,Qo,λH2 s2=>⟨s1.trans s2,?_,_,rfl⟩⟩;rw[bi,hd,ah];rfl
   ·obtain⟨s1,rfl,o,rfl⟩:=h;rw[hxl,bf];refine⟨pp,es.map λx=>jj S.pl x,rfl,SqL.of (by rw[ai,bm];rfl),?_⟩;have s2:=s1.upd (o:=.lst (es.map λx=>V.bl (jj S.pl x))) hpp;generalize upd H' pp (.lst (es.map λx=>V.bl (jj S.pl x)))=H2 at s2;have ea:(es.map λx=>jj S.pl x).all id=es.all (jj S.pl):=by rw[f_];rfl
    refine⟨_,rfl,?_⟩;rw[ea];cases e1:es.all (jj S.pl)with
    |false=>
     refine dv ?_;have:=q H2 s2;rw[qM e1]at this;exact this
    |true=>
     obtain⟨ws,rfl,hw⟩:=B_ e1;have hxs:=qb pr;subst hxs;have hn:ws.length<=1000:=by rw[ae]at hle;exact hle
     refine dz ⟨_,rfl,l,ws,rfl,s2 _ _ hl,hn,λH3 s3=>?_⟩;have:=q _ (s2.trans s3);rw[kQ]at this;unfold fb at this;have e1':(ws.all λx=>decide (x∈S.pl))=true:=ce.mpr λx hx=>af (hw x hx);rw[e1']at this;exact this
theorem tz{f:Addr}{fd:FuncData}(F:fI K "is_within" "is_within" s_is_within f fd)(T:fo K mg C)(cu:dc P w K mg base 3 "are_unlike_places" ["net","paper"] (iD C))(cs:dc P w K mg base 2 "steps_of" ["net","word"] (pU C))
  (cn:dc P w K mg base 1 "no_step_leaves" ["steps","places"] pf)(m1:gt P w K mg base 1 C "places" ["self"] (g_ C)):FnOk P w K mg base fA 4 f fd ["net","kind","paper"] (pe C):=by
 refine F.ok xF (λvs H Q E h=>?_) (λcdv A outer s H vs Q E hr h=>?_)
 ·obtain⟨p,ds,dl,kt,S,k,v,n,d,rfl,_⟩:=h;rfl
 ·obtain⟨p,ds,dl,kt,S,k,v,n,d,rfl,N,hk,kok,pd,n50,blen,q⟩:=h;have r1:c_ 1 _:=hr.mono Qd;have r2:c_ 2 _:=hr.mono Qd;have nd2:List.Nodup (["place","paper"]:List Str):=Qk;refine⟨_,ax (b9 (dB (cY (ba cu hr Qr (pa_cons (pv 0) (pa_cons (pv 2) pa_nil))))) (aS (bC jh)) bF)
   (ax (b9 (bJ d9 (bw bV (pv 1) aD (λ_ _=>Qr)) bQ (nomark _)) (aS (bC (pe_callB (gE rfl) Qr T.all mB (pa_cons (cW (N:=["place","paper"]) (xs:=1) (js:=[2]) rfl (bt rfl) (bU (cB (pv 0) T.cl m1 r1))
    (λ_ _ _ _=>be (i:=0) nd2 rfl (aN rfl)) (λ_ _ _ _=>cV) (λ_ _ _ _=>dJ (ib K Qr) (pv 0) (pv 1) Qw)) pa_nil)))) bF)
   (ax (b9 (bJ d9 (bw bV (pv 1) aD (λ_ _=>Qr)) bQ (nomark _)) (aS (bC (pe_callB (gE rfl) Qr T.all mB (pa_cons (cW (N:=["place","paper"]) (xs:=1) (js:=[2]) rfl (bt rfl) (bU (bw bV (pv 1) aD (λ_ _=>Qr)))
    (λ_ _ _ _=>be (i:=0) nd2 rfl (aN rfl)) (λ_ _ _ _=>cV) (λ_ _ _ _=>dJ (ib K Qr) (pv 0) (pv 1) Qw)) pa_nil)))) bF)
   (aS (bC (iV (dJ gZ (bw bV (pv 1) aD (λ_ _=>Qr)) (pv 2) Qw) (iU (ba cn r1 Qr (pa_cons (ba cs r2 Qr (pa_cons (pv 0) (pa_cons (bw bV (pv 1) aD (λ_ _=>Qr)) pa_nil))) (pa_cons (pv 2) pa_nil))))))))),?_⟩
  refine⟨_,rfl,_,rfl,p,ds,dl,S,v,n,d,rfl,N.net,N.okP,pd,n50,blen,λH1 s1=>⟨_,rfl,?_⟩⟩;cases eu:bZ S.pl d with
  |false=>
   refine dv ?_;have:=q H1 s1;rw[sI eu]at this;exact this
  |true=>
   refine dz ?_;obtain⟨l,ws,rfl,rfl,hl,eu⟩:=dY pd eu;rw[kN]at q;have hk1:=hk.same s1;have N1:=N.same s1;have hl1:=s1 _ _ hl;have fin:∀{b:Bool}{H2:Hp},aU H1 H2->ga S k ws=b->Q (.bl b) H2:=λs2 e=>by
    have z:=q _ (s1.trans s2);rw[e]at z;exact z
   have wb:ga S k ws=withinK S k ws:=by unfold ga;rw[eu];rfl
   have alls:∀(H2:Hp)(src:Addr)(xs:List Str),aU H1 H2->H2 src=some (.lst (xs.map V.str))->xs.length<=100->ga S k ws=(xs.all λx=>decide (x∈ws))->
     gh 1 [2] (rO 0) uV (FC (FY K false) (CB 0) (CB 1)) [some (.ref p),some (.ref kt),some (.ref l)] (λv H3=>∃(p:Addr)(bs:List Bool),[v]=[.ref p]/\SqL K H3 p (bs.map V.bl)/\Q (.bl (bs.all id)) H3) (El K src) H2:=λH2 src xs s2 hsrc hx hb=>by
    refine bW (K:=K) (ys:=xs.map V.str) (λi acc σ' H'=>H'=H2/\acc=((xs.take i).map λx=>V.bl (decide (x∈ws)))/\∃o,σ'=[o,some (.ref l)])
     ⟨rfl,rfl,none,rfl⟩ (λi acc σ' H' h=>?_) ?_ (λi acc σ' H' _ h=>by rw[h.1];exact SqL.of hsrc) (λi x acc σ' H' hx h=>?_) (λacc σ' H' h pp hpp=>?_)
    ·rw[h.2.1,ae,aQ];omega
    ·rw[ae];exact ay hx Qd
    ·obtain⟨rfl,rfl,o,rfl⟩:=h;rw[ap]at hx;cases eq:xs[i]? with
     |none=>rw[eq]at hx;cases hx
     |some y=>
      rw[eq]at hx;cases hx;refine⟨_,rfl,_,rfl,l,ws.map V.str,rfl,.inl (SqL.of (s2 _ _ hl1)),rfl,cH _,rfl,?_,_,rfl⟩;rw[bi,eq,ah];show _++[V.bl (jm (.str y) (ws.map V.str))]=_;rw[dD];rfl
    ·obtain⟨rfl,rfl,o,rfl⟩:=h;rw[ae,bf];refine⟨pp,xs.map λx=>decide (x∈ws),rfl,SqL.of (by rw[ai,bm];rfl),fin (s2.upd hpp) ?_⟩;rw[hb,f_];rfl
   cases k with
   |all=>
    refine⟨_,rfl,kt,_,_,.str "all",rfl,rfl,cG.of hk1,rfl,rfl,_,rfl,dH s_all_all ?_⟩;obtain⟨dx,h1⟩:=N1.net.ob;refine⟨_,rfl,p,dx,_,rfl,h1,df ds dl Qk Qk,p,ds,dl,S,rfl,N1.net,λpl hpl=>⟨pl,rfl,⟨_,SqL.of ai⟩,?_⟩⟩;exact alls _ pl S.pl (aU.new hpl) ai (ay N.fewP Qd) wb
   |these ns=>
    obtain⟨nl,g1,g2⟩:=hk1;refine⟨_,rfl,kt,_,_,.str "these",rfl,rfl,cG.of g1,rfl,rfl,_,rfl,cq s_these_all ?_⟩;refine⟨_,rfl,kt,_,_,.str "these",rfl,rfl,cG.of g1,rfl,rfl,_,rfl,dH s_these_these ?_⟩;refine⟨_,rfl,kt,_,_,.ref nl,rfl,rfl,cG.of g1,rfl,nl,rfl,⟨_,SqL.of g2⟩,?_⟩;exact alls _ nl ns (aU.refl _) g2 kok.1 wb
   |from_ a=>
    refine⟨_,rfl,kt,_,_,.str "from",rfl,rfl,cG.of hk1,rfl,rfl,_,rfl,cq s_from_all ?_⟩;refine⟨_,rfl,kt,_,_,.str "from",rfl,rfl,cG.of hk1,rfl,rfl,_,rfl,cq s_from_these ?_⟩;refine⟨_,rfl,kt,_,_,.str a,rfl,rfl,cG.of hk1,rfl,_,rfl,l,ws.map V.str,rfl,.inl (SqL.of hl1),rfl,cH _,_,rfl,?_⟩;show if jm (.str a) (ws.map V.str)=true then _ else _;rw[dD];by_cases ea:a∈ws
    ·refine dH (af ea) ⟨_,rfl,_,rfl,kt,_,_,.str "from",rfl,rfl,cG.of hk1,rfl,p,ds,dl,S,"from",rfl,N1.net,N.few,λsl H2 L hsl s2 tr esl=>?_⟩;rw[BU]at tr;refine⟨_,rfl,sl,l,L,_,ws,rfl,esl,tr,by rw[jy];exact N.few,s2 _ _ hl1,λH3 s3=>fin (s2.trans s3) ?_⟩;rw[wb];show(decide (a∈ws)&&_)=_;rw[af ea];rfl
    ·refine cq (am ea) (fin (aU.refl _) ?_);rw[wb];show(decide (a∈ws)&&_)=_;rw[am ea];rfl
   |to_ a=>
    refine⟨_,rfl,kt,_,_,.str "to",rfl,rfl,cG.of hk1,rfl,rfl,_,rfl,cq s_to_all ?_⟩;refine⟨_,rfl,kt,_,_,.str "to",rfl,rfl,cG.of hk1,rfl,rfl,_,rfl,cq s_to_these ?_⟩;refine⟨_,rfl,kt,_,_,.str a,rfl,rfl,cG.of hk1,rfl,_,rfl,l,ws.map V.str,rfl,.inl (SqL.of hl1),rfl,cH _,_,rfl,?_⟩;show if jm (.str a) (ws.map V.str)=true then _ else _;rw[dD];by_cases ea:a∈ws
    ·refine dH (af ea) ⟨_,rfl,_,rfl,kt,_,_,.str "to",rfl,rfl,cG.of hk1,rfl,p,ds,dl,S,"to",rfl,N1.net,N.few,λsl H2 L hsl s2 tr esl=>?_⟩;rw[Gq]at tr;refine⟨_,rfl,sl,l,L,_,ws,rfl,esl,tr,by rw[jy];exact N.few,s2 _ _ hl1,λH3 s3=>fin (s2.trans s3) ?_⟩;rw[wb];show(decide (a∈ws)&&_)=_;rw[af ea];rfl
    ·refine cq (am ea) (fin (aU.refl _) ?_);rw[wb];show(decide (a∈ws)&&_)=_;rw[am ea];rfl
end
end Net
namespace Net
open PySem L2
def dm(ns:List Int)(k:Int):Int:=(ns[k.toNat]?).getD 0
def pX(K:ag):Sp:=λvs H Q _=>∃(a:Addr)(ns:List Int)(k:Int),vs=[.ref a,.int k]/\SqL K H a (ns.map V.int)/\0<=k/\Q (.int (dm ns k)) H
def bL(c:Int):List Nat:=(List.range (1+c%7).toNat).map λ(j:Nat)=>97+((c/7+(j:Int)*(j:Int))%26).toNat
def lat(c:Int):Nat:=(c/182%((bL c).length:Int)).toNat
def nR(c k:Int):List Nat:=(bL c).take (lat c)++[97+((c/1274+k)%26).toNat]++(bL c).drop (lat c+1)
def kJ(c k:Int):Str:=⟨(nR c k).toArray⟩
def vG:Sp:=λvs H Q _=>∃(c k:Int),vs=[.int c,.int k]/\0<=k/\Q (.str (kJ c k)) H
theorem qv(c:Int):1<=(bL c).length/\(bL c).length<=7:=by
 unfold bL;rw[ae,List.length_range];have h1:=cK c (by decide:(7:Int)≠0);have h2:=dh c (by decide:(0:Int)<7);omega
theorem tX(c:Int):lat c<(bL c).length:=by
 unfold lat;have h:=(qv c).1;have h1:=cK (c/182) (by omega:((bL c).length:Int)≠0);have h2:=dh (c/182) (by omega:(0:Int)<((bL c).length:Int));omega
theorem F7(z:Int):(z%26).toNat <26/\(((z%26).toNat:Nat):Int)=z%26:=by
 have h1:=cK z (by decide:(26:Int)≠0);have h2:=dh z (by decide:(0:Int)<26);omega
theorem si(c:Int):∀x∈bL c,97<=x/\x<=122:=λx hx=>by
 obtain⟨j,_,rfl⟩:=aj.mp hx;have:=(F7 (c/7+(j:Int)*j)).1;omega
theorem rF(c k:Int):(nR c k).length=(bL c).length:=by
 have:=tX c;unfold nR;simp only[aI,aQ,ki,lE];omega
theorem rE(c k:Int):cE (kJ c k)=true:=by
 have h1:(kJ c k).length=(bL c).length:=by
  show(nR c k).toArray.size=_;rw[bv,rF]
 obtain⟨a,b⟩:=qv c;unfold cE;rw[h1,af Qo,af Qo];simp only[jT,ce];intro x hx;have hs:97<=x/\x<=122:=by
  have hx':x∈nR c k:=hx;unfold nR at hx';rcases aw.mp hx' with h|h
  ·rcases aw.mp h with h|h
   ·exact si c x (ik h)
   ·have e:x=97+((c/1274+k)%26).toNat:=by simpa using h
    have:=(F7 (c/1274+k)).1;omega
  ·exact si c x (DT h)
 unfold nr;rw[af hs.1,af hs.2];rfl
theorem ql{c i j:Int}(hi:0<=i)(hi':i<26)(hj:0<=j)(hj':j<26)(e:kJ c i=kJ c j):i=j:=by
 have e':nR c i=nR c j:=by
  have:=b6 (λs:Str=>s.cps.toList) e;simpa[kJ]using this
 have h:∀n,(nR c n)[lat c]?=some (97+((c/1274+n)%26).toNat):=by
  intro n;have:=tX c;unfold nR;rw[oY,fR (by rw[aQ];omega)];simp[aQ,Nat.min_eq_left (fZ this)]
 have h1:=h i;rw[e',h j]at h1;have:=Option.some.inj h1;have a1:=(F7 (c/1274+i)).2;have a2:=(F7 (c/1274+j)).2;omega
theorem Ca(z:Int):wS zA.cps.toList (z%26)=some (97+(z%26).toNat):=by
 obtain⟨h1,h2⟩:=F7 z;have:=fz (DI h1);rw[h2]at this;exact this
theorem uX{x y:Str}(h:x.cps.toList=y.cps.toList):x=y:=by
 obtain⟨a⟩:=x;obtain⟨b⟩:=y;exact b6 Str.mk (Array.toList_inj.mp h)
section
variable{P:Program}{w:World}{K:ag}{mg:Str->Option Value}{base:Heap}{C:Addr}
theorem Bf{f:Addr}{fd:FuncData}(F:fI K "_law_cell_at" "_law_cell_at" s_l_cell_at f fd)(T:fo K mg C):FnOk P w K mg base fA 1 f fd ["_law_script","_law_k"] (pX K):=by
 refine F.ok CS (λvs H Q E h=>?_) (λcdv A outer s H vs Q E hr h=>?_)
 ·obtain⟨a,ns,k,rfl,_⟩:=h;rfl
 ·obtain⟨a,ns,k,rfl,hS,hk,q⟩:=h;refine⟨_,ax (b9 (bJ A3 (pv 1) (pe_callB call_len_seq Qr T.len b_len (pa_cons (pv 0) pa_nil)) (nomark _)) (aS (bC (bw cP (pv 0) (pv 1) (λ_ _=>rfl)))) bF) (aS (bC aD)),?_⟩;obtain⟨n,rfl⟩:=Int.eq_ofNat_of_zero_le hk;have ec:dm ns n=(ns[n]?).getD 0:=rfl;refine⟨_,rfl,_,rfl,a,_,rfl,.inl hS,_,_,rfl,rfl,_,rfl,oK (λh=>?_) (λh=>?_)⟩
  ·have hn:n<ns.length:=by
    have:=aK h;rw[ae]at this;omega
   have e:dm ns n=ns[n]:=by rw[ec,a_ hn];rfl
   rw[e]at q;exact⟨_,rfl,_,rfl,a,_,_,_,rfl,rfl,hS,fz (v:=V.int ns[n]) (by simp[hn]),q⟩
  ·have hn:¬n<ns.length:=λz=>h (af (by rw[ae];omega));have e:dm ns n=0:=by rw[ec,lG Qo];rfl
   rw[e]at q;exact q
abbrev Fo:List Str:=["_law_cell","_law_k","_law_letters","_law_found","_law_j","_law_at"]
theorem iF:bG Fo ["_law_cell","_law_k"] (aA s_l_name):=⟨rfl,rfl,rfl,Qk,rfl,Qk,Qk⟩
theorem Ba{f:Addr}{fd:FuncData}(F:fI K "_law_name" "_law_name" s_l_name f fd)(T:fo K mg C):FnOk P w K mg base fA 1 f fd ["_law_cell","_law_k"] vG:=by
 refine F.ok iF (λvs H Q E h=>?_) (λcdv A outer s H vs Q E hr h=>?_)
 ·obtain⟨c,k,rfl,_⟩:=h;rfl
 ·obtain⟨c,k,rfl,hk,q⟩:=h;refine⟨_,(ax (bH (i:=2) iF.nd rfl (aN rfl) bQ)
   (ax (bH (i:=3) iF.nd rfl (aN rfl) bQ)
   (ax (fg PassesOwn.never rfl (j3 rfl T.range (pa_cons (bP dG aD (bP dP (pv 0) aD)) pa_nil)) (be (i:=4) iF.nd rfl (aN rfl))
    (aS (bH (i:=3) iF.nd rfl (aN rfl) (bP iX (pv 3) (bw tY (pv 2) (bP dP (bP dG (bP fq (pv 0) aD) (bP nJ (pv 4) (pv 4))) aD) (λ_ _=>rfl))))))
   (ax (bH (i:=5) iF.nd rfl (aN rfl) (bP dP (bP fq (pv 0) aD) (pe_callB ln Qr T.len b_len (pa_cons (pv 3) pa_nil))))
   (aS (bC (bP iX (bP iX (jC Al (pv 3) p_ (iT (pv 5))) (bw tY (pv 2) (bP dP (bP dG (bP fq (pv 0) aD) (pv 1)) aD) (λ_ _=>rfl))) (jC Al (pv 3) (iT (bP dG (pv 5) aD)) p_)))))))),?_⟩
  have hl:zA.length=26:=Qk;have h71:=cK c (by decide:(7:Int)≠0);have h72:=dh c (by decide:(0:Int)<7);have bl:(bL c).length=(1+c%7).toNat:=by unfold bL;rw[ae,List.length_range]
  obtain⟨b1,b2⟩:=qv c;have l4:∀x y:Str,(x++y).length=x.length+y.length:=λx y=>Array.size_append;refine⟨_,rfl,_,_,rfl,rfl,(by show(0:Int)<7;decide),_,_,rfl,rfl,_,rfl,Qo,Qo,pG (λi σ' H'=>i<=(bL c).length/\H'=H/\∃o,σ'=[some (.int c),some (.int k),some (.str zA),some (.str ⟨((bL c).take i).toArray⟩),o,none])
   ⟨bO _,rfl,none,rfl⟩ (λi σ' H' hi h=>?_) (λσ' H' h=>?_)⟩
  ·obtain⟨h0,rfl,o,rfl⟩:=h;rw[<-bl]at hi;have ei:(bL c)[i]?=some (97+((c/7+(i:Int)*i)%26).toNat):=by
    have:i<(1+c%7).toNat:=Qo;unfold bL;rw[ap,mL this];rfl
   have s1:(⟨((bL c).take i).toArray⟩:Str).length=i:=by
    show((bL c).take i).toArray.size=i;rw[bv,aQ];omega
   have s26:(26:Nat)<=sizeLine:=Qd;refine⟨_,rfl,_,rfl,_,rfl,_,_,rfl,rfl,⟨Qd,Qd⟩,_,rfl,_,rfl,_,_,rfl,rfl,.inl ⟨Qo,Qo⟩,_,_,rfl,rfl,_,_,rfl,rfl,(by show(0:Int)<26;decide),zA,_,_,rfl,rfl,(by rw[hl];decide),Ca _,_,_,rfl,rfl,?_,?_⟩
   ·rw[s1];show i+1<=sizeLine;omega
   ·refine⟨Qo,rfl,some (.int ((0:Int)+i)),?_⟩;have e:(⟨((bL c).take i).toArray⟩:Str)++(⟨#[97+((c/7+((0:Int)+i)*((0:Int)+i))%26).toNat]⟩:Str)=⟨((bL c).take (i+1)).toArray⟩:=by
     refine uX ?_;show(((bL c).take i).toArray++#[97+((c/7+((0:Int)+i)*((0:Int)+i))%26).toNat]).toList=((bL c).take (i+1)).toArray.toList;rw[mN,bi,ei,Int.zero_add];rfl
    rw[<-e];rfl
  ·obtain⟨h0,rfl,o,rfl⟩:=h;rw[<-bl,bf];have hf:(⟨(bL c).toArray⟩:Str).length=(bL c).length:=bv;have s26:(26:Nat)<=sizeLine:=Qd;have l1:∀a b,(Txt.slice ⟨(bL c).toArray⟩ a b).length<=7:=λa b=>ay (Txt.slice_le _ _ _) (by rw[hf];exact b2);refine⟨_,rfl,_,_,rfl,rfl,⟨Qd,Qd⟩,_,rfl,_,rfl,(by rw[hf];omega),_,_,rfl,rfl,(by rw[hf];omega),?_⟩;have la:c/182%((⟨(bL c).toArray⟩:Str).length:Int)=((lat c:Nat):Int):=by
    have h1:=cK (c/182) (by omega:((bL c).length:Int)≠0);unfold lat;rw[hf,Int.toNat_of_nonneg h1]
   refine⟨_,rfl,_,rfl,_,rfl,_,rfl,(by rw[hf];omega),_,rfl,_,rfl,_,_,rfl,rfl,⟨Qd,Qd⟩,_,rfl,_,_,rfl,rfl,_,_,rfl,rfl,(by show(0:Int)<26;decide),zA,_,_,rfl,rfl,(by rw[hl];decide),Ca _,_,_,rfl,rfl,?_,_,rfl,_,rfl,_,_,rfl,rfl,_,rfl,_,rfl,(by rw[hf];omega),_,_,rfl,rfl,?_,?_⟩
   ·have:=l1 none (some (c/182%((⟨(bL c).toArray⟩:Str).length:Int)));show _+1<=sizeLine;omega
   ·rw[l4];have x1:=l1 none (some (c/182%((⟨(bL c).toArray⟩:Str).length:Int)));have x2:=l1 (some (c/182%((⟨(bL c).toArray⟩:Str).length:Int)+1)) none;show _+1+_<=sizeLine;omega
   ·have e:Txt.slice ⟨(bL c).toArray⟩ none (some (c/182%((⟨(bL c).toArray⟩:Str).length:Int)))++(⟨#[97+((c/1274+k)%26).toNat]⟩:Str)++Txt.slice ⟨(bL c).toArray⟩ (some (c/182%((⟨(bL c).toArray⟩:Str).length:Int)+1)) none=kJ c k:=by
     refine uX ?_;show((Txt.slice ⟨(bL c).toArray⟩ none (some (c/182%((⟨(bL c).toArray⟩:Str).length:Int)))).cps++#[97+((c/1274+k)%26).toNat]++(Txt.slice ⟨(bL c).toArray⟩ (some (c/182%((⟨(bL c).toArray⟩:Str).length:Int)+1)) none).cps).toList=_;rw[mN,mN,la,Ak];have:=sS (⟨(bL c).toArray⟩:Str) (a:=lat c+1) (by rw[hf];exact tX c);rw[show((lat c:Nat):Int)+1=((lat c+1:Nat):Int)from rfl,this];rfl
    rw[<-e]at q;exact q
end
end Net
namespace Net
open PySem L2
structure iO(S:NS):Prop where
 ndP:S.pl.Nodup
 lenP:S.pl.length<=6
 neP:1<=S.pl.length
 okP:∀x∈S.pl,cE x=true
 ndT:S.nms.Nodup
 lenT:S.ti.length<=10
 okT:∀r∈S.ti,cE r.nm=true/\r.a∈S.pl/\r.b∈S.pl
 neT:∀r∈S.ti,¬r.a=r.b/\1<=r.w
 okC:∀r∈S.ti,-4<=r.c/\r.c<=4
structure ir(H:Hp)(pa ta:Addr)(S:NS):Prop where
 pl:H pa=some (.lst (S.pl.map V.str))
 ti:∃L,Rows H L S.ti/\H ta=some (.lst (L.map λq=>V.ref q.2))
theorem ir.same{H H':Hp}{pa ta:Addr}{S:NS}(s:aU H H')(h:ir H pa ta S):ir H' pa ta S:=⟨s _ _ h.pl,let⟨L,a,b⟩:=h.ti;⟨L,a.same s,s _ _ b⟩⟩
def vA(K:ag):Sp:=λvs H Q _=>∃(a:Addr)(ns:List Int),vs=[.ref a]/\SqL K H a (ns.map V.int)/\
 ∀(t pa ta:Addr)(S:NS)(H':Hp),aU H H'->H' t=some (.tup [.ref pa,.ref ta])->ir H' pa ta S->iO S->(∀r∈S.ti,r.w<=4)->(∀r∈S.ti,∃c k,r.nm=kJ c k)->Q (.ref t) H'
structure Fh(mg:Str->Option Value):Prop where
 max:mg "max"=none
 enum:mg "enumerate"=none
theorem Gv:bootBuiltins "max"=some (.builtin "max"):=Qk
def qj(c:Int)(n:Nat):List Str:=(List.range n).map λ(j:Nat)=>kJ c (j:Int)
theorem yD(c:Int){n:Nat}(h:n<=26):(qj c n).Nodup:=by
 unfold qj List.Nodup;rw[eN];refine List.Pairwise.imp_of_mem (λ{a b}ha hb hne e=>hne ?_) List.nodup_range;have h1:=gI.mp ha;have h2:=gI.mp hb;have:=ql (c:=c) (i:=(a:Int)) (j:=(b:Int)) Qo Qo Qo Qo e;omega
theorem qi(c:Int){n j:Nat}(h:j<n):(qj c n)[j]?=some (kJ c (j:Int)):=by
 unfold qj;rw[ap,mL h];rfl
theorem BB(c:Int){n j:Nat}(h:j<n):wS ((qj c n).map V.str) (j:Int)=some (V.str (kJ c (j:Int))):=fz (by rw[ap,qi c h];rfl)
theorem jN(z:Int){n:Nat}(h:1<=n):∃j:Nat,j<n/\z%(n:Int)=(j:Int):=by
 have h1:=cK z (by omega:(n:Int)≠0);have h2:=dh z (by omega:(0:Int)<(n:Int));exact⟨(z%(n:Int)).toNat,Qo,Qo⟩
theorem wR(xs:List V){a b:Nat}(h:a<=b):(jP xs (some (a:Int)) (some (b:Int))).length<=b-a:=by
 unfold jP;rw[HT.vL,HT.vL,aQ];omega
theorem r_{ns:List Int}{a b:Option Int}:∀v∈jP (ns.map V.int) a b,∃i,v=V.int i:=λv hv=>by
 unfold jP at hv;have:=DT (ik hv);obtain⟨i,_,rfl⟩:=aj.mp this;exact⟨i,rfl⟩
structure TiesI(c1 c2:Int)(n i:Nat)(ti:List dw):Prop where
 len:ti.length<=i
 nd:(ti.map (·.nm)).Nodup
 nm:∀r∈ti,∃j:Nat,j<i/\r.nm=kJ c2 (j:Int)
 ab:∀r∈ti,r.a∈qj c1 n/\r.b∈qj c1 n/\¬r.a=r.b/\(1<=r.w/\r.w<=4)/\-4<=r.c/\r.c<=4
theorem TiesI.keep{c1 c2:Int}{n i:Nat}{ti:List dw}(h:TiesI c1 c2 n i ti):TiesI c1 c2 n (i+1) ti:=⟨Nat.le_succ_of_le h.len,h.nd,λr hr=>let⟨j,a,b⟩:=h.nm r hr;⟨j,Qo,b⟩,h.ab⟩
theorem TiesI.add{c1 c2:Int}{n i a b:Nat}{w c:Int}{ti:List dw}(h:TiesI c1 c2 n i ti)(hi:i<26)(hn:n<=26)(ha:a<n)(hb:b<n)(hab:a≠b)(hw:1<=w/\w<=4)(hc:-4<=c/\c<=4):
  TiesI c1 c2 n (i+1) (ti++[⟨kJ c2 (i:Int),kJ c1 (a:Int),kJ c1 (b:Int),w,c⟩]):=by
 refine⟨by rw[aI];exact qG h.len,?_,λr hr=>?_,λr hr=>?_⟩
 ·rw[ah];refine iY h.nd λz=>?_;obtain⟨r,hr,e⟩:=aj.mp z;obtain⟨j,hj,e2⟩:=h.nm r hr;have:=ql (c:=c2) (i:=(j:Int)) (j:=(i:Int)) Qo Qo Qo Qo (e2.symm.trans e);omega
 ·rcases aw.mp hr with hr|hr
  ·obtain⟨j,a,b⟩:=h.nm r hr;exact⟨j,Qo,b⟩
  ·cases ar.mp hr;exact⟨i,Qo,rfl⟩
 ·rcases aw.mp hr with hr|hr
  ·exact h.ab r hr
  ·cases ar.mp hr;refine⟨ao (qi c1 ha),ao (qi c1 hb),λz=>?_,hw,hc⟩;have:=ql (c:=c1) (i:=(a:Int)) (j:=(b:Int)) Qo Qo Qo Qo z;omega
section
variable{P:Program}{w:World}{K:ag}{mg:Str->Option Value}{base:Heap}{C:Addr}
abbrev Fk:List Str:=["_law_script","_law_first","_law_places","_law_ties","_law_k","_law_cell","_law_a","_law_b","_law_name_here"]
theorem fK:bG Fk ["_law_script"] (aA s_l_parts):=⟨rfl,rfl,rfl,Qk,rfl,Qk,Qk⟩
theorem A8{f:Addr}{fd:FuncData}(F:fI K "_law_parts" "_law_parts" s_l_parts f fd)(T:fo K mg C)(TM:Fh mg)(cc:dc P w K mg base 1 "_law_cell_at" ["_law_script","_law_k"] (pX K))(cn:dc P w K mg base 1 "_law_name" ["_law_cell","_law_k"] vG):
  FnOk P w K mg base fA 2 f fd ["_law_script"] (vA K):=by
 refine F.ok fK (λvs H Q E h=>?_) (λcdv A outer s H vs Q E hr h=>?_)
 ·obtain⟨a,ns,rfl,_⟩:=h;rfl
 ·obtain⟨a,ns,rfl,hS,q⟩:=h;have nd2:List.Nodup (["_law_k","_law_script"]:List Str):=Qk;refine⟨_,(ax (bH (i:=1) fK.nd rfl (aN rfl) (ba cc hr Qr (pa_cons (pv 0) (pa_cons aD pa_nil))))
   (ax (gd (j:=2) (N:=["_law_k","_law_script"]) (xs:=1) (js:=[0]) rfl fK.nd rfl rfl (bt rfl) (j3 rfl T.range (pa_cons (bP dG aD (bP dP (pv 1) aD)) pa_nil))
     (λ_ _ _ _=>be (i:=0) nd2 rfl (aN rfl)) (λ_ _ _ _=>cV) (λ_ _ _ _=>ba cn hr Qr (pa_cons (ba cc hr Qr (pa_cons (pv 1) (pa_cons aD pa_nil))) (pa_cons (pv 0) pa_nil))) rfl)
   (ax (bH (i:=3) fK.nd rfl (aN rfl) (dC pa_nil))
   (ax (fg PassesOwn.never rfl (vR rfl TM.enum (pa_cons (jC p5 (pv 0) (iT aD) (iT (bP dG aD (bP dP (bP fq (pv 1) aD) aD)))) pa_nil))
     (ge rfl (bq (be (i:=4) fK.nd rfl (aN rfl)) (bq (be (i:=5) fK.nd rfl (aN rfl)) dI)))
    (ax (bH (i:=6) fK.nd rfl (aN rfl) (bP dP (pv 5) (pe_callB call_len_seq Qr T.len b_len (pa_cons (pv 2) pa_nil))))
   (ax (bH (i:=7) fK.nd rfl (aN rfl) (bP dP (bP dG (bP dG (pv 6) aD) (bP dP (bP fq (pv 5) aD) (pe_callB (yX rfl) Qr TM.max Gv (pa_cons aD (pa_cons (bP tq (pe_callB call_len_seq Qr T.len b_len (pa_cons (pv 2) pa_nil)) aD) pa_nil)))))
      (pe_callB call_len_seq Qr T.len b_len (pa_cons (pv 2) pa_nil))))
   (dA (b9 (bJ d9 (bP dP (bP fq (pv 1) aD) aD) aD (nomark _)) (aS (bH (i:=7) fK.nd rfl (aN rfl) (bP dP (bP dG (pv 6) aD) (pe_callB call_len_seq Qr T.len b_len (pa_cons (pv 2) pa_nil))))) bF)
   (aS (b9 (bJ A2 (pv 6) (pv 7) (nomark _)) (ax (bH (i:=8) fK.nd rfl (aN rfl) (ba cn hr Qr (pa_cons (ba cc hr Qr (pa_cons (pv 0) (pa_cons aD pa_nil))) (pa_cons (pv 4) pa_nil))))
   (aS (du (iH bN ck cj fu (pv 3) (pa_cons (bX (pa_cons (pv 8) (pa_cons (bw cP (pv 2) (pv 6) (λ_ _=>Qr)) (pa_cons (bw cP (pv 2) (pv 7) (λ_ _=>Qr)) (pa_cons (bP dG aD (bP dP (bP fq (pv 5) aD) aD)) (pa_cons (bP tq (bP dP (bP fq (pv 5) aD) aD) aD) pa_nil)))))) pa_nil))))) bF))))))
   (aS (bC (bX (pa_cons (pv 2) (pa_cons (pv 3) pa_nil))))))))),?_⟩
  refine⟨_,rfl,a,ns,0,rfl,hS,Qd,?_⟩;generalize dm ns 0=first
  have h61:=cK first (by decide:(6:Int)≠0)
  have h62:=dh first (by decide:(0:Int)<6)
  obtain⟨n,en⟩:∃n:Nat,(1+first%6:Int)=(n:Int):=⟨(1+first%6).toNat,Qo⟩;have hn1:1<=n:=Qo;have hn6:n<=6:=Qo;refine⟨_,rfl,_,_,rfl,rfl,(by show(0:Int)<6;decide),_,_,rfl,rfl,_,rfl,Qo,Qo,?_⟩;rw[en,jw];refine oe (n:=n) (λi acc σ' H'=>i<=n/\H'=H/\acc=(qj (dm ns 1) i).map V.str/\∃o,σ'=[o,some (.ref a)])
   ⟨bO _,rfl,rfl,none,rfl⟩ (λi acc σ' H' h=>?_) (ay hn6 Qd) (λi acc σ' H' hi h=>?_) (λacc σ' H' h pa hpa=>?_)
  ·obtain⟨_,_,rfl,_⟩:=h;unfold qj;simp
  ·obtain⟨h0,rfl,rfl,o,rfl⟩:=h;refine⟨_,rfl,a,ns,1,rfl,hS,Qd,_,rfl,_,_,rfl,Qo,Qo,rfl,?_,_,rfl⟩;unfold qj;rw[List.range_succ,ah,ah,Int.zero_add];rfl
  ·obtain⟨h0,rfl,rfl,o,rfl⟩:=h;have epa:(upd H' pa (.lst ((qj (dm ns 1) n).map V.str))) pa=some (.lst ((qj (dm ns 1) n).map V.str)):=ai;have s1:aU H' (upd H' pa (.lst ((qj (dm ns 1) n).map V.str))):=aU.new hpa;generalize upd H' pa (.lst ((qj (dm ns 1) n).map V.str))=H1 at epa s1;have hlp:((qj (dm ns 1) n).map V.str).length=n:=by unfold qj;simp
   refine⟨Qd,λta hta=>?_⟩;have s2:aU H1 (upd H1 ta (.lst [])):=aU.new hta;have eta:(upd H1 ta (.lst [])) ta=some (.lst []):=ai;generalize upd H1 ta (.lst [])=H2 at s2 eta;obtain⟨m,hm,em⟩:=jN (first/6) (n:=11) Qd;refine⟨_,rfl,_,rfl,_,rfl,_,_,rfl,rfl,⟨Qd,Qd⟩,_,_,rfl,rfl,(by show(0:Int)<11;decide),_,_,rfl,rfl,_,rfl,a,_,rfl,(s1.trans s2).seq hS,λsc hsc=>⟨sc,rfl,⟨_,SqL.of ai⟩,?_⟩⟩;have e4:(4+first/6%11:Int)=((4+m:Nat):Int):=by
    have em':first/6%11=(m:Int):=em
    omega
   have clen:(jP (ns.map V.int) (some 4) (some (4+first/6%11))).length<=10:=by
    rw[e4];exact ay (wR (ns.map V.int) (a:=4) (b:=4+m) Qo) Qo
   have cint:=r_ (ns:=ns) (a:=some 4) (b:=some (4+first/6%11));have s3:=s2.upd (o:=.lst (jP (ns.map V.int) (some 4) (some (4+first/6%11)))) hsc;have esc:(upd H2 sc (.lst (jP (ns.map V.int) (some 4) (some (4+first/6%11))))) sc=some (.lst (jP (ns.map V.int) (some 4) (some (4+first/6%11)))):=ai;have eta3:(upd H2 sc (.lst (jP (ns.map V.int) (some 4) (some (4+first/6%11))))) ta=some (.lst []):=(aU.new hsc) _ _ eta;have nst:sc≠ta:=(aZ eta hsc).symm;generalize jP (ns.map V.int) (some 4) (some (4+first/6%11))=cells at clen cint s3 esc eta3;generalize upd H2 sc (.lst cells)=H3 at s3 esc eta3;refine rQ (K:=K) (a:=sc) (xs:=cells) (λi σ' H''=>∃(ti:List dw)(L:List (dw×Addr))(o1 o2 o3 o4 o5:Option V),σ'=[some (.ref a),some (.int first),some (.ref pa),some (.ref ta),o1,o2,o3,o4,o5]/\aU H1 H''/\
     H'' ta=some (.lst (L.map λq=>V.ref q.2))/\Rows H'' L ti/\H'' sc=some (.lst cells)/\TiesI (dm ns 1) (dm ns 2) n i ti)
    ⟨[],[],none,none,none,none,none,rfl,s3,eta3,⟨rfl,λ_ h=>(nomatch h)⟩,esc,⟨aY _,fQ,λ_ h=>(nomatch h),λ_ h=>(nomatch h)⟩⟩ (λi σ' H'' _ h=>?_) (λi x σ' H'' t hx h ht=>?_) (λσ' H'' h=>?_)
   ·obtain⟨_,_,_,_,_,_,_,_,_,_,_,e,_⟩:=h;exact SqL.of e
   ·obtain⟨ti,L,o1,o2,o3,o4,o5,rfl,s4,eta4,R4,esc4,TI⟩:=h;obtain⟨cell,rfl⟩:=cint x (ao hx);have hi:i<cells.length:=(bj.mp hx).1;have s5:=s4.upd (o:=.tup [.int i,.int cell]) ht;have n5:=aU.new (o:=.tup [.int i,.int cell]) ht;have et:(upd H'' t (.tup [.int i,.int cell])) t=some (.tup [.int i,.int cell]):=ai;have eta5:=n5 _ _ eta4;have esc5:=n5 _ _ esc4;have R5:=R4.same n5;generalize upd H'' t (.tup [.int i,.int cell])=H5 at s5 et eta5 esc5 R5;have epa5:=s5 _ _ epa;refine⟨t,_,rfl,cG.of et,rfl,_,_,rfl,_,_,rfl,rfl,?_⟩;refine⟨_,rfl,_,rfl,pa,_,rfl,.inl (SqL.of epa5),_,_,rfl,rfl,(by rw[hlp];omega),?_⟩;obtain⟨aa,haa,ea⟩:=jN cell hn1;dsimp only;rw[hlp,ea];have hmax:(0:Int)<(if((n:Int)-1)>1 then((n:Int)-1)else 1):=by split<;>omega
    refine⟨_,rfl,_,_,rfl,rfl,_,rfl,_,_,rfl,rfl,⟨Qd,Qd⟩,_,rfl,pa,_,rfl,.inl (SqL.of epa5),_,_,rfl,rfl,_,_,rfl,_,_,rfl,rfl,(by rw[hlp];exact hmax),_,_,rfl,rfl,_,rfl,pa,_,rfl,.inl (SqL.of epa5),_,_,rfl,rfl,(by rw[hlp];omega),?_⟩;rw[hlp];obtain⟨b0,hb0,eb0⟩:=jN ((aa:Int)+1+cell/6%(if((n:Int)-1)>1 then((n:Int)-1)else 1)) hn1;dsimp only;rw[eb0];refine⟨λσ2 H2=>H2=H5/\∃b:Nat,b<n/\σ2=[some (.ref a),some (.int first),some (.ref pa),some (.ref ta),some (.int i),some (.int cell),some (.int aa),some (.int b),o5],?_,?_⟩
    ·refine⟨_,rfl,_,_,rfl,rfl,⟨Qd,Qd⟩,_,_,rfl,rfl,(by show(0:Int)<4;decide),rfl,_,rfl,oK (λ_=>?_) (λ_=>⟨rfl,b0,hb0,rfl⟩)⟩;refine⟨_,rfl,_,_,rfl,rfl,_,rfl,pa,_,rfl,.inl (SqL.of epa5),_,_,rfl,rfl,(by rw[hlp];omega),rfl,?_⟩;obtain⟨b1,hb1,eb1⟩:=jN ((aa:Int)+1) hn1;refine⟨b1,hb1,?_⟩;rw[hlp,<-eb1];rfl
    ·rintro σ2 H2'⟨rfl,b,hb,rfl⟩;refine⟨_,rfl,_,rfl,rfl,_,rfl,oK (λhne=>?_) (λ_=>⟨ti,L,_,_,_,_,_,rfl,s5,eta5,R5,esc5,TI.keep⟩)⟩;have hab:aa≠b:=λz=>by
      rw[z]at hne;simp at hne
     refine⟨_,rfl,a,ns,2,rfl,(s1.trans s5).seq hS,Qd,_,rfl,_,_,rfl,Qo,?_⟩;refine⟨_,rfl,.inl ⟨rfl,_,SqL.of eta5⟩,_,rfl,_,rfl,_,rfl,pa,_,_,_,rfl,rfl,SqL.of epa5,BB _ haa,_,rfl,_,rfl,pa,_,_,_,rfl,rfl,SqL.of epa5,BB _ hb,_,rfl,_,_,rfl,rfl,⟨Qd,Qd⟩,_,_,rfl,rfl,(by show(0:Int)<4;decide),_,_,rfl,rfl,
      _,rfl,_,_,rfl,rfl,⟨Qd,Qd⟩,_,_,rfl,rfl,(by show(0:Int)<9;decide),_,_,rfl,rfl,(by show 5<=sizeLine;decide),λt2 ht2=>?_⟩
     have n6:=aU.new (o:=.tup [.str (kJ (dm ns 2) i),.str (kJ (dm ns 1) aa),.str (kJ (dm ns 1) b),.int (1+cell/36%4),.int (cell/144%9-4)]) ht2;have nt2:t2≠ta:=(aZ eta5 ht2).symm;refine⟨ta,_,_,rfl,rfl,n6 _ _ eta5,?_,?_⟩
     ·refine cT ?_;have:=b6 List.length R5.1;rw[ae]at this;rw[ae,this];have:=TI.len;omega
     ·have h4:=cK (cell/36) (by decide:(4:Int)≠0);have h91:=cK (cell/144) (by decide:(9:Int)≠0);have h92:=dh (cell/144) (by decide:(0:Int)<9);refine⟨ti++[⟨kJ (dm ns 2) i,kJ (dm ns 1) aa,kJ (dm ns 1) b,1+cell/36%4,cell/144%9-4⟩],L++[(⟨kJ (dm ns 2) i,kJ (dm ns 1) aa,kJ (dm ns 1) b,1+cell/36%4,cell/144%9-4⟩,t2)],_,_,_,_,_,rfl,λbb ob z=>?_,?_,⟨?_,λz hz=>?_⟩,?_,TI.add Qo Qo haa hb hab (by have:=dh (cell/36) (by decide:(0:Int)<4);omega) ⟨Qo,Qo⟩⟩
      ·rw[aV (aZ z hta)];exact n6 _ _ (s5 _ _ z)
      ·rw[ai,ah];rfl
      ·rw[ah,R5.1];rfl
      ·rcases aw.mp hz with hz|hz
       ·rw[aV (cU (R5.2 z hz) eta5 (λq=>by cases q))];exact n6 _ _ (R5.2 z hz)
       ·cases ar.mp hz;rw[aV nt2];exact ai
      ·rw[aV nst];exact n6 _ _ esc5
   ·obtain⟨ti,L,o1,o2,o3,o4,o5,rfl,s4,eta4,R4,esc4,TI⟩:=h;refine⟨_,rfl,_,rfl,(by show 2<=sizeLine;decide),λt ht=>?_⟩;have n9:=aU.new (o:=.tup [.ref pa,.ref ta]) ht;refine q t pa ta ⟨qj (dm ns 1) n,ti⟩ _ ((s1.trans s4).trans n9) ai ⟨n9 _ _ (s4 _ _ epa),L,R4.same n9,n9 _ _ eta4⟩ ?_ (λr hr=>(TI.ab r hr).2.2.2.1.2) (λr hr=>let⟨j,_,e⟩:=TI.nm r hr;⟨_,_,e⟩);have hll:(qj (dm ns 1) n).length=n:=by unfold qj;simp
    refine⟨yD _ Qo,by rw[hll];exact hn6,by rw[hll];exact hn1,λx hx=>?_,TI.nd,ay TI.len clen,λr hr=>?_,λr hr=>⟨(TI.ab r hr).2.2.1,(TI.ab r hr).2.2.2.1.1⟩,λr hr=>(TI.ab r hr).2.2.2.2⟩
    ·obtain⟨j,_,rfl⟩:=aj.mp hx;exact rE _ _
    ·obtain⟨j,_,e⟩:=TI.nm r hr;exact⟨by rw[e];exact rE _ _,(TI.ab r hr).1,(TI.ab r hr).2.1⟩
end
end Net
namespace Net
open PySem L2
def Ag(C:Addr):Sp:=λvs H Q _=>∃(pa ta:Addr)(S:NS),vs=[.ref pa,.ref ta]/\ir H pa ta S/\iO S/\∀(x ds dl:Addr)(H':Hp),aU H H'->fF C H' x ds dl S->Q (.ref x) H'
theorem m_{xs:List Str}{i:Nat}{y:Str}(nd:xs.Nodup)(e:xs[i]?=some y):y∉xs.take i:=λh=>by
 obtain⟨j,hj⟩:=eO h;rw[List.getElem?_take]at hj;by_cases hji:j<i
 ·rw[bc hji]at hj;have:=nM nd hj e;omega
 ·rw[aM hji]at hj;cases hj
theorem wM{pl:List Str}{a b:Str}(ha:a∈pl)(hb:b∈pl):fe pl a b=pl:=by
 rw[qK,bc ha,bc hb];exact b_ _
section
variable{P:Program}{w:World}{K:ag}{mg:Str->Option Value}{base:Heap}{C:Addr}
abbrev GC:List Str:=["_law_places","_law_ties","_law_net_here","_law_name_here","_law_a","_law_b","_law_width","_law_cost"]
theorem im:bG GC ["_law_places","_law_ties"] (aA s_l_net):=⟨rfl,rfl,rfl,Qk,rfl,Qk,Qk⟩
theorem Df{f:Addr}{fd:FuncData}(F:fI K "_law_net" "_law_net" s_l_net f fd)(T:fo K mg C)(ci:Cg P w K mg base 1 C ["self"] (sR C))(m1:gt P w K mg base 4 C "place" ["self","name"] (u_ C))(m2:gt P w K mg base 4 C "tie" ["self","name","a","b","width","cost"] (Ad C)):
  FnOk P w K mg base fA 5 f fd ["_law_places","_law_ties"] (Ag C):=by
 refine F.ok im (λvs H Q E h=>?_) (λcdv A outer s H vs Q E hr h=>?_)
 ·obtain⟨pa,ta,S,rfl,_⟩:=h;rfl
 ·obtain⟨pa,ta,S,rfl,PA,g,q⟩:=h;have r2:c_ 2 _:=hr.mono Qd;refine⟨_,(ax (bH (i:=2) im.nd rfl (aN rfl) (pq ci r2 Qr T.mgC))
   (ax (fg PassesOwn.never rfl (bU (pv 0)) (be (i:=3) im.nd rfl (aN rfl)) (aS (du (nG (pv 2) T.cl m1 hr (pa_cons (pv 3) pa_nil)))))
   (ax (fg PassesOwn.never rfl (bU (pv 1)) (ge rfl (bq (be (i:=3) im.nd rfl (aN rfl)) (bq (be (i:=4) im.nd rfl (aN rfl)) (bq (be (i:=5) im.nd rfl (aN rfl)) (bq (be (i:=6) im.nd rfl (aN rfl)) (bq (be (i:=7) im.nd rfl (aN rfl)) dI))))))
    (aS (du (nG (pv 2) T.cl m2 hr (pa_cons (pv 3) (pa_cons (pv 4) (pa_cons (pv 5) (pa_cons (pv 6) (pa_cons (pv 7) pa_nil)))))))))
   (aS (bC (pv 2)))))),?_⟩
  intro x dx nx ndx nex;refine⟨x,dx,rfl,ai,λds dl H1 fds fdl N1 kp1=>⟨rfl,?_⟩⟩;have s0:aU H (upd (upd H dx (.own x)) x (.ins C dx [])):=λb ob e=>by
   rw[aV (aZ e nx),aV (aZ e ndx)];exact e
  have s1:aU H H1:=λb ob e=>kp1 b ob (s0 b ob e) (aZ e nx);have hds:H ds=none:=s0.free fds;have hdl:H dl=none:=s0.free fdl;obtain⟨L,RL,eta⟩:=PA.ti;refine⟨_,rfl,pa,rfl,⟨_,SqL.of (s1 _ _ PA.pl)⟩,fi (K:=K) (a:=pa) (xs:=S.pl.map V.str) (λi σ' H'=>(∃o,σ'=[some (.ref pa),some (.ref ta),some (.ref x),o,none,none,none,none])/\aU H H'/\fF C H' x ds dl ⟨S.pl.take i,[]⟩)
   ⟨⟨none,rfl⟩,s1,N1⟩ (λi σ' H' _ h=>SqL.of (h.2.1 _ _ PA.pl)) (λi v σ' H' hv h=>?_) (λσ' H' h=>?_)⟩
  ·obtain⟨⟨o,rfl⟩,s3,N3⟩:=h;rw[ap]at hv;cases ey:S.pl[i]? with
   |none=>rw[ey]at hv;cases hv
   |some y=>
    rw[ey]at hv;cases hv;obtain⟨dx3,h13⟩:=N3.ob;refine⟨_,rfl,x,dx3,_,rfl,h13,df ds dl Qk Qk,_,rfl,x,ds,dl,_,y,rfl,N3,g.okP y (ao ey),m_ g.ndP ey,?_,λH4 N4 b4=>⟨⟨_,rfl⟩,λb ob e=>b4 b ob (s3 b ob e) (aZ e hds) (aZ e hdl),?_⟩⟩
    ·show(S.pl.take i).length <20;have:=g.lenP;rw[aQ];omega
    ·have e:S.pl.take (i+1)=S.pl.take i++[y]:=by rw[bi,ey];rfl
     rw[e];exact N4
  ·obtain⟨⟨o,rfl⟩,s3,N3⟩:=h;rw[ae,bf]at N3;refine⟨_,rfl,ta,rfl,⟨_,SqL.of (s3 _ _ eta)⟩,fi (K:=K) (a:=ta) (xs:=L.map λq=>V.ref q.2) (λi σ' H'=>(∃o1 o2 o3 o4 o5,σ'=[some (.ref pa),some (.ref ta),some (.ref x),o1,o2,o3,o4,o5])/\aU H H'/\fF C H' x ds dl ⟨S.pl,S.ti.take i⟩)
    ⟨⟨_,_,_,_,_,rfl⟩,s3,N3⟩ (λi σ' H' _ h=>SqL.of (h.2.1 _ _ eta)) (λi v σ' H' hv h=>?_) (λσ' H' h=>?_)⟩
   ·obtain⟨⟨o1,o2,o3,o4,o5,rfl⟩,s4,N4⟩:=h;rw[ap]at hv;cases eq:L[i]? with
    |none=>rw[eq]at hv;cases hv
    |some qq=>
     rw[eq]at hv;cases hv;have er:S.ti[i]?=some qq.1:=by rw[<-RL.1,ap,eq];rfl
     have hm:=ao er;have ht:=s4 _ _ (RL.2 qq (ao eq));obtain⟨dx4,h14⟩:=N4.ob;refine⟨qq.2,_,rfl,cG.of ht,rfl,_,_,rfl,_,_,rfl,_,_,rfl,_,_,rfl,_,_,rfl,rfl,?_⟩;obtain⟨k1,k2,k3⟩:=g.okT _ hm;obtain⟨k4,k5⟩:=g.neT _ hm;have we:fe S.pl qq.1.a qq.1.b=S.pl:=wM k2 k3;refine⟨_,rfl,x,dx4,_,rfl,h14,df ds dl Qk Qk,_,rfl,_,rfl,_,rfl,_,rfl,_,rfl,x,ds,dl,_,qq.1,rfl,N4,k1,g.okP _ k2,g.okP _ k3,?_,k4,k5,?_,?_,λH5 N5 b5=>⟨⟨_,_,_,_,_,rfl⟩,λb ob e=>b5 b ob (s4 b ob e) (aZ e hds) (aZ e hdl),?_⟩⟩
     ·show qq.1.nm∉(S.ti.take i).map (·.nm);rw[zI];exact m_ g.ndT (by show(S.ti.map (·.nm))[i]?=_;rw[ap,er];rfl)
     ·show(S.ti.take i).length <40;have:=g.lenT;rw[aQ];omega
     ·show(fe S.pl qq.1.a qq.1.b).length<=20;have:=g.lenP;rw[we];omega
     ·have e:S.ti.take (i+1)=S.ti.take i++[qq.1]:=by rw[bi,er];rfl
      have N5':fF C H5 x ds dl ⟨fe S.pl qq.1.a qq.1.b,S.ti.take i++[qq.1]⟩:=N5;rw[we]at N5';rw[e];exact N5'
   ·obtain⟨⟨o1,o2,o3,o4,o5,rfl⟩,s4,N4⟩:=h;have el:L.length=S.ti.length:=by rw[<-RL.1,ae]
    rw[ae,el,bf]at N4;exact⟨_,rfl,q x ds dl H' s4 N4⟩
end
end Net
namespace Net
open PySem L2
theorem mT{pl:List Str}(h:1<=pl.length)(z:Int):∃y∈pl,wS (pl.map V.str) (z%((pl.map V.str).length:Int))=some (V.str y):=by
 obtain⟨j,hj,e⟩:=jN z h;have e':=a_ hj;rw[ae,e];exact⟨_,ao e',fz (by rw[ap,e'];rfl)⟩
section
variable{P:Program}{w:World}{K:ag}{mg:Str->Option Value}{base:Heap}{C:Addr}
end
end Net
namespace Net
open PySem L2
section
variable{P:Program}{w:World}{K:ag}{mg:Str->Option Value}{base:Heap}{C:Addr}
end
end Net
namespace Net
open PySem L2
section
variable{P:Program}{w:World}{K:ag}{mg:Str->Option Value}{base:Heap}{C:Addr}
end
end Net
namespace Net
open PySem L2
end Net
namespace Net
open PySem L2
def nW:PyData->Bool
 |.list ds=>decide (ds.length=2)
 |_=>false
theorem yJ{d:PyData}(h:nW d=true):∃d0 d1,d=.list [d0,d1]:=by
 cases d<;>first|(cases h;done)|skip
 rename_i ds;have h':ds.length=2:=aK h
 match ds,h' with
 |[d0,d1],_=>exact⟨d0,d1,rfl⟩
def vC:Sp:=λvs H Q _=>∃(v:V)(n:Nat)(d:PyData),vs=[v]/\PD H n v d/\Q (.bl (nW d)) H
section
variable{P:Program}{w:World}{K:ag}{mg:Str->Option Value}{base:Heap}{C:Addr}
def nV(k:Nat):PyData->Bool
 |.list ds=>decide (ds.length=k)
 |_=>false
theorem tZ(d:PyData):nW d=nV 2 d:=by cases d<;>rfl
def pW:Sp:=λvs H Q _=>∃(v:V)(n:Nat)(d:PyData)(k:Nat),vs=[v,.int k]/\PD H n v d/\Q (.bl (nV k d)) H
theorem Aw:bG ["paper","many"] ["paper","many"] (aA s_is_row):=⟨rfl,rfl,rfl,Qk,rfl,Qk,Qk⟩
theorem Bc{f:Addr}{fd:FuncData}(F:fI K "is_row" "is_row" s_is_row f fd)(T:fo K mg C):FnOk P w K mg base fA 1 f fd ["paper","many"] pW:=by
 refine F.ok Aw (λvs H Q E h=>?_) (λcdv A outer s H vs Q E hr h=>?_)
 ·obtain⟨v,n,d,k,rfl,_⟩:=h;rfl
 ·obtain⟨v,n,d,k,rfl,pd,q⟩:=h;refine⟨_,(aS (bC (iV (pe_callB fj Qr T.isi ou (pa_cons (pv 0) (pa_cons (nE T.list Qr lV) pa_nil))) (iU (dJ d9 (pe_callB call_len_seq Qr T.len b_len (pa_cons (pv 0) pa_nil)) (pv 1) (nomark _)))))),?_⟩;obtain⟨t,ty,kl,_⟩:=PD.ty (K:=K) pd;refine⟨_,rfl,v,"list",t,Gc d,rfl,ty,kl,_,rfl,?_⟩;cases el:Gc d with
  |false=>
   refine dz ?_;have e:nV k d=false:=by cases d<;>first|(cases el;done)|rfl
   rw[e]at q;exact q
  |true=>
   obtain⟨ds,rfl⟩:∃e,d=.list e:=by cases d<;>first|exact⟨_,rfl⟩|cases el
   obtain⟨m,l,xs,rfl,rfl,hl,pr⟩:=pd.list_of;refine dv ⟨_,rfl,l,xs,rfl,.inl (SqL.of hl),_,rfl,rfl,?_⟩;have e:decide (V.int (xs.length:Nat)=V.int k)=nV k (.list ds):=by
    show _=decide (ds.length=k);rw[<-Paired.length pr,db,fJ,fJ];constructor
    ·intro z;have z':((xs.length:Nat):Int)=k:=by injection z
     omega
    ·intro z;rw[z]
   rw[e];exact q
theorem CN:bG ["paper"] ["paper"] (aA s_is_pair):=⟨rfl,rfl,rfl,Qk,rfl,Qk,Qk⟩
theorem A9{f:Addr}{fd:FuncData}(F:fI K "is_pair" "is_pair" s_is_pair f fd)(cr:dc P w K mg base 1 "is_row" ["paper","many"] pW):FnOk P w K mg base fA 2 f fd ["paper"] vC:=by
 refine F.ok CN (λvs H Q E h=>?_) (λcdv A outer s H vs Q E hr h=>?_)
 ·obtain⟨v,n,d,rfl,_⟩:=h;rfl
 ·obtain⟨v,n,d,rfl,pd,q⟩:=h;refine⟨_,(aS (bC (ba cr hr Qr (pa_cons (pv 0) (pa_cons aD pa_nil))))),?_⟩;rw[tZ]at q;exact⟨_,rfl,v,n,d,2,rfl,pd,q⟩
end
end Net
namespace Net
open PySem L2
def su:Nat->PyData->Prop
 |n+1,.list ds=>ds.length<=1000/\∀x∈ds,su n x
 |_,_=>True
section
variable{P:Program}{w:World}{K:ag}{mg:Str->Option Value}{base:Heap}{C:Addr}
end
section
variable{P:Program}{w:World}{K:ag}{mg:Str->Option Value}{base:Heap}{C:Addr}
end
end Net
namespace Net
open PySem L2
section
variable{P:Program}{w:World}{K:ag}{mg:Str->Option Value}{base:Heap}{C:Addr}
end
end Net
namespace Net
open PySem L2
def qz(H:Hp)(t:Addr)(w a b:Str):Prop:=H t=some (.tup [.str w,.str a,.str b])
def oV:Option Int->V
 |none=>.non
 |some i=>.int i
section
variable{P:Program}{w:World}{K:ag}{mg:Str->Option Value}{base:Heap}{C:Addr}
end
end Net
namespace Net
open PySem L2
theorem jz{α:Type}{f:α->Bool}{l:List α}{i:Nat}{x:α}(e:l[i]?=some x)(b:Bool)(hb:f x=b):(l.take (i+1)).filter f=(l.take i).filter f++(if b then [x]else []):=by
 rw[bi,e,d8];show _++List.filter f [x]=_;cases b with
 |true=>rw[gz hb];rfl
 |false=>rw[gA (by rw[hb];exact aG)];rfl
section
variable{P:Program}{w:World}{K:ag}{mg:Str->Option Value}{base:Heap}{C:Addr}
end
end Net
namespace Net
open PySem L2
def nH(ti:List dw)(ws:List Str):List dw:=ti.filter λr=>decide (r.a∈ws)&& !decide (r.b∈ws)
def ji(S:NS)(a b:Str)(d:PyData):Option (List dw):=if bZ S.pl d=true then(match dZ d with
 |none=>none
 |some ws=>if a∈ws/\¬b∈ws then some (nH S.ti ws)else none)else none
theorem Dt{S:NS}{a b:Str}{d:PyData}(h:bZ S.pl d=false):ji S a b d=none:=by
 unfold ji;rw[h];rfl
theorem wF{S:NS}{a b:Str}{ws:List Str}(h:bZ S.pl (.list (ws.map PyData.str))=true):ji S a b (.list (ws.map PyData.str))=if a∈ws/\¬b∈ws then some (nH S.ti ws)else none:=by
 unfold ji;rw[bc h];have:dZ (.list (ws.map PyData.str))=some ws:=ff _;rw[this]
def pE:PyData->Bool
 |.list []=>true
 |_=>false
theorem yP{d:PyData}:PyData.eqv d (.list [])=pE d:=by
 cases d<;>first|rfl|skip
 rename_i ds;rw[wL];cases ds<;>rfl
def lK(C:Addr):Sp:=λvs H Q _=>∃(p ds dl tt:Addr)(S:NS)(w a b:Str)(v:V)(n:Nat)(d:PyData),vs=[.ref p,.ref tt,v]/\fW C H p ds dl S/\qz H tt w a b/\PD H n v d/\n<=50/\(∀e,d=.list e->e.length<=1000)/\
 (∀H',aU H H'->ji S a b d=none->Q .non H')/\∀(l:Addr)(L:List (dw×Addr))(rs:List dw)(H':Hp),aU H H'->Rows H' L rs->H' l=some (.lst (L.map λq=>V.ref q.2))->rs.length<=40->ji S a b d=some rs->Q (.ref l) H'
def jY(C:Addr)(fl:Bool):Sp:=λvs H Q _=>∃(p ds dl tt:Addr)(S:NS)(w a b:Str)(v:V)(n:Nat)(d:PyData),vs=[.ref p,.ref tt,v]/\fW C H p ds dl S/\qz H tt w a b/\PD H n v d/\n<=50/\(∀e,d=.list e->e.length<=1000)/\
 ∀H',aU H H'->Q (oV ((ji S a b d).map λL=>if fl then(L.map (·.w)).sum else(L.length:Int))) H'
section
variable{P:Program}{w:World}{K:ag}{mg:Str->Option Value}{base:Heap}{C:Addr}
theorem sY:bG ["net","term","paper"] ["net","term","paper"] (aA s_ties_leaving):=⟨rfl,rfl,rfl,Qk,rfl,Qk,Qk⟩
theorem tL{f:Addr}{fd:FuncData}(F:fI K "ties_leaving" "ties_leaving" s_ties_leaving f fd)(T:fo K mg C)(cu:dc P w K mg base 3 "are_unlike_places" ["net","paper"] (iD C))(m2:gt P w K mg base 1 C "ties" ["self"] (iu C)):FnOk P w K mg base fA 4 f fd ["net","term","paper"] (lK C):=by
 refine F.ok sY (λvs H Q E h=>?_) (λcdv A outer s H vs Q E hr h=>?_)
 ·obtain⟨p,ds,dl,tt,S,w',a,b,v,n,d,rfl,_⟩:=h;rfl
 ·obtain⟨p,ds,dl,tt,S,w',a,b,v,n,d,rfl,N,te,pd,n50,blen,q1,q2⟩:=h;have r1:c_ 1 _:=hr.mono Qd;have nd2:List.Nodup (["row","paper"]:List Str):=Qk;refine⟨_,(ax (b9 (PW.pt (jg (dB (cY (ba cu hr Qr (pa_cons (pv 0) (pa_cons (pv 2) pa_nil))))) (jg (bJ iW (bw bV (pv 1) aD (λ_ _=>Qr)) (pv 2) Qw) (iS (bJ gZ (bw bV (pv 1) aD (λ_ _=>Qr)) (pv 2) Qw))))) (aS (bC h_)) bF)
   (aS (bC (cW (N:=["row","paper"]) (xs:=1) (js:=[2]) rfl (bt rfl) (bU (cB (pv 0) T.cl m2 r1)) (λ_ _ _ _=>be (i:=0) nd2 rfl (aN rfl))
     (λ_ _ _ _=>gb (PW.pt (nz (bJ (ib K Qr) (bw (cx K Qr) (pv 0) aD (λ_ _=>Qr)) (pv 1) Qw) (kT (bJ (lP K Qr) (bw (cx K Qr) (pv 0) aD (λ_ _=>Qr)) (pv 1) Qw))))) (λ_ _ _ _=>pv 0))))),?_⟩
  have term_a:∀{H'},aU H H'->cG K H' tt [.str w',.str a,.str b]:=λz=>cG.of (z _ _ te);refine⟨_,rfl,_,rfl,p,ds,dl,S,v,n,d,rfl,N.net,N.okP,pd,n50,blen,λH1 s1=>⟨_,rfl,?_⟩⟩;cases eu:bZ S.pl d with
  |false=>exact dv (dv (q1 H1 s1 (Dt eu)))
  |true=>
   obtain⟨l,ws,rfl,rfl,hl,_⟩:=dY pd eu;have hl1:=s1 _ _ hl;rw[wF eu]at q1 q2;refine dz ⟨_,rfl,tt,_,_,.str a,rfl,rfl,term_a s1,rfl,_,rfl,l,ws.map V.str,rfl,.inl (SqL.of hl1),rfl,cH _,_,rfl,?_⟩;show if(if true=true then !jm (.str a) (ws.map V.str)else _)=true then _ else _;rw[bc rfl,dD];by_cases h1:a∈ws
   ·rw[af h1];refine dz ⟨_,rfl,tt,_,_,.str b,rfl,rfl,term_a s1,rfl,_,rfl,l,ws.map V.str,rfl,.inl (SqL.of hl1),rfl,cH _,_,rfl,?_⟩;show if(if false=true then _ else jm (.str b) (ws.map V.str))=true then _ else _;rw[aM aG,dD];by_cases h2:b∈ws
    ·rw[af h2];exact dv (q1 H1 s1 (aM λz=>z.2 h2))
    ·rw[am h2];refine dz ?_;have NA:=N.net.same s1;obtain⟨dx,hob⟩:=NA.ob;refine⟨_,rfl,p,dx,_,rfl,hob,df ds dl Qk Qk,p,ds,dl,S,rfl,NA,λtl H2 L htl s2 RL etl=>?_⟩;have RL2:=RL.same s2;have hL:L.length=S.ti.length:=by rw[<-RL.1,ae]
     have hl2:=s2 _ _ hl1;refine⟨tl,rfl,⟨_,SqL.of etl⟩,bW (K:=K) (ys:=L.map λq=>V.ref q.2) (λi acc σ' H'=>H'=H2/\acc=((L.take i).filter λq=>decide (q.1.a∈ws)&& !decide (q.1.b∈ws)).map (λq=>V.ref q.2)/\∃o,σ'=[o,some (.ref l)])
      ⟨rfl,rfl,none,rfl⟩ (λi acc σ' H' h=>?_) ?_ (λi acc σ' H' _ h=>by rw[h.1];exact SqL.of etl) (λi x acc σ' H' hx h=>?_) (λacc σ' H' h rl hrl=>?_)⟩
     ·obtain⟨_,rfl,_⟩:=h;rw[ae];exact ay (bu _ _) (by rw[aQ];omega)
     ·rw[ae,hL];exact ay N.few Qd
     ·obtain⟨rfl,rfl,o3,rfl⟩:=h;rw[ap]at hx;cases eq:L[i]? with
      |none=>rw[eq]at hx;cases hx
      |some qq=>
       rw[eq]at hx;cases hx;have ht:=RL2.2 qq (ao eq);have tk:=λc hc=>jz (f:=λq:dw×Addr=>decide (q.1.a∈ws)&& !decide (q.1.b∈ws)) eq c hc;refine⟨_,rfl,qq.2,_,_,.str qq.1.a,rfl,rfl,cG.of ht,rfl,_,rfl,l,_,rfl,.inl (SqL.of hl2),rfl,cH _,_,rfl,?_⟩;show if(if false=true then _ else jm (.str qq.1.a) (ws.map V.str))=true then _ else _;rw[aM aG,dD];by_cases g1:qq.1.a∈ws
       ·rw[af g1];refine dv ⟨_,rfl,qq.2,_,_,.str qq.1.b,rfl,rfl,cG.of ht,rfl,_,rfl,l,_,rfl,.inl (SqL.of hl2),rfl,cH _,_,rfl,?_⟩;show if(if true=true then !jm (.str qq.1.b) (ws.map V.str)else _)=true then _ else _;rw[bc rfl,dD];by_cases g2:qq.1.b∈ws
        ·rw[af g2];refine dz ⟨rfl,?_,_,rfl⟩;rw[tk false (by simp[g2])];simp
        ·rw[am g2];refine dv ⟨_,rfl,rfl,?_,_,rfl⟩;rw[tk true (by simp[g1,g2]),ah];rfl
       ·rw[am g1];refine dz (dz ⟨rfl,?_,_,rfl⟩);rw[tk false (by simp[g1])];simp
     ·obtain⟨rfl,rfl,o3,rfl⟩:=h;rw[ae,bf];have z:=aU.new (o:=.lst ((L.filter λq=>decide (q.1.a∈ws)&& !decide (q.1.b∈ws)).map λq=>V.ref q.2)) hrl;refine q2 rl _ (nH S.ti ws) _ ((s1.trans s2).trans z) ⟨?_,λq hq=>z _ _ (RL2.2 q (bK.mp hq).1)⟩ ai (ay (bu _ _) N.few) (bc ⟨h1,h2⟩);unfold nH;rw[<-RL.1,List.filter_map];rfl
   ·rw[am h1];exact dv (dv (q1 H1 s1 (aM λz=>h1 z.1)))
theorem ph:bG ["net","term","paper","leaving"] ["net","term","paper"] (aA s_flow_above):=⟨rfl,rfl,rfl,Qk,rfl,Qk,Qk⟩
theorem xV{f:Addr}{fd:FuncData}(F:fI K "flow_above" "flow_above" s_flow_above f fd)(TW:Ff mg)(cl:dc P w K mg base 4 "ties_leaving" ["net","term","paper"] (lK C)):FnOk P w K mg base fA 5 f fd ["net","term","paper"] (jY C true):=by
 refine F.ok ph (λvs H Q E h=>?_) (λcdv A outer s H vs Q E hr h=>?_)
 ·obtain⟨p,ds,dl,tt,S,w',a,b,v,n,d,rfl,_⟩:=h;rfl
 ·obtain⟨p,ds,dl,tt,S,w',a,b,v,n,d,rfl,N,te,pd,n50,blen,q⟩:=h;have nd1:List.Nodup (["row"]:List Str):=Qk;refine⟨_,(ax (bH (i:=3) ph.nd rfl (aN rfl) (ba cl hr Qr (pa_cons (pv 0) (pa_cons (pv 1) (pa_cons (pv 2) pa_nil)))))
   (aS (bC (gD (gc (AY (pv 3))) h_ (pe_callB (B5 rfl) Qr TW.sum Gs (pa_cons (cW (N:=["row"]) (xs:=1) (js:=[]) rfl (bt rfl) (bU (pv 3)) (λ_ _ _ _=>be (i:=0) nd1 rfl (aN rfl)) (λ_ _ _ _=>cV) (λ_ _ _ _=>bw (cx K Qr) (pv 0) aD (λ_ _=>Qr))) pa_nil)))))),?_⟩
  refine⟨_,rfl,_,rfl,_,rfl,p,ds,dl,tt,S,w',a,b,v,n,d,rfl,N,te,pd,n50,blen,λH1 s1 e=>?_,λl L rs H1 s1 RL el h40 e=>?_⟩
  ·have:=q H1 s1;rw[e]at this;exact⟨_,rfl,_,rfl,dv this⟩
  ·rw[e]at q;have hL:L.length=rs.length:=by rw[<-RL.1,ae]
   refine⟨_,rfl,_,rfl,dz ⟨_,rfl,l,rfl,⟨_,SqL.of el⟩,bW (K:=K) (ys:=L.map λq=>V.ref q.2) (λi acc σ' H'=>H'=H1/\acc=((rs.take i).map λr=>V.int r.w)/\∃o,σ'=[o])
    ⟨rfl,rfl,none,rfl⟩ (λi acc σ' H' h=>?_) ?_ (λi acc σ' H' _ h=>by rw[h.1];exact SqL.of el) (λi x acc σ' H' hx h=>?_) (λacc σ' H' h rl hrl=>?_)⟩⟩
   ·rw[h.2.1,ae,aQ];omega
   ·rw[ae,hL];exact ay h40 Qd
   ·obtain⟨rfl,rfl,o3,rfl⟩:=h;rw[ap]at hx;cases eq:L[i]? with
    |none=>rw[eq]at hx;cases hx
    |some qq=>
     rw[eq]at hx;cases hx;have er:rs[i]?=some qq.1:=by rw[<-RL.1,ap,eq];rfl
     refine⟨_,rfl,qq.2,_,_,.int qq.1.w,rfl,rfl,cG.of (RL.2 qq (ao eq)),rfl,rfl,?_,_,rfl⟩;rw[bi,er,ah];rfl
   ·obtain⟨rfl,rfl,o3,rfl⟩:=h;rw[ae,hL,bf];refine⟨rl,rs.map (·.w),rfl,SqL.of (by rw[ai,bm];rfl),?_⟩;exact q _ (s1.trans (aU.new hrl))
theorem pj:bG ["net","term","paper","leaving"] ["net","term","paper"] (aA s_apart_above):=⟨rfl,rfl,rfl,Qk,rfl,Qk,Qk⟩
theorem xX{f:Addr}{fd:FuncData}(F:fI K "apart_above" "apart_above" s_apart_above f fd)(T:fo K mg C)(cl:dc P w K mg base 4 "ties_leaving" ["net","term","paper"] (lK C)):FnOk P w K mg base fA 5 f fd ["net","term","paper"] (jY C false):=by
 refine F.ok pj (λvs H Q E h=>?_) (λcdv A outer s H vs Q E hr h=>?_)
 ·obtain⟨p,ds,dl,tt,S,w',a,b,v,n,d,rfl,_⟩:=h;rfl
 ·obtain⟨p,ds,dl,tt,S,w',a,b,v,n,d,rfl,N,te,pd,n50,blen,q⟩:=h;refine⟨_,(ax (bH (i:=3) pj.nd rfl (aN rfl) (ba cl hr Qr (pa_cons (pv 0) (pa_cons (pv 1) (pa_cons (pv 2) pa_nil)))))
   (aS (bC (gD (gc (AY (pv 3))) h_ (pe_callB call_len_seq Qr T.len b_len (pa_cons (pv 3) pa_nil)))))),?_⟩
  refine⟨_,rfl,_,rfl,_,rfl,p,ds,dl,tt,S,w',a,b,v,n,d,rfl,N,te,pd,n50,blen,λH1 s1 e=>?_,λl L rs H1 s1 RL el h40 e=>?_⟩
  ·have:=q H1 s1;rw[e]at this;exact⟨_,rfl,_,rfl,dv this⟩
  ·have:=q H1 s1;rw[e]at this;have hL:L.length=rs.length:=by rw[<-RL.1,ae]
   refine⟨_,rfl,_,rfl,dz ⟨_,rfl,l,_,rfl,.inl (SqL.of el),?_⟩⟩;rw[ae,hL];exact this
end
end Net
namespace Net
open PySem L2
section
variable{P:Program}{w:World}{K:ag}{mg:Str->Option Value}{base:Heap}{C:Addr}
theorem xI:bG ["net","term","above","paper"] ["net","term","above","paper"] (aA s_shown_across):=⟨rfl,rfl,rfl,Qk,rfl,Qk,Qk⟩
theorem At:bG ["net","term","above","paper"] ["net","term","above","paper"] (aA s_shown_bound):=⟨rfl,rfl,rfl,Qk,rfl,Qk,Qk⟩
end
end Net
namespace Net
open PySem L2
def HY(d:PyData):Prop:=∀ds,d=.list ds->ds.length<=30/\∀x∈ds,∀e,x=.list e->e.length<=30
section
variable{P:Program}{w:World}{K:ag}{mg:Str->Option Value}{base:Heap}{C:Addr}
end
end Net
namespace Net
open PySem L2
section
variable{P:Program}{w:World}{K:ag}{mg:Str->Option Value}{base:Heap}{C:Addr}
end
end Net
namespace L2
open PySem PySem.Spec PyProof.Rows
end L2
namespace Net
open PySem L2
section
variable{P:Program}{w:World}{K:ag}{mg:Str->Option Value}{base:Heap}{C:Addr}
end
end Net
namespace Net
open PySem L2
def fD(ti:List dw)(ws us:List Str):List dw:=ti.filter λr=>decide (r.a∈ws)&& !decide (r.b∈ws++us)
def shutB(S:NS)(a b:Str)(ws us:List Str):Option Int:=if(ws++us).Nodup/\a∈ws/\¬b∈ws++us/\((fD S.ti ws us).all λr=>decide (r.a=a)&&decide (r.b=b))=true then some ((us.length:Int)+((fD S.ti ws us).length:Int))else none
def mj(S:NS)(a b:Str):PyData->Option Int
 |.list [d0,d1]=>if bZ S.pl d0=true/\bZ S.pl d1=true then shutB S a b ((dZ d0).getD []) ((dZ d1).getD [])else none
 |_=>none
theorem xC{S:NS}{a b:Str}{d:PyData}(h:nW d=false):mj S a b d=none:=by
 unfold mj;split
 ·cases h
 ·rfl
def qX(C:Addr):Sp:=λvs H Q _=>∃(p ds dl tt:Addr)(S:NS)(w a b:Str)(v:V)(n:Nat)(d:PyData),vs=[.ref p,.ref tt,v]/\fW C H p ds dl S/\qz H tt w a b/\PD H n v d/\n<=50/\HY d/\∀H',aU H H'->Q (oV (mj S a b d)) H'
section
variable{P:Program}{w:World}{K:ag}{mg:Str->Option Value}{base:Heap}{C:Addr}
abbrev DO:List Str:=["net","term","paper","side","stops","held","leaving"]
theorem iG:bG DO ["net","term","paper"] (aA s_bare_above):=⟨rfl,rfl,rfl,Qk,rfl,Qk,Qk⟩
theorem xW{f:Addr}{fd:FuncData}(F:fI K "bare_above" "bare_above" s_bare_above f fd)(T:fo K mg C)(cp:dc P w K mg base 2 "is_pair" ["paper"] vC)(cu:dc P w K mg base 3 "are_unlike_places" ["net","paper"] (iD C))(cl:dc P w K mg base 1 "are_unlike" ["names"] pY)(m2:gt P w K mg base 1 C "ties" ["self"] (iu C)):FnOk P w K mg base fA 5 f fd ["net","term","paper"] (qX C):=by
 refine F.ok iG (λvs H Q E h=>?_) (λcdv A outer s H vs Q E hr h=>?_)
 ·obtain⟨p,ds,dl,tt,S,w',a,b,v,n,d,rfl,_⟩:=h;rfl
 ·obtain⟨p,ds,dl,tt,S,w',a,b,v,n,d,rfl,N,te,pd,n50,hw30,q⟩:=h;have r1:c_ 1 _:=hr.mono Qd;have r2:c_ 2 _:=hr.mono Qd;have r3:c_ 3 _:=hr.mono Qd;have nd2:List.Nodup (["part","net"]:List Str):=Qk;have nd3:List.Nodup (["row","side","held"]:List Str):=Qk;have nd4:List.Nodup (["row","term"]:List Str):=Qk;refine⟨_,(dA (b9 (PW.pt (jg (dB (cY (ba cp r2 Qr (pa_cons (pv 2) pa_nil)))) (iS (dB (cY (pe_callB (gE rfl) Qr T.all mB (pa_cons (cW (N:=["part","net"]) (xs:=1) (js:=[0]) rfl (bt rfl) (bU (pv 2)) (λ_ _ _ _=>be (i:=0) nd2 rfl (aN rfl)) (λ_ _ _ _=>cV) (λ_ _ _ _=>ba cu r3 Qr (pa_cons (pv 1) (pa_cons (pv 0) pa_nil)))) pa_nil))))))) (aS (bC h_)) bF)
   (ax (bH (i:=3) iG.nd rfl (iz rfl) (bw cP (pv 2) aD (λ_ _=>Qr)))
   (ax (bH (i:=4) iG.nd rfl (aN rfl) (bw cP (pv 2) aD (λ_ _=>Qr)))
   (ax (bH (i:=5) iG.nd rfl (iz rfl) (bP nK (pv 3) (pv 4)))
   (dA (b9 (PW.pt (jg (dB (cY (ba cl r1 Qr (pa_cons (pv 5) pa_nil)))) (jg (bJ iW (bw bV (pv 1) aD (λ_ _=>Qr)) (pv 3) Qw) (iS (bJ gZ (bw bV (pv 1) aD (λ_ _=>Qr)) (pv 5) Qw))))) (aS (bC h_)) bF)
   (dA (gd (j:=6) (N:=["row","side","held"]) (xs:=1) (js:=[3,5]) rfl iG.nd rfl rfl (bt rfl) (bU (cB (pv 0) T.cl m2 r1)) (λ_ _ _ _=>be (i:=0) nd3 rfl (aN rfl))
     (λ_ _ _ _=>gb (PW.pt (nz (bJ (ib K Qr) (bw (cx K Qr) (pv 0) aD (λ_ _=>Qr)) (pv 1) Qw) (kT (bJ (lP K Qr) (bw (cx K Qr) (pv 0) aD (λ_ _=>Qr)) (pv 2) Qw))))) (λ_ _ _ _=>pv 0) rfl)
   (dA (b9 (dB (cY (pe_callB (gE rfl) Qr T.all mB (pa_cons (cW (N:=["row","term"]) (xs:=1) (js:=[1]) rfl (bt rfl) (bU (pv 6)) (λ_ _ _ _=>be (i:=0) nd4 rfl (aN rfl)) (λ_ _ _ _=>cV) (λ_ _ _ _=>iV (dJ d9 (bw (cx K Qr) (pv 0) aD (λ_ _=>Qr)) (bw (cx K Qr) (pv 1) aD (λ_ _=>Qr)) (nomark _)) (iU (dJ d9 (bw (cx K Qr) (pv 0) aD (λ_ _=>Qr)) (bw (cx K Qr) (pv 1) aD (λ_ _=>Qr)) (nomark _))))) pa_nil)))) (aS (bC h_)) bF)
   (aS (bC (bP dG (pe_callB call_len_seq Qr T.len b_len (pa_cons (pv 4) pa_nil)) (pe_callB call_len_seq Qr T.len b_len (pa_cons (pv 6) pa_nil)))))))))))),?_⟩
  have term_a:∀{H'},aU H H'->cG K H' tt [.str w',.str a,.str b]:=λz=>cG.of (z _ _ te);have fin:∀{H':Hp}{z:Option Int},aU H H'->mj S a b d=z->Q (oV z) H':=λ{H' z}s h=>by
   have:=q H' s;rw[h]at this;exact this
  refine⟨λσ' H'=>∃(la:Addr)(l0 l1:Addr)(ws us:List Str),σ'=[some (.ref p),some (.ref tt),some v,none,none,none,none]/\aU H H'/\v=.ref la/\H la=some (.lst [.ref l0,.ref l1])/\H l0=some (.lst (ws.map V.str))/\H l1=some (.lst (us.map V.str))/\ws.length<=30/\us.length<=30/\mj S a b d=shutB S a b ws us,?_,?_⟩
  ·refine⟨_,rfl,v,n,d,rfl,pd,_,rfl,?_⟩;cases ep:nW d with
   |false=>exact dv (dv (fin (z:=none) (aU.refl H) (xC ep)))
   |true=>
    obtain⟨d0,d1,rfl⟩:=yJ ep;obtain⟨m,la,xs,rfl,rfl,hla,pr⟩:=pd.list_of;cases pr with
    | @cons x0 _ _ _ p0 pr=>
    cases pr with
    | @cons x1 _ _ _ p1 pr=>
    cases pr;obtain⟨_,hin⟩:=hw30 _ rfl;have b0:=hin d0 Qs;have b1:=hin d1 Qs;have esh:mj S a b (.list [d0,d1])=if bZ S.pl d0=true/\bZ S.pl d1=true then shutB S a b ((dZ d0).getD []) ((dZ d1).getD [])else none:=rfl;have hprd:∀{i:Nat}{x:V},[x0,x1][i]?=some x->∃dx,[d0,d1][i]?=some dx/\PD H m x dx/\∀e,dx=.list e->e.length<=30:=λ{i x}hx=>by
     match i with
     |0=>cases hx;exact⟨d0,rfl,p0,b0⟩
     |1=>cases hx;exact⟨d1,rfl,p1,b1⟩
     |_+2=>cases hx
    refine dz ⟨_,rfl,la,rfl,⟨_,SqL.of hla⟩,bW (K:=K) (ys:=[x0,x1]) (λi acc σ' H'=>aU H H'/\acc=(([d0,d1].take i).map λx=>V.bl (bZ S.pl x))/\∃o,σ'=[o,some (.ref p)])
     ⟨aU.refl _,rfl,none,rfl⟩ (λi acc σ' H' h=>?_) (by show 2<=sizeLine;decide) (λi acc σ' H' _ h=>SqL.of (h.1 _ _ hla)) (λi x acc σ' H' hx h=>?_) (λacc σ' H' h pp hpp=>?_)⟩
    ·rw[h.2.1,ae,aQ];omega
    ·obtain⟨s1,rfl,o,rfl⟩:=h;obtain⟨dx,hd,pdx,bx⟩:=hprd hx;refine⟨_,rfl,_,rfl,p,ds,dl,S,x,m,dx,rfl,N.net.same s1,N.okP,pdx.same s1,Qo,(λe z=>ay (bx e z) Qd),λH2 s2=>⟨s1.trans s2,?_,_,rfl⟩⟩;rw[bi,hd,ah];rfl
    ·obtain⟨s1,rfl,o,rfl⟩:=h;refine⟨pp,[bZ S.pl d0,bZ S.pl d1],rfl,SqL.of ai,_,rfl,?_⟩;have z:=s1.upd (o:=.lst [V.bl (bZ S.pl d0),V.bl (bZ S.pl d1)]) hpp;cases e0:bZ S.pl d0 with
     |false=>exact dH Qr (fin (z:=none) z (by rw[esh];exact aM λw=>by rw[e0]at w;cases w.1))
     |true=>
      cases e1:bZ S.pl d1 with
      |false=>exact dH Qr (fin (z:=none) z (by rw[esh];exact aM λw=>by rw[e1]at w;cases w.2))
      |true=>
       obtain⟨l0,ws,rfl,rfl,hl0,_⟩:=dY p0 e0;obtain⟨l1,us,rfl,rfl,hl1,_⟩:=dY p1 e1;have w30:=b0 _ rfl;have u30:=b1 _ rfl;rw[ae]at w30 u30;refine cq Qr ⟨la,l0,l1,ws,us,rfl,z,rfl,hla,hl0,hl1,w30,u30,?_⟩;rw[esh,bc ⟨e0,e1⟩];have n0:dZ (.list (ws.map PyData.str))=some ws:=ff _;have n1:dZ (.list (us.map PyData.str))=some us:=ff _;rw[n0,n1];rfl
  rintro σ1 H1⟨la,l0,l1,ws,us,rfl,s1,rfl,hla,hl0,hl1,hw3,hu3,esh⟩;refine⟨_,rfl,la,_,_,.ref l0,rfl,rfl,SqL.of (s1 _ _ hla),fz (j:=0) rfl,?_⟩;refine⟨_,rfl,la,_,_,.ref l1,rfl,rfl,SqL.of (s1 _ _ hla),fz (j:=1) rfl,?_⟩;refine⟨_,rfl,_,rfl,l0,l1,_,_,rfl,rfl,s1 _ _ hl0,s1 _ _ hl1,ay (show(ws.map V.str).length +(us.map V.str).length<=60 by rw[ae,ae];omega) Qd,λhd hhd=>?_⟩;have z2:=aU.new (o:=.lst (ws.map V.str++us.map V.str)) hhd;have ehd:(upd H1 hd (.lst (ws.map V.str++us.map V.str))) hd=some (.lst ((ws++us).map V.str)):=by rw[ai,ah]
  generalize upd H1 hd (.lst (ws.map V.str++us.map V.str))=H2 at z2 ehd;have s2:=s1.trans z2;have no:∀{H'},aU H H'->¬((ws++us).Nodup/\a∈ws/\¬b∈ws++us/\((fD S.ti ws us).all λr=>decide (r.a=a)&&decide (r.b=b))=true)->Q .non H':=λz h=>fin (z:=none) z (by rw[esh];exact aM h);refine⟨λσ' H'=>σ'=[some (.ref p),some (.ref tt),some (.ref la),some (.ref l0),some (.ref l1),some (.ref hd),none]/\aU H2 H'/\(ws++us).Nodup/\a∈ws/\¬b∈ws++us,?_,?_⟩
  ·refine⟨_,rfl,hd,_,rfl,ehd,ay (show(ws++us).length<=60 by rw[aI];omega) Qd,λH3 s3=>⟨_,rfl,?_⟩⟩;have s03:=s2.trans s3;by_cases h0:(ws++us).Nodup
   ·rw[af h0];refine dz ⟨_,rfl,tt,_,_,.str a,rfl,rfl,term_a s03,rfl,_,rfl,l0,_,rfl,.inl (SqL.of (s03 _ _ hl0)),rfl,cH _,_,rfl,?_⟩;show if(if true=true then !jm (.str a) (ws.map V.str)else _)=true then _ else _;rw[bc rfl,dD];by_cases h1:a∈ws
    ·rw[af h1];refine dz ⟨_,rfl,tt,_,_,.str b,rfl,rfl,term_a s03,rfl,_,rfl,hd,_,rfl,.inl (SqL.of (s3 _ _ ehd)),rfl,cH _,_,rfl,?_⟩;show if(if false=true then _ else jm (.str b) ((ws++us).map V.str))=true then _ else _;rw[aM aG,dD];by_cases h2:b∈ws++us
     ·rw[af h2];exact dv (no s03 λz=>z.2.2.1 h2)
     ·rw[am h2];exact dz ⟨rfl,s3,h0,h1,h2⟩
    ·rw[am h1];exact dv (dv (no s03 λz=>h1 z.2.1))
   ·rw[am h0];exact dv (dv (no s03 λz=>h0 z.1))
  rintro σ3 H3⟨rfl,s3,h0,h1,h2⟩;have s03:=s2.trans s3;have ehd3:=s3 _ _ ehd;refine⟨λσ' H'=>∃(rl:Addr)(LA:List (dw×Addr)),σ'=[some (.ref p),some (.ref tt),some (.ref la),some (.ref l0),some (.ref l1),some (.ref hd),some (.ref rl)]/\aU H3 H'/\Rows H' LA (fD S.ti ws us)/\H' rl=some (.lst (LA.map λq=>V.ref q.2)),?_,?_⟩
  ·have NA:=N.net.same s03;obtain⟨dx,hob⟩:=NA.ob;refine⟨_,rfl,p,dx,_,rfl,hob,df ds dl Qk Qk,p,ds,dl,S,rfl,NA,λtl H4 L htl s4 RL etl=>?_⟩;have RL4:=RL.same s4;have hL:L.length=S.ti.length:=by rw[<-RL.1,ae]
   have hl04:=s4 _ _ (s03 _ _ hl0);have ehd4:=s4 _ _ ehd3;refine⟨tl,rfl,⟨_,SqL.of etl⟩,bW (K:=K) (ys:=L.map λq=>V.ref q.2) (λi acc σ' H'=>H'=H4/\acc=((L.take i).filter λq=>decide (q.1.a∈ws)&& !decide (q.1.b∈ws++us)).map (λq=>V.ref q.2)/\∃o,σ'=[o,some (.ref l0),some (.ref hd)])
    ⟨rfl,rfl,none,rfl⟩ (λi acc σ' H' h=>?_) ?_ (λi acc σ' H' _ h=>by rw[h.1];exact SqL.of etl) (λi x acc σ' H' hx h=>?_) (λacc σ' H' h rl hrl=>?_)⟩
   ·obtain⟨_,rfl,_⟩:=h;rw[ae];exact ay (bu _ _) (by rw[aQ];omega)
   ·rw[ae,hL];exact ay N.few Qd
   ·obtain⟨rfl,rfl,o3,rfl⟩:=h;rw[ap]at hx;cases eq:L[i]? with
    |none=>rw[eq]at hx;cases hx
    |some qq=>
     rw[eq]at hx;cases hx;have ht:=RL4.2 qq (ao eq);have tk:=λc hc=>jz (f:=λq:dw×Addr=>decide (q.1.a∈ws)&& !decide (q.1.b∈ws++us)) eq c hc;refine⟨_,rfl,qq.2,_,_,.str qq.1.a,rfl,rfl,cG.of ht,rfl,_,rfl,l0,_,rfl,.inl (SqL.of hl04),rfl,cH _,_,rfl,?_⟩;show if(if false=true then _ else jm (.str qq.1.a) (ws.map V.str))=true then _ else _;rw[aM aG,dD];by_cases g1:qq.1.a∈ws
     ·rw[af g1];refine dv ⟨_,rfl,qq.2,_,_,.str qq.1.b,rfl,rfl,cG.of ht,rfl,_,rfl,hd,_,rfl,.inl (SqL.of ehd4),rfl,cH _,_,rfl,?_⟩;show if(if true=true then !jm (.str qq.1.b) ((ws++us).map V.str)else _)=true then _ else _;rw[bc rfl,dD];by_cases g2:qq.1.b∈ws++us
      ·rw[af g2];refine dz ⟨rfl,?_,_,rfl⟩;rw[tk false (by rw[af g2,jU,l_])];simp
      ·rw[am g2];refine dv ⟨_,rfl,rfl,?_,_,rfl⟩;rw[tk true (by rw[af g1,am g2];rfl),ah];rfl
     ·rw[am g1];refine dz (dz ⟨rfl,?_,_,rfl⟩);rw[tk false (by rw[am g1,lZ])];simp
   ·obtain⟨rfl,rfl,o3,rfl⟩:=h;rw[ae,bf];have z:=aU.new (o:=.lst ((L.filter λq=>decide (q.1.a∈ws)&& !decide (q.1.b∈ws++us)).map λq=>V.ref q.2)) hrl;refine⟨rl,_,rfl,s4.trans z,⟨?_,λq hq=>z _ _ (RL4.2 q (bK.mp hq).1)⟩,ai⟩;unfold fD;rw[<-RL.1,List.filter_map];rfl
  rintro σ4 H4⟨rl,LA,rfl,s4,RA,erl⟩;have s04:=s03.trans s4;have hLA:LA.length=(fD S.ti ws us).length:=by rw[<-RA.1,ae]
  have h40:(fD S.ti ws us).length<=40:=ay (bu _ _) N.few;refine⟨λσ' H'=>σ'=[some (.ref p),some (.ref tt),some (.ref la),some (.ref l0),some (.ref l1),some (.ref hd),some (.ref rl)]/\aU H4 H'/\((fD S.ti ws us).all λr=>decide (r.a=a)&&decide (r.b=b))=true,?_,?_⟩
  ·refine⟨_,rfl,rl,rfl,⟨_,SqL.of erl⟩,bW (K:=K) (ys:=LA.map λq=>V.ref q.2) (λi acc σ' H'=>H'=H4/\acc=(((fD S.ti ws us).take i).map λr=>V.bl (decide (r.a=a)&&decide (r.b=b)))/\∃o,σ'=[o,some (.ref tt)])
    ⟨rfl,rfl,none,rfl⟩ (λi acc σ' H' h=>?_) (by rw[ae,hLA];exact ay h40 Qd) (λi acc σ' H' _ h=>by rw[h.1];exact SqL.of erl) (λi x acc σ' H' hx h=>?_) (λacc σ' H' h pp hpp=>?_)⟩
   ·rw[h.2.1,ae,aQ];omega
   ·obtain⟨rfl,rfl,o3,rfl⟩:=h;rw[ap]at hx;cases eq:LA[i]? with
    |none=>rw[eq]at hx;cases hx
    |some qq=>
     rw[eq]at hx;cases hx;have ht:=RA.2 qq (ao eq);have er:(fD S.ti ws us)[i]?=some qq.1:=by rw[<-RA.1,ap,eq];rfl
     have tk:((fD S.ti ws us).take (i+1)).map (λr:dw=>V.bl (decide (r.a=a)&&decide (r.b=b)))=((fD S.ti ws us).take i).map (λr:dw=>V.bl (decide (r.a=a)&&decide (r.b=b)))++[V.bl (decide (qq.1.a=a)&&decide (qq.1.b=b))]:=by
      rw[bi,er,ah];rfl
     refine⟨_,rfl,qq.2,_,_,.str qq.1.a,rfl,rfl,cG.of ht,rfl,_,rfl,tt,_,_,.str a,rfl,rfl,term_a s04,rfl,rfl,_,rfl,?_⟩;by_cases g1:qq.1.a=a
     ·refine dH (by simp[g1]) ⟨_,rfl,qq.2,_,_,.str qq.1.b,rfl,rfl,cG.of ht,rfl,_,rfl,tt,_,_,.str b,rfl,rfl,term_a s04,rfl,rfl,rfl,?_,_,rfl⟩;rw[tk];congr 3;by_cases g2:qq.1.b=b
      ·simp[g1,g2]
      ·simp[g1,g2]
     ·refine cq (by simp[g1]) ⟨rfl,?_,_,rfl⟩;rw[tk];congr 3;simp[g1]
   ·obtain⟨rfl,rfl,o3,rfl⟩:=h;rw[ae,hLA,bf];refine⟨pp,(fD S.ti ws us).map λr=>decide (r.a=a)&&decide (r.b=b),rfl,SqL.of (by rw[ai,bm];rfl),_,rfl,?_⟩;have z:=aU.new (o:=.lst ((fD S.ti ws us).map λr=>V.bl (decide (r.a=a)&&decide (r.b=b)))) hpp;generalize upd H' pp (.lst ((fD S.ti ws us).map λr=>V.bl (decide (r.a=a)&&decide (r.b=b))))=H5 at z;have ea:((fD S.ti ws us).map λr=>decide (r.a=a)&&decide (r.b=b)).all id=(fD S.ti ws us).all λr=>decide (r.a=a)&&decide (r.b=b):=by rw[f_];rfl
    rw[ea];cases e1:((fD S.ti ws us).all λr=>decide (r.a=a)&&decide (r.b=b))with
    |true=>exact dz ⟨rfl,z,rfl⟩
    |false=>exact dv (no (s04.trans z) λw=>by rw[e1]at w;cases w.2.2.2)
  rintro σ5 H5⟨rfl,s5,hall⟩;have s05:=s04.trans s5;refine⟨_,rfl,l1,_,rfl,.inl (SqL.of (s05 _ _ hl1)),_,rfl,rl,_,rfl,.inl (SqL.of (s5 _ _ erl)),_,_,rfl,rfl,?_⟩;rw[ae,ae,hLA];exact fin (z:=some ((us.length:Int)+((fD S.ti ws us).length:Int))) s05 (by rw[esh];exact bc ⟨h0,h1,h2,hall⟩)
end
end Net
namespace Net
open PySem L2
section
variable{P:Program}{w:World}{K:ag}{mg:Str->Option Value}{base:Heap}{C:Addr}
end
end Net
namespace Net
open PySem L2
end Net
namespace Net
open PySem L2
end Net
namespace Net
open PySem L2
def Gw{α β:Type}(f:α->Option β):List α->Option (List β)
 |[]=>some []
 |x::xs=>match f x with
  |none=>none
  |some y=>(Gw f xs).map (y:: ·)
def vZ(d:PyData):List Str:=(dZ d).getD []
def G8(S:NS)(s t:Kd):PyData->Option dw
 |.list [.str y,d1,d2]=>match pk S.ti y with
  |none=>none
  |some r=>if wE S s r.a d1=true/\wE S t r.b d2=true then some r else none
 |_=>none
def EL(S:NS)(s t:Kd):PyData->Option Int
 |.list ds=>match Gw (G8 S s t) ds with
  |none=>none
  |some rs=>if(rs.map (·.a)).Nodup/\(rs.map (·.b)).Nodup then some (ds.length:Int)else none
 |_=>none
def ja(S:NS)(s t:Kd):PyData->Option Int
 |.list [d0,d1,d2,d3]=>if e_ S s d0=true/\e_ S t d1=true/\bZ S.pl d2=true/\bZ S.pl d3=true/\(∀r∈S.ti,r.a∈vZ d0->r.b∈vZ d1->r.a∈vZ d2\/r.b∈vZ d3)then some (((vZ d2).length:Int)+(vZ d3).length)else none
 |_=>none
def ly(H:Hp)(tt:Addr)(s t:Kd):Prop:=∃st ut,H tt=some (.tup [.str "pairs",.ref st,.ref ut])/\jR H st s/\jR H ut t
theorem ly.same{H H':Hp}{tt:Addr}{s t:Kd}(z:aU H H')(h:ly H tt s t):ly H' tt s t:=let⟨st,ut,a,b,c⟩:=h;⟨st,ut,z _ _ a,b.same z,c.same z⟩
theorem su.len{d:PyData}{n:Nat}(h:su (n+1) d):∀e,d=.list e->e.length<=1000:=λe z=>by rw[z]at h;exact h.1
theorem su.item{d:PyData}{n:Nat}(h:su (n+1) d){e:List PyData}(z:d=.list e):∀x∈e,su n x:=by rw[z]at h;exact h.2
def vB(C:Addr)(ab:Bool):Sp:=λvs H Q _=>∃(p ds dl tt:Addr)(S:NS)(s t:Kd)(v:V)(n:Nat)(d:PyData),vs=[.ref p,.ref tt,v]/\fW C H p ds dl S/\ly H tt s t/\oz S s/\oz S t/\PD H n v d/\n<=50/\su 3 d/\
 ∀H',aU H H'->Q (oV (if ab then ja S s t d else EL S s t d)) H'
theorem G9{d:PyData}(h:nV 4 d=true):∃d0 d1 d2 d3,d=.list [d0,d1,d2,d3]:=by
 cases d<;>first|(cases h;done)|skip
 rename_i ds;have h':ds.length=4:=aK h
 match ds,h' with
 |[a,b,c,e],_=>exact⟨a,b,c,e,rfl⟩
theorem yT{S:NS}{s t:Kd}{d:PyData}(h:nV 4 d=false):ja S s t d=none:=by
 unfold ja;split
 ·cases h
 ·rfl
section
variable{P:Program}{w:World}{K:ag}{mg:Str->Option Value}{base:Heap}{C:Addr}
end
end Net
namespace Net
open PySem L2
section
variable{P:Program}{w:World}{K:ag}{mg:Str->Option Value}{base:Heap}{C:Addr}
abbrev DM:List Str:=["net","term","paper","left","right","across"]
theorem jZ:bG DM ["net","term","paper"] (aA s_pairs_above):=⟨rfl,rfl,rfl,Qk,rfl,Qk,Qk⟩
theorem xT{f:Addr}{fd:FuncData}(F:fI K "pairs_above" "pairs_above" s_pairs_above f fd)(T:fo K mg C)(cis_row:dc P w K mg base 1 "is_row" ["paper","many"] pW)(cis_within:dc P w K mg base 4 "is_within" ["net","kind","paper"] (pe C))(care_unlike_places:dc P w K mg base 3 "are_unlike_places" ["net","paper"] (iD C))(m_ties:gt P w K mg base 1 C "ties" ["self"] (iu C)):FnOk P w K mg base fA 7 f fd ["net","term","paper"] (vB C true):=by
 refine F.ok jZ (λvs H Q E h=>?_) (λcdv A outer s H vs Q E hr h=>?_)
 ·obtain⟨p,ds,dl,tt,S,s',t',v,n,d,rfl,_⟩:=h;rfl
 ·obtain⟨p,ds,dl,tt,S,ks,kt,v,n,d,rfl,N,⟨st,ut,ett,hks,hkt⟩,oks,okt,pd,n50,dlen,q⟩:=h;have r:c_ 1 _:=hr.mono Qd;have r3:c_ 3 _:=hr.mono Qd;have r4:c_ 4 _:=hr.mono Qd;have nd_0:List.Nodup (["row","paper"]:List Str):=Qk;have nd_1:List.Nodup (["row","left","right"]:List Str):=Qk;refine⟨_,(dA (b9 (PW.pt (jg (dB (cY (ba cis_row r Qr (pa_cons (pv 2) (pa_cons aD pa_nil))))) (jg (dB (cY (ba cis_within r4 Qr (pa_cons (pv 0) (pa_cons (bw bV (pv 1) aD (λ_ _=>Qr)) (pa_cons (bw cP (pv 2) aD (λ_ _=>Qr)) pa_nil)))))) (iS (dB (cY (ba cis_within r4 Qr (pa_cons (pv 0) (pa_cons (bw bV (pv 1) aD (λ_ _=>Qr)) (pa_cons (bw cP (pv 2) aD (λ_ _=>Qr)) pa_nil)))))))))) (aS (bC h_)) bF)
   (ax (bH (i:=3) jZ.nd rfl (iz rfl) (bw cP (pv 2) aD (λ_ _=>Qr)))
   (ax (bH (i:=4) jZ.nd rfl (iz rfl) (bw cP (pv 2) aD (λ_ _=>Qr)))
   (dA (b9 (PW.pt (jg (dB (cY (ba care_unlike_places r3 Qr (pa_cons (pv 0) (pa_cons (pv 3) pa_nil))))) (iS (dB (cY (ba care_unlike_places r3 Qr (pa_cons (pv 0) (pa_cons (pv 4) pa_nil)))))))) (aS (bC h_)) bF)
   (ax (gd (j:=5) (N:=["row","paper"]) (xs:=1) (js:=[2]) rfl jZ.nd rfl rfl (bt rfl) (bU (cB (pv 0) T.cl m_ties r)) (λ_ _ _ _=>be (i:=0) nd_0 rfl (aN rfl)) (λ_ _ _ _=>gb (PW.pt (nz (bJ (ib K Qr) (bw (cx K Qr) (pv 0) aD (λ_ _=>Qr)) (bw (rJ K Qr) (pv 1) aD (λ_ _=>Qr)) Qw) (kT (bJ (ib K Qr) (bw (cx K Qr) (pv 0) aD (λ_ _=>Qr)) (bw (rJ K Qr) (pv 1) aD (λ_ _=>Qr)) Qw))))) (λ_ _ _ _=>pv 0) rfl)
   (ax (b9 (dB (cY (pe_callB (gE rfl) Qr T.all mB (pa_cons (cW (N:=["row","left","right"]) (xs:=1) (js:=[3,4]) rfl (bt rfl) (bU (pv 5)) (λ_ _ _ _=>be (i:=0) nd_1 rfl (aN rfl)) (λ_ _ _ _=>cV) (λ_ _ _ _=>D8 (dJ (ib K Qr) (bw (cx K Qr) (pv 0) aD (λ_ _=>Qr)) (pv 1) Qw) (iU (dJ (ib K Qr) (bw (cx K Qr) (pv 0) aD (λ_ _=>Qr)) (pv 2) Qw)))) pa_nil)))) (aS (bC h_)) bF)
   (aS (bC (bP dG (pe_callB call_len_seq Qr T.len b_len (pa_cons (pv 3) pa_nil)) (pe_callB call_len_seq Qr T.len b_len (pa_cons (pv 4) pa_nil))))))))))),?_⟩
  have q':∀H',aU H H'->Q (oV (ja S ks kt d)) H':=q;have no:∀{H':Hp},aU H H'->ja S ks kt d=none->Q .non H':=λ{H'}s' z=>by have:=q' H' s';rw[z]at this;exact this
  refine⟨λσ' H'=>∃(l:Addr)(x0 x1 x2 x3:V)(d0 d1 d2 d3:PyData)(m:Nat),σ'=[some (.ref p),some (.ref tt),some (.ref l),none,none,none]/\aU H H'/\n=m+1/\H l=some (.lst [x0,x1,x2,x3])/\d=.list [d0,d1,d2,d3]/\PD H m x0 d0/\PD H m x1 d1/\PD H m x2 d2/\PD H m x3 d3/\e_ S ks d0=true/\e_ S kt d1=true,?_,?_⟩
  ·refine⟨_,rfl,v,n,d,4,rfl,pd,_,rfl,?_⟩;cases ep:nV 4 d with
   |false=>exact dv (dv (no (aU.refl H) (yT ep)))
   |true=>
    obtain⟨d0,d1,d2,d3,rfl⟩:=G9 ep;obtain⟨m,l,xs,rfl,rfl,hl,pr⟩:=pd.list_of;cases pr with
    | @cons x0 _ _ _ p0 pr=>
    cases pr with
    | @cons x1 _ _ _ p1 pr=>
    cases pr with
    | @cons x2 _ _ _ p2 pr=>
    cases pr with
    | @cons x3 _ _ _ p3 pr=>
    cases pr;have it:=dlen.item rfl;refine dz ⟨_,rfl,_,rfl,tt,_,_,.ref st,rfl,rfl,cG.of ett,rfl,_,rfl,l,_,_,x0,rfl,rfl,SqL.of hl,fz (j:=0) rfl,p,ds,dl,st,S,ks,x0,m,d0,rfl,N,hks,oks,p0,Qo,(it d0 au).len,λH1 s1=>⟨_,rfl,?_⟩⟩;cases e0:e_ S ks d0 with
    |false=>exact dv (dv (no s1 (aM λz=>by rw[e0]at z;exact aG z.1)))
    |true=>
     refine dz ⟨_,rfl,_,rfl,tt,_,_,.ref ut,rfl,rfl,cG.of (s1 _ _ ett),rfl,_,rfl,l,_,_,x1,rfl,rfl,SqL.of (s1 _ _ hl),fz (j:=1) rfl,p,ds,dl,ut,S,kt,x1,m,d1,rfl,N.same s1,hkt.same s1,okt,p1.same s1,Qo,(it d1 (aq _ au)).len,λH2 s2=>⟨_,rfl,?_⟩⟩;cases e1:e_ S kt d1 with
     |false=>exact dv (no (s1.trans s2) (aM λz=>by rw[e1]at z;exact aG z.2.1))
     |true=>exact dz ⟨l,x0,x1,x2,x3,d0,d1,d2,d3,m,rfl,s1.trans s2,rfl,hl,rfl,p0,p1,p2,p3,e0,e1⟩
  rintro σ1 H1⟨l,x0,x1,x2,x3,d0,d1,d2,d3,m,rfl,s1,rfl,hl,rfl,p0,p1,p2,p3,e0,e1⟩;have it:=dlen.item rfl;have hl1:=s1 _ _ hl;refine⟨_,rfl,l,_,_,x2,rfl,rfl,SqL.of hl1,fz (j:=2) rfl,?_⟩;refine⟨_,rfl,l,_,_,x3,rfl,rfl,SqL.of hl1,fz (j:=3) rfl,?_⟩;have un:∀{k:Kd}{d:PyData},e_ S k d=true->bZ S.pl d=true:=λ{k d}h=>by
   cases d<;>first|(cases h;done)|skip
   rename_i e;have h':(match fO e with|some ws=>ga S k ws|none=>false)=true:=h;show(match fO e with|some ws=>fb S.pl ws|none=>false)=true;cases e1:fO e with
   |none=>rw[e1]at h';cases h'
   |some ws=>
    rw[e1]at h';have h2:(fb S.pl ws&&withinK S k ws)=true:=h';rw[dj]at h2;exact h2.1
  have nmW:∀ws:List Str,vZ (.list (ws.map PyData.str))=ws:=λws=>by
   show(fO (ws.map PyData.str)).getD []=ws;rw[ff];rfl
  refine⟨λσ' H'=>∃(l2 l3:Addr)(u2 u3:List Str),σ'=[some (.ref p),some (.ref tt),some (.ref l),some (.ref l2),some (.ref l3),none]/\aU H1 H'/\x2=.ref l2/\x3=.ref l3/\H l2=some (.lst (u2.map V.str))/\H l3=some (.lst (u3.map V.str))/\d2=.list (u2.map PyData.str)/\d3=.list (u3.map PyData.str)/\bZ S.pl d2=true/\bZ S.pl d3=true,?_,?_⟩
  ·refine⟨_,rfl,_,rfl,p,ds,dl,S,x2,m,d2,rfl,N.net.same s1,N.okP,p2.same s1,Qo,(it d2 (aq _ (aq _ au))).len,λH2 s2=>⟨_,rfl,?_⟩⟩;cases e2:bZ S.pl d2 with
   |false=>exact dv (dv (no (s1.trans s2) (aM λz=>by rw[e2]at z;exact aG z.2.2.1)))
   |true=>
    refine dz ⟨_,rfl,_,rfl,p,ds,dl,S,x3,m,d3,rfl,N.net.same (s1.trans s2),N.okP,p3.same (s1.trans s2),Qo,(it d3 (aq _ (aq _ (aq _ au)))).len,λH3 s3=>⟨_,rfl,?_⟩⟩;cases e3:bZ S.pl d3 with
    |false=>exact dv (no (s1.trans (s2.trans s3)) (aM λz=>by rw[e3]at z;exact aG z.2.2.2.1))
    |true=>
     obtain⟨l2,u2,rfl,rfl,h2,_⟩:=dY p2 e2;obtain⟨l3,u3,rfl,rfl,h3,_⟩:=dY p3 e3;exact dz ⟨l2,l3,u2,u3,rfl,s2.trans s3,rfl,rfl,h2,h3,rfl,rfl,rfl,rfl⟩
  rintro σ2 H2⟨l2,l3,u2,u3,rfl,s2,rfl,rfl,h2,h3,rfl,rfl,e2,e3⟩;obtain⟨l0,u0,rfl,rfl,h0,_⟩:=dY p0 (un e0);obtain⟨l1,u1,rfl,rfl,h1,_⟩:=dY p1 (un e1);have s02:=s1.trans s2;have NA:=N.net.same s02;obtain⟨dx,hob⟩:=NA.ob;refine⟨_,rfl,p,dx,_,rfl,hob,df ds dl Qk Qk,p,ds,dl,S,rfl,NA,λtl H3 L htl s3 RL etl=>?_⟩;have RL3:=RL.same s3;have hL:L.length=S.ti.length:=by rw[<-RL.1,ae]
  have s03:=s02.trans s3;have hl3:=s03 _ _ hl;have f:=λ(q:dw×Addr)=>decide (q.1.a∈u0)&&decide (q.1.b∈u1);refine⟨tl,rfl,⟨_,SqL.of etl⟩,bW (K:=K) (ys:=L.map λq=>V.ref q.2) (λi acc σ' H'=>H'=H3/\acc=((L.take i).filter λq=>decide (q.1.a∈u0)&&decide (q.1.b∈u1)).map (λq=>V.ref q.2)/\∃o,σ'=[o,some (.ref l)])
   ⟨rfl,rfl,none,rfl⟩ (λi acc σ' H' h=>?_) ?_ (λi acc σ' H' _ h=>by rw[h.1];exact SqL.of etl) (λi x acc σ' H' hx h=>?_) (λacc σ' H' h rl hrl=>?_)⟩
  ·obtain⟨_,rfl,_⟩:=h;rw[ae];exact ay (bu _ _) (by rw[aQ];omega)
  ·rw[ae,hL];exact ay N.few Qd
  ·obtain⟨rfl,rfl,o3,rfl⟩:=h;rw[ap]at hx;cases eq:L[i]? with
   |none=>rw[eq]at hx;cases hx
   |some qq=>
    rw[eq]at hx;cases hx;have ht:=RL3.2 qq (ao eq);have tk:=λc hc=>jz (f:=λq:dw×Addr=>decide (q.1.a∈u0)&&decide (q.1.b∈u1)) eq c hc;refine⟨_,rfl,qq.2,_,_,.str qq.1.a,rfl,rfl,cG.of ht,rfl,_,rfl,l,_,_,.ref l0,rfl,rfl,SqL.of hl3,fz (j:=0) rfl,l0,_,rfl,.inl (SqL.of (s03 _ _ h0)),rfl,cH _,_,rfl,?_⟩;show if(if false=true then _ else jm (.str qq.1.a) (u0.map V.str))=true then _ else _;rw[aM aG,dD];by_cases g1:qq.1.a∈u0
    ·rw[af g1];refine dv ⟨_,rfl,qq.2,_,_,.str qq.1.b,rfl,rfl,cG.of ht,rfl,_,rfl,l,_,_,.ref l1,rfl,rfl,SqL.of hl3,fz (j:=1) rfl,l1,_,rfl,.inl (SqL.of (s03 _ _ h1)),rfl,cH _,_,rfl,?_⟩;show if(if false=true then _ else jm (.str qq.1.b) (u1.map V.str))=true then _ else _;rw[aM aG,dD];by_cases g2:qq.1.b∈u1
     ·rw[af g2];refine dv ⟨_,rfl,rfl,?_,_,rfl⟩;rw[tk true (by rw[af g1,af g2];rfl),ah];rfl
     ·rw[am g2];refine dz ⟨rfl,?_,_,rfl⟩;rw[tk false (by rw[af g1,am g2];rfl)];simp
    ·rw[am g1];refine dz (dz ⟨rfl,?_,_,rfl⟩);rw[tk false (by rw[am g1];rfl)];simp
  obtain⟨rfl,rfl,o3,rfl⟩:=h;have hlen:(L.map λq=>V.ref q.2).length=L.length:=ae ..;rw[hlen,bf];have inL:∀qq∈(L.filter λq=>decide (q.1.a∈u0)&&decide (q.1.b∈u1)),qq∈L:=λqq h=>(bK.mp h).1;have inM:∀r∈S.ti,r.a∈u0->r.b∈u1->∃qq∈(L.filter λq=>decide (q.1.a∈u0)&&decide (q.1.b∈u1)),qq.1=r:=λr hr ha hb=>by
   rw[<-RL.1]at hr;obtain⟨qq,hq,rfl⟩:=aj.mp hr;exact⟨qq,bK.mpr ⟨hq,by rw[af ha,af hb];rfl⟩,rfl⟩
  have inN:∀qq∈(L.filter λq=>decide (q.1.a∈u0)&&decide (q.1.b∈u1)),qq.1∈S.ti/\qq.1.a∈u0/\qq.1.b∈u1:=λqq h=>by
   obtain⟨h1,h2⟩:=bK.mp h;rw[dj]at h2;exact⟨by rw[<-RL.1];exact aj.mpr ⟨qq,h1,rfl⟩,aK h2.1,aK h2.2⟩
  have ml:(L.filter λq=>decide (q.1.a∈u0)&&decide (q.1.b∈u1)).length<=L.length:=bu _ _;generalize(L.filter λq=>decide (q.1.a∈u0)&&decide (q.1.b∈u1))=M at inL inM inN ml;have z4:=aU.new (o:=.lst (M.map λq=>V.ref q.2)) hrl;have e4:(upd H' rl (.lst (M.map λq=>V.ref q.2))) rl=some (.lst (M.map λq=>V.ref q.2)):=ai;generalize upd H' rl (.lst (M.map λq=>V.ref q.2))=H4 at z4 e4;have s04:=s03.trans z4;have hl24:=s04 _ _ h2;have hl34:=s04 _ _ h3;have fin:ja S ks kt (.list [.list (u0.map PyData.str),.list (u1.map PyData.str),.list (u2.map PyData.str),.list (u3.map PyData.str)])=if(M.all λqq=>decide (qq.1.a∈u2)||decide (qq.1.b∈u3))=true then some ((u2.length:Int)+u3.length)else none:=by
   show(if e_ S ks (.list (u0.map PyData.str))=true/\e_ S kt (.list (u1.map PyData.str))=true/\bZ S.pl (.list (u2.map PyData.str))=true/\bZ S.pl (.list (u3.map PyData.str))=true/\(∀r∈S.ti,r.a∈vZ (.list (u0.map PyData.str))->r.b∈vZ (.list (u1.map PyData.str))->r.a∈vZ (.list (u2.map PyData.str))\/r.b∈vZ (.list (u3.map PyData.str)))then some (((vZ (.list (u2.map PyData.str))).length:Int)+(vZ (.list (u3.map PyData.str))).length)else none)=_;rw[nmW,nmW,nmW,nmW];by_cases hm:(M.all λqq=>decide (qq.1.a∈u2)||decide (qq.1.b∈u3))=true
   ·rw[bc hm];refine bc ⟨e0,e1,e2,e3,λr hr ha hb=>?_⟩;obtain⟨qq,hq,rfl⟩:=inM r hr ha hb;have:=ce.mp hm qq hq;rw[Ep]at this;exact this.imp aK aK
   ·rw[aM hm];refine aM λz=>hm (ce.mpr λqq hq=>?_);obtain⟨h1,h2,h3⟩:=inN qq hq;rw[Ep];exact(z.2.2.2.2 qq.1 h1 h2 h3).imp af af
  refine⟨_,rfl,rl,rfl,⟨_,SqL.of e4⟩,bW (K:=K) (ys:=M.map λq=>V.ref q.2) (λi acc σ' H'=>H'=H4/\acc=((M.take i).map λqq=>V.bl (decide (qq.1.a∈u2)||decide (qq.1.b∈u3)))/\∃o,σ'=[o,some (.ref l2),some (.ref l3)])
   ⟨rfl,rfl,none,rfl⟩ (λi acc σ' H' h=>?_) ?_ (λi acc σ' H' _ h=>by rw[h.1];exact SqL.of e4) (λi x acc σ' H' hx h=>?_) (λacc σ' H' h pp hpp=>?_)⟩
  ·rw[h.2.1,ae,aQ];omega
  ·rw[ae];have:=N.few;exact ay (show M.length<=1000 by omega) Qd
  ·obtain⟨rfl,rfl,o4,rfl⟩:=h;rw[ap]at hx;cases eq:M[i]? with
   |none=>rw[eq]at hx;cases hx
   |some qq=>
    rw[eq]at hx;cases hx;have ht:=(s3.trans z4) _ _ ((RL.2 qq (inL qq (ao eq))));have tk:∀c,(decide (qq.1.a∈u2)||decide (qq.1.b∈u3))=c->((M.take (i+1)).map λqq:dw×Addr=>V.bl (decide (qq.1.a∈u2)||decide (qq.1.b∈u3)))=((M.take i).map λqq:dw×Addr=>V.bl (decide (qq.1.a∈u2)||decide (qq.1.b∈u3)))++[V.bl c]:=λc hc=>by
     rw[bi,eq,ah,<-hc];rfl
    refine⟨_,rfl,qq.2,_,_,.str qq.1.a,rfl,rfl,cG.of ht,rfl,_,rfl,l2,_,rfl,.inl (SqL.of hl24),rfl,cH _,_,rfl,?_⟩;show if(if false=true then _ else jm (.str qq.1.a) (u2.map V.str))=true then _ else _;rw[aM aG,dD];by_cases g1:qq.1.a∈u2
    ·rw[af g1];refine dv ⟨rfl,?_,_,rfl⟩;rw[tk true (by rw[af g1];rfl)]
    ·rw[am g1];refine dz ⟨_,rfl,qq.2,_,_,.str qq.1.b,rfl,rfl,cG.of ht,rfl,_,rfl,l3,_,rfl,.inl (SqL.of hl34),rfl,cH _,rfl,?_,_,rfl⟩;show _++[V.bl (if false=true then _ else jm (.str qq.1.b) (u3.map V.str))]=_;rw[aM aG,dD,tk _ rfl,am g1,Bool.false_or]
  obtain⟨rfl,rfl,o4,rfl⟩:=h;rw[ae,bf];refine⟨pp,M.map λqq=>(decide (qq.1.a∈u2)||decide (qq.1.b∈u3)),rfl,SqL.of (by rw[ai,bm];rfl),_,rfl,?_⟩;have s5:=s04.upd (o:=.lst (M.map λqq=>V.bl (decide (qq.1.a∈u2)||decide (qq.1.b∈u3)))) hpp;generalize upd H' pp (.lst (M.map λqq=>V.bl (decide (qq.1.a∈u2)||decide (qq.1.b∈u3))))=H5 at s5;have ea:(M.map λqq=>(decide (qq.1.a∈u2)||decide (qq.1.b∈u3))).all id=M.all λqq=>(decide (qq.1.a∈u2)||decide (qq.1.b∈u3)):=by rw[f_];rfl
  rw[ea];cases eb:M.all λqq=>(decide (qq.1.a∈u2)||decide (qq.1.b∈u3))with
  |false=>exact dv (no s5 (by rw[fin,aM (by rw[eb];exact aG)]))
  |true=>
   refine dz ⟨_,rfl,l2,_,rfl,.inl (SqL.of (s5 _ _ h2)),_,rfl,l3,_,rfl,.inl (SqL.of (s5 _ _ h3)),_,_,rfl,rfl,?_⟩;have:=q' H5 s5;rw[fin,bc eb]at this;rw[ae,ae];exact this
theorem D9:decide (V.str "pairs"=V.str "number")=false:=Qk
theorem A0:decide (V.str "pairs"=V.str "size")=false:=Qk
theorem vW:decide (V.str "pairs"=V.str "pairs")=true:=Qk
end
end Net
namespace Net
open PySem L2
abbrev cZ:=V×aJ×aJ
def sm(H:Hp)(q:cZ×Addr):Prop:=∃yb ye,H q.2=some (.tup [q.1.1,yb,ye])/\q.1.2.1.at_ H yb/\q.1.2.2.at_ H ye
theorem sm.same{H H':Hp}{q:cZ×Addr}(s:aU H H')(h:sm H q):sm H' q:=let⟨yb,ye,e,h1,h2⟩:=h;⟨yb,ye,s _ _ e,h1.same s,h2.same s⟩
def ox(H:Hp)(L:List (cZ×Addr))(T:List cZ):Prop:=L.map (·.1)=T/\∀q∈L,sm H q
theorem ox.same{H H':Hp}{L:List (cZ×Addr)}{T:List cZ}(s:aU H H')(h:ox H L T):ox H' L T:=⟨h.1,λq hq=>(h.2 q hq).same s⟩
inductive mE(T:List cZ)(a:aJ):List V->List aJ->aJ->Prop
 |nil:mE T a [] [a] a
 |snoc {ws:List V} {vis:List aJ} {x y:aJ} {nm:V} (p:mE T a ws vis x) (h:(nm,x,y)∈T) (hy:y∉vis):mE T a (ws++[nm]) (vis++[y]) y
def lC(T:List cZ)(S:List aJ):Prop:=∀t∈T,t.2.1∈S->t.2.2∈S
instance decMem(x:aJ)(l:List aJ):Decidable (x∈l):=decidable_of_iff ((l.any λy=>decide (y=x))=true) (by rw[cD];exact⟨λ⟨y,h,e⟩=>aK e▸h,λh=>⟨x,h,af rfl⟩⟩)
abbrev oA:=aJ×List V×Addr
def fE(G:List oA):List (aJ×V):=G.map λg=>(g.1,V.ref g.2.2)
def bD(G:List oA):List aJ:=G.map (·.1)
structure kq(H:Hp)(d:Addr)(T:List cZ)(a:aJ)(G:List oA):Prop where
 ob:H d=some (.dM (fE G))
 ws:∀g∈G,H g.2.2=some (.lst g.2.1)/\(∃vis,mE T a g.2.1 vis g.1/\∀x∈vis,x∈bD G)/\g.2.1.length<G.length
 nd:(bD G).Nodup
theorem kq.same{H H':Hp}{d:Addr}{T:List cZ}{a:aJ}{G:List oA}(s:aU H H')(h:kq H d T a G):kq H' d T a G:=
 ⟨s _ _ h.ob,λg hg=>⟨s _ _ (h.ws g hg).1,(h.ws g hg).2⟩,h.nd⟩
theorem j8{G:List oA}{x:aJ}(h:x∈bD G):∃g∈G,g.1=x/\valV (fE G) x=some (.ref g.2.2):=by
 induction G with
 |nil=>exact nomatch h
 |cons g r ih=>
  by_cases e:g.1=x
  ·exact⟨g,au,e,g8 e⟩
  ·have h':x∈bD r:=by
    rcases bd.mp h with z|z
    ·exact absurd z.symm e
    ·exact z
   obtain⟨g',h1,h2,h3⟩:=ih h';refine⟨g',aq _ h1,h2,?_⟩;show valV (_::fE r) _=_;rw[g9 e];exact h3
theorem jM{G:List oA}{x:aJ}(h:x∉bD G):valV (fE G) x=none:=by
 cases e:valV (fE G) x with
 |none=>rfl
 |some v=>
  have:=mO e;unfold fE at this;rw[bm]at this;obtain⟨y,hy,e2⟩:=aj.mp this;exact absurd (aj.mpr ⟨y,hy,e2⟩) h
theorem jL(G:List oA)(x:aJ):(valV (fE G) x).isSome=decide (x∈bD G):=by
 by_cases h:x∈bD G
 ·obtain⟨g,_,_,e⟩:=j8 h;rw[e,af h];rfl
 ·rw[jM h,am h];rfl
def Ah:Sp:=λvs H Q _=>∃(l:Addr)(L:List (cZ×Addr))(T:List cZ)(a:aJ)(ya:V),vs=[.ref l,ya]/\H l=some (.lst (L.map λq=>V.ref q.2))/\ox H L T/\T.length<=200/\a.at_ H ya/\
 ∀(d:Addr)(H':Hp)(G:List oA),H d=none->aU H H'->kq H' d T a G->a∈bD G->lC T (bD G)->G.length<=201->(∀g∈G,H g.2.2=none)->Q (.ref d) H'
def gR(x:aJ)(L:List (cZ×Addr)):List (cZ×Addr):=L.filter λq=>decide (q.1.2.1=x)
structure sq(H:Hp)(d:Addr)(L:List (cZ×Addr))(B:List oA):Prop where
 ob:H d=some (.dM (fE B))
 ls:∀b∈B,H b.2.2=some (.lst ((gR b.1 L).map λq=>V.ref q.2))
 all:∀q∈L,q.1.2.1∈bD B
theorem sq.same{H H':Hp}{d:Addr}{L:List (cZ×Addr)}{B:List oA}(s:aU H H')(h:sq H d L B):sq H' d L B:=⟨s _ _ h.ob,λb hb=>s _ _ (h.ls b hb),h.all⟩
structure Il(H H':Hp)(d:Addr)(L:List (cZ×Addr))(B:List oA):Prop where
 same:aU H H'
 on:sq H' d L B
 hd:H d=none
 fr:∀b∈B,H b.2.2=none
 na:(B.map (·.2.2)).Nodup
 nd:(bD B).Nodup
 few:B.length<=L.length
theorem ot(x:aJ)(L:List (cZ×Addr))(q:cZ×Addr):gR x (L++[q])=gR x L++if q.1.2.1=x then [q]else []:=by
 unfold gR;rw[d8];by_cases h:q.1.2.1=x
 ·rw[bc h];simp[h]
 ·rw[aM h];simp[h]
theorem yZ(x:aJ)(L:List (cZ×Addr)):(gR x L).length<=L.length:=bu ..
def D5:Sp:=λvs H Q _=>∃(l:Addr)(L:List (cZ×Addr))(T:List cZ),vs=[.ref l]/\H l=some (.lst (L.map λq=>V.ref q.2))/\ox H L T/\T.length<=200/\∀(d:Addr)(H':Hp)(B:List oA),aU H H'->sq H' d L B->Q (.ref d) H'
section
variable{P:Program}{w:World}{K:ag}{mg:Str->Option Value}{base:Heap}{C:Addr}
theorem ES{f:Addr}{fd:FuncData}(F:fI K "steps_by_begin" "steps_by_begin" s_steps_by_begin f fd)(T:fo K mg C):FnOk P w K mg base fA 1 f fd ["steps"] D5:=by
 refine F.ok pi (λvs H Q E h=>?_) (λcdv A outer s H vs Q E hr h=>?_)
 ·obtain⟨l,L,T,rfl,_⟩:=h;rfl
 ·obtain⟨l,L,TT,rfl,hl,tr,few,q⟩:=h;have hu:=iL hr;refine⟨_,(ax (bH (i:=1) pi.nd rfl (aN rfl) AV)
   (ax (fg PassesOwn.never rfl (bU (pv 0)) (be (i:=2) pi.nd rfl (aN rfl))
    (aS (du (iH bN ck cj fu (AU hu (pv 1) (bw bV (pv 2) aD (λ_ _=>Qr)) (dC pa_nil) ⟨rfl,rfl,rfl,rfl⟩) (pa_cons (pv 2) pa_nil)))))
   (aS (bC (pv 1))))),?_⟩
  intro d hd;have hLl:L.length<=200:=by
   have:L.length=TT.length:=by rw[<-tr.1,ae]
   omega
  have s0:=aU.new (o:=.dM []) hd;refine⟨_,rfl,l,rfl,⟨_,SqL.of (s0 _ _ hl)⟩,fi (K:=K) (a:=l) (xs:=L.map λq=>V.ref q.2) (λj σ' H'=>∃(B:List oA)(v:Option V),σ'=[some (.ref l),some (.ref d),v]/\Il H H' d (L.take j) B)
   ⟨[],none,rfl,s0,⟨ai,λ_ h=>(nomatch h),λ_ h=>(nomatch h)⟩,hd,λ_ h=>(nomatch h),fQ,fQ,bO _⟩ (λj σ' H' _ h=>?_) (λj v σ' H' hv h=>?_) (λσ' H' h=>?_)⟩
  ·obtain⟨_,_,_,b⟩:=h;exact SqL.of (b.same _ _ hl)
  ·obtain⟨B,v',rfl,b⟩:=h;rw[ap]at hv;cases eq:L[j]? with
   |none=>rw[eq]at hv;cases hv
   |some qq=>
    rw[eq]at hv;cases hv;obtain⟨yb,ye,hq,mb,me⟩:=(tr.2 qq (ao eq)).same b.same;have et:L.take (j+1)=L.take j++[qq]:=by rw[bi,eq];rfl
    have hj:(L.take j).length<=200:=ay (DV ..) hLl;have hB:=b.few;refine⟨_,rfl,d,rfl,.inr (.inr ⟨_,.inl b.on.ob⟩),_,rfl,_,_,_,yb,rfl,rfl,cG.of hq,rfl,Qd,λe he=>⟨fE B,qq.1.2.1,(aU.new he) _ _ b.on.ob,mb.same (aU.new he),cT (by unfold fE;rw[ae];omega),λv hv=>?_,λhn=>?_⟩⟩
    ·have hk:qq.1.2.1∈bD B:=by
      by_cases z:qq.1.2.1∈bD B
      ·exact z
      ·rw[jM z]at hv;cases hv
     obtain⟨b0,hb0,e0,v0⟩:=j8 hk;rw[v0]at hv;cases hv;have h0:=(aU.new (o:=.lst []) he) _ _ (b.on.ls b0 hb0);refine⟨.inl ⟨rfl,_,SqL.of h0⟩,_,rfl,_,_,_,rfl,rfl,h0,cT (by rw[ae];have:=yZ b0.1 (L.take j);omega),?_⟩;have ndb:d≠b0.2.2:=cU b.on.ob (b.on.ls b0 hb0) (by intro z;cases z);refine⟨B,_,rfl,⟨λy ob z=>?_,⟨?_,λb1 hb1=>?_,λq1 hq1=>?_⟩,b.hd,b.fr,b.na,b.nd,?_⟩⟩
     ·rw[aV (aZ z (b.fr b0 hb0))];exact(b.same.upd he) _ _ z
     ·rw[aV ndb];exact(aU.new he) _ _ b.on.ob
     ·rw[et,ot];by_cases ea:b1=b0
      ·subst ea;rw[bc e0.symm,ai,ah];rfl
      ·rw[aM (λz=>ea (gq b.nd hb1 hb0 (z.symm.trans e0.symm))),b_,aV (λz=>ea (gq b.na hb1 hb0 z))];exact(aU.new he) _ _ (b.on.ls b1 hb1)
     ·rw[et]at hq1;rcases aw.mp hq1 with z|z
      ·exact b.on.all q1 z
      ·cases ar.mp z;exact hk
     ·rw[et,aI];omega
    ·have hk:qq.1.2.1∉bD B:=λz=>by
      obtain⟨_,_,_,v0⟩:=j8 z;rw[hn]at v0;cases v0
     rw[gC _ hn];have nde:d≠e:=aZ b.on.ob he;have h0:(upd (upd H' e (.lst [])) d (.dM (fE B++[(qq.1.2.1,V.ref e)]))) e=some (.lst []):=by rw[aV nde.symm];exact ai
     have heH:H e=none:=b.same.free he;refine⟨.inl ⟨rfl,_,SqL.of h0⟩,_,rfl,_,_,_,rfl,rfl,h0,Qd,?_⟩;have none_q:gR qq.1.2.1 (L.take j)=[]:=by
      unfold gR;refine fm.mpr λq1 hq1 z=>hk ?_;rw[<-aK z];exact b.on.all q1 hq1
     refine⟨B++[(qq.1.2.1,[],e)],_,rfl,⟨λy ob z=>?_,⟨?_,λb1 hb1=>?_,λq1 hq1=>?_⟩,b.hd,λb1 hb1=>?_,?_,?_,?_⟩⟩
     ·rw[aV (aZ z heH),aV (aZ z b.hd)];exact(b.same.upd he) _ _ z
     ·rw[aV nde,ai];unfold fE;rw[ah];rfl
     ·rw[et,ot];rcases aw.mp hb1 with hb1|hb1
      ·have nb:b1.2.2≠e:=aZ (b.on.ls b1 hb1) he;rw[aM (λz=>hk (by rw[z];exact aj.mpr ⟨b1,hb1,rfl⟩)),b_,aV nb,aV (cU (b.on.ls b1 hb1) b.on.ob (by intro z;cases z)),aV nb];exact b.on.ls b1 hb1
      ·cases ar.mp hb1;rw[bc rfl,none_q];exact ai
     ·unfold bD;rw[ah];rw[et]at hq1;rcases aw.mp hq1 with z|z
      ·exact bo _ (b.on.all q1 z)
      ·cases ar.mp z;exact bn _ au
     ·rcases aw.mp hb1 with hb1|hb1
      ·exact b.fr b1 hb1
      ·cases ar.mp hb1;exact heH
     ·rw[ah];refine L2.gX b.na λz=>?_;obtain⟨b1,hb1,e1⟩:=aj.mp z;have:=b.on.ls b1 hb1;rw[show b1.2.2=e from e1,he]at this;cases this
     ·unfold bD;rw[ah];exact L2.gX b.nd hk
     ·rw[et,aI,aI];show B.length+1<=(L.take j).length +1;omega
  ·obtain⟨B,v',rfl,b⟩:=h;rw[ae,bf]at b;exact⟨_,rfl,q d H' B b.same b.on⟩
def jb(H:Hp):List V->List aJ->Prop:=Paired λy(k:aJ)=>k.at_ H y
theorem jb.same{H H':Hp}{ys:List V}{ws:List aJ}(s:aU H H')(h:jb H ys ws):jb H' ys ws:=L2.Paired.mapP h λ_ _ m=>m.same s
theorem jb.upd{H:Hp}{ys:List V}{ws:List aJ}{a:Addr}{o o':HO}(h:jb H ys ws)(e:H a=some o)(nt:∀xs,o≠ .tup xs):jb (L2.upd H a o') ys ws:=L2.Paired.mapP h λ_ _ m=>m.upd e nt
def _root_.L2.aJ.dat:aJ->PyData
 |.inl x=>.str x
 |.inr xs=>.tuple (xs.map PyData.str)
theorem FV{K:ag}{H:Hp}:∀{k:aJ}{y:V},k.at_ H y->mH K H 1 y k.dat
 |.inl x,_,⟨e,o⟩=>by
  subst e;exact⟨o,rfl⟩
 |.inr xs,_,⟨b,e,hb,o⟩=>by
  subst e;refine .inr ⟨_,_,cG.of hb,rfl,?_⟩;clear hb;induction xs with
  |nil=>exact .nil
  |cons x xs ih=>exact .cons ⟨o x au,rfl⟩ (ih λz hz=>o z (aq _ hz))
theorem CV{K:ag}{H:Hp}{l:Addr}{ys:List V}{ws:List aJ}(e:H l=some (.lst ys))(h:jb H ys ws):mH K H 2 (.ref l) (.list (ws.map aJ.dat)):=by
 refine .inl ⟨_,_,SqL.of e,rfl,?_⟩;clear e;induction h with
 |nil=>exact .nil
 |cons m _ ih=>exact .cons (FV m) ih
theorem BP(ds:List PyData):PyData.eqv (.list ds) (.list [])=ds.isEmpty:=by
 cases ds<;>simp[PyData.eqv,PyData.eqvAll]
structure DQ(H H':Hp)(d wt:Addr)(T:List cZ)(a:aJ)(G:List oA)(ws:List aJ):Prop where
 same:aU H H'
 fd:kq H' d T a G
 wl:∃ys,H' wt=some (.lst ys)/\jb H' ys ws
 hd:H d=none
 hw:H wt=none
 fr:∀g∈G,H g.2.2=none/\g.2.2≠wt
 inw:∀x∈ws,x∈bD G
 st:a∈bD G
 sub:∀x∈bD G,x∈a::T.map (·.2.2)
theorem DQ.up{H H' H2:Hp}{d wt:Addr}{T:List cZ}{a:aJ}{G:List oA}{ws:List aJ}(b:DQ H H' d wt T a G ws)(s:aU H' H2):DQ H H2 d wt T a G ws:=
 ⟨b.same.trans s,b.fd.same s,(let⟨ys,e,k⟩:=b.wl;⟨ys,s _ _ e,k.same s⟩),b.hd,b.hw,b.fr,b.inw,b.st,b.sub⟩
theorem DQ.few{H H':Hp}{d wt:Addr}{T:List cZ}{a:aJ}{G:List oA}{ws:List aJ}(b:DQ H H' d wt T a G ws):G.length<=T.length+1:=by
 have:=iI b.fd.nd b.sub;unfold bD at this;rw[ae,bT,ae]at this;exact this
def HZ(H:Hp)(l od d wt:Addr)(ya:V)(T:List cZ)(a:aJ)(m:Nat)(σ:St)(H':Hp):Prop:=∃(G:List oA)(ws:List aJ)(v1 v2 v3 v4:Option V),σ=[some (.ref l),some ya,some (.ref od),some (.ref d),some (.ref wt),v1,v2,v3,v4]/\DQ H H' d wt T a G ws/\
 (∀t∈T,t.2.1∈bD G->t.2.1∉ws->t.2.2∈bD G)/\m=2*(T.length+1-G.length)+ws.length/\m<=500
theorem Dh{f:Addr}{fd:FuncData}(F:fI K "steps_to_places" "steps_to_places" s_steps_to_places f fd)(T:fo K mg C)(cy:dc P w K mg base 1 "steps_by_begin" ["steps"] D5):FnOk P w K mg base fA 2 f fd ["steps","a"] Ah:=by
 refine F.ok fH (λvs H Q E h=>?_) (λcdv A outer s H vs Q E hr h=>?_)
 ·obtain⟨l,L,T,a,ya,rfl,_⟩:=h;rfl
 ·obtain⟨l,L,TT,a,ya,rfl,hl00,tr00,few,oka,q00⟩:=h;have hu:=iL hr;have hU:=hr.units;refine⟨_,ax (bH (i:=2) fH.nd rfl (aN rfl) (ba cy hr rfl (pa_cons (pv 0) pa_nil)))
   (ax (bH (i:=3) fH.nd rfl (aN rfl) (AW hu (pv 1) (dC pa_nil)))
   (ax (bH (i:=4) fH.nd rfl (aN rfl) (dC (pa_cons (pv 1) pa_nil)))
   (ax (nA PassesOwn.never (bJ (nI hU) (pv 4) (dC pa_nil) (nomark _))
    (ax (bH (i:=5) fH.nd rfl (aN rfl) (iH bN Cv Ct rm (pv 4) (pa_cons aD pa_nil)))
    (aS (fg PassesOwn.never rfl (bU (ra hu (pv 2) (pv 5) (dC pa_nil) ⟨rfl,rfl,rfl,rfl⟩)) (ge rfl (bq (be (i:=6) fH.nd rfl (aN rfl)) (bq (be (i:=7) fH.nd rfl (aN rfl)) (bq (be (i:=8) fH.nd rfl (aN rfl)) dI))))
     (aS (b9 (gc (j4 hu (pv 8) (pv 3)))
      (ax (j2 hu (pv 3) (pv 8) (bP nK (gx hu (pv 3) (pv 5) (λ_ _=>rfl)) (dC (pa_cons (pv 6) pa_nil))) rfl)
      (aS (du (iH bN ck cj fu (pv 4) (pa_cons (pv 8) pa_nil))))) bF))))))
   (aS (bC (pv 3)))))),?_⟩
  refine⟨_,rfl,l,L,TT,rfl,hl00,tr00,few,λod H9 B9 s9 on9=>?_⟩;have hl:=s9 _ _ hl00;have tr:=tr00.same s9;replace oka:=oka.same s9;have q:∀(d:Addr)(H':Hp)(G:List oA),H9 d=none->aU H9 H'->kq H' d TT a G->a∈bD G->lC TT (bD G)->G.length<=201->(∀g∈G,H9 g.2.2=none)->Q (.ref d) H':=
   λd H' G h1 h2 h3 h4 h5 h6 h7=>q00 d H' G (s9.free h1) (s9.trans h2) h3 h4 h5 h6 λg hg=>s9.free (h7 g hg)
  clear q00 hl00 tr00;generalize H9=H at*;intro d hd;refine⟨_,rfl,Qd,λe he=>?_⟩;have nde:d≠e:=aZ ai he;have he0:H e=none:=by rw[aV nde.symm]at he;exact he
  have ma:a.at_ (upd (upd H d (.dM [])) e (.lst [])) ya:=(oka.same (aU.new hd)).same (aU.new he);refine⟨by rw[aV nde];exact ai,a,ma,?_⟩;have s1:aU H (upd (upd (upd H d (.dM [])) e (.lst [])) d (.dM [(a,V.ref e)])):=λb ob z=>by
   rw[aV (aZ z hd),aV (aZ z he0),aV (aZ z hd)];exact z
  have F1:kq (upd (upd (upd H d (.dM [])) e (.lst [])) d (.dM [(a,V.ref e)])) d TT a [(a,[],e)]:=
   ⟨ai,λg hg=>by
    rw[ar.mp hg];exact⟨by rw[aV nde.symm];exact ai,⟨[a],.nil,λ_ h=>h⟩,by show 0<1;decide⟩,by simp[bD]⟩
  generalize upd (upd (upd H d (.dM [])) e (.lst [])) d (.dM [(a,V.ref e)])=H1 at s1 F1;refine⟨_,rfl,(by show 1<=sizeLine;decide),λwt hwt=>?_⟩;have s2:=aU.new (o:=.lst [ya]) hwt;have nwe:e≠wt:=aZ (F1.ws _ au).1 hwt;have B0:DQ H (upd H1 wt (.lst [ya])) d wt TT a [(a,[],e)] [a]:=⟨s1.trans s2,F1.same s2,⟨_,ai,.cons (oka.same (s1.trans s2)) .nil⟩,hd,s1.free hwt,λg hg=>by rw[ar.mp hg];exact⟨he0,nwe⟩,λx hx=>hx,au,λx hx=>by rw[ar.mp hx];exact au⟩;generalize upd H1 wt (.lst [ya])=H2 at B0;refine⟨HZ H l od d wt ya TT a,⟨_,_,_,none,none,none,none,rfl,B0,λt ht h1 h2=>absurd h1 h2,rfl,?_⟩,?_⟩
  ·show 2*(TT.length+1-1)+1<=500;omega
  rintro m σ' H'⟨G,ws,v1,v2,v3,v4,rfl,B,cl,hm,h100⟩;obtain⟨ys0,ewl0,kw0⟩:=B.wl;refine⟨_,rfl,Qd,λee hee=>⟨2,_,_,Qd,CV ((aU.new hee) _ _ ewl0) (kw0.same (aU.new hee)),AJ ai,_,rfl,?_⟩⟩;have B1:=B.up (aU.new (o:=.lst []) hee);generalize upd H' ee (.lst [])=H3 at B1;show if(!PyData.eqv (.list (ws.map aJ.dat)) (.list []))=true then _ else _;rw[BP];cases ws with
  |nil=>
   refine dz ⟨_,rfl,?_⟩;have hf:=B1.few;exact q d H3 G hd B1.same B1.fd B1.st (λt ht hb=>cl t ht hb (λz=>nomatch z)) Qo λg hg=>(B1.fr g hg).1
  |cons here rest=>
   refine dv ⟨λσ' H'=>∃m',m'<m/\HZ H l od d wt ya TT a m' σ' H',λ_ _ z=>z,?_⟩;have hhere:here∈bD G:=B1.inw here au;obtain⟨ys,ewl,kw⟩:=B1.wl;obtain⟨yh,ysr,rfl,mh,kwr⟩:∃yh ysr,ys=yh::ysr/\here.at_ H3 yh/\jb H3 ysr rest:=by cases kw with|cons m k=>exact⟨_,_,rfl,m,k⟩
   refine⟨_,rfl,.inl ⟨rfl,_,SqL.of ewl⟩,wt,_,0,0,yh,rfl,rfl,ewl,Qd,Qd,by simp[seqIndex?],rfl,?_⟩;have sw:aU H (upd H3 wt (.lst ((yh::ysr).eraseIdx 0))):=λb ob z=>by
    rw[aV (aZ z B1.hw)];exact B1.same _ _ z
   have ndw:d≠wt:=cU B1.fd.ob ewl (by intro z;cases z);have B2:DQ H (upd H3 wt (.lst ((yh::ysr).eraseIdx 0))) d wt TT a G rest:=
    ⟨sw,⟨by rw[aV ndw];exact B1.fd.ob,λg hg=>⟨by rw[aV (B1.fr g hg).2];exact(B1.fd.ws g hg).1,(B1.fd.ws g hg).2⟩,B1.fd.nd⟩,⟨_,ai,kwr.upd ewl (λ_ z=>nomatch z)⟩,B1.hd,B1.hw,B1.fr,λx hx=>B1.inw x (aq _ hx),B1.st,B1.sub⟩
   replace mh:here.at_ (upd H3 wt (.lst ((yh::ysr).eraseIdx 0))) yh:=mh.upd ewl (λ_ z=>nomatch z);generalize upd H3 wt (.lst ((yh::ysr).eraseIdx 0))=H4 at B2 mh;have hLl:L.length=TT.length:=by rw[<-tr.1,ae]
   have oc:=on9.same B2.same;refine⟨_,rfl,od,rfl,.inr (.inr ⟨_,.inl oc.ob⟩),_,rfl,Qd,λe5 he5=>?_⟩;have s5:=aU.new (o:=.lst []) he5;have B3:=B2.up s5;have oc5:=oc.same s5;have nw5:e5≠wt:=let⟨_,e,_⟩:=B2.wl;(aZ e he5).symm;have mh5:=mh.same s5;have h5:(upd H4 e5 (.lst [])) e5=some (.lst []):=ai;generalize upd H4 e5 (.lst [])=H5 at B3 oc5 h5 mh5;have key:∃(lx:Addr),(Option.getD (valV (fE B9) here) (.ref e5))=.ref lx/\H5 lx=some (.lst ((gR here L).map λq=>V.ref q.2))/\lx≠wt:=by
    by_cases hk:here∈bD B9
    ·obtain⟨b0,hb0,e0,v0⟩:=j8 hk;refine⟨b0.2.2,by rw[v0];rfl,by rw[<-e0];exact oc5.ls b0 hb0,λz=>?_⟩;have:=on9.ls b0 hb0;rw[z,B2.hw]at this;cases this
    ·refine⟨e5,by rw[jM hk];rfl,?_,nw5⟩;have:gR here L=[]:=by
      unfold gR;refine fm.mpr λq1 hq1 z=>hk ?_;rw[<-aK z];exact on9.all q1 hq1
     rw[this];exact h5
   obtain⟨lx,elx,hlx,nlw⟩:=key;refine⟨_,eh.m oc5.ob mh5,lx,elx,⟨_,SqL.of hlx⟩,fi (K:=K) (a:=lx) (xs:=(gR here L).map λq=>V.ref q.2) (λj σ' H'=>∃(G2:List oA)(ws2:List aJ)(v2 v3 v4:Option V),σ'=[some (.ref l),some ya,some (.ref od),some (.ref d),some (.ref wt),some yh,v2,v3,v4]/\here.at_ H' yh/\DQ H H' d wt TT a G2 ws2/\here∈bD G2/\
     (∀t∈TT,t.2.1∈bD G2->t.2.1∉ws2->t.2.1≠here->t.2.2∈bD G2)/\(∀t∈(gR here L).take j,t.1.2.2∈bD G2)/\2*(TT.length+1-G2.length)+ws2.length<m/\H' lx=some (.lst ((gR here L).map λq=>V.ref q.2)))
    ⟨G,rest,_,_,_,rfl,mh5,B3,hhere,λt ht h1 h2 h3=>cl t ht h1 (λz=>(bd.mp z).elim h3 h2),λt ht=>(nomatch ht),by rw[hm,bT];omega,hlx⟩ (λj σ' H' _ h=>?_) (λj v σ' H' hv h=>?_) (λσ' H' h=>?_)⟩
   ·obtain⟨_,_,_,_,_,_,_,b,_,_,_,_,hx⟩:=h;exact SqL.of hx
   ·obtain⟨G2,ws2,v2',v3',v4',rfl,mh6,b,hh,c1,c2,lt,hx⟩:=h;rw[ap]at hv;cases eq:(gR here L)[j]? with
    |none=>rw[eq]at hv;cases hv
    |some qq=>
     rw[eq]at hv;cases hv;obtain⟨hqL,hqh⟩:=bK.mp (ao eq);have eb:=aK hqh;have hqm:qq.1∈TT:=by rw[<-tr.1];exact aj.mpr ⟨qq,hqL,rfl⟩
     obtain⟨yb,ye,hq,mb,me⟩:=(tr.2 qq hqL).same b.same;obtain⟨⟨nm,bg,en⟩,qa⟩:=qq;have tk:∀t∈(gR here L).take (j+1),t∈(gR here L).take j\/t=((nm,bg,en),qa):=λt ht=>by
      rw[bi,eq]at ht;rcases aw.mp ht with z|z
      ·exact .inl z
      ·exact .inr (ar.mp z)
     refine⟨qa,_,rfl,cG.of hq,rfl,_,_,rfl,_,_,rfl,_,_,rfl,rfl,?_⟩;refine⟨_,rfl,_,rfl,d,_,rfl,eh.m b.fd.ob me,_,rfl,?_⟩;rw[jL];by_cases ek:en∈bD G2
     ·refine cq (by simp[ek]) ⟨G2,ws2,_,_,_,rfl,mh6,b,hh,c1,λt ht=>?_,lt,hx⟩;rcases tk t ht with z|rfl
      ·exact c2 t z
      ·exact ek
     ·refine dH (by simp[ek]) ?_;obtain⟨g,hg,eg,vg⟩:=j8 hh;have hgl:=b.fd.ws g hg;have hgf:=b.few;refine⟨_,rfl,_,rfl,d,.ref g.2.2,rfl,by rw[<-vg];exact eh.m b.fd.ob mh6,_,rfl,(by show 1<=sizeLine;decide),λpn hpn=>?_⟩;have z1:=aU.new (o:=.lst [nm]) hpn;refine⟨g.2.2,pn,_,_,rfl,rfl,z1 _ _ hgl.1,ai,?_,λpp hpp=>?_⟩
      ·exact ay (show g.2.1.length+1<=500 by omega) Qd
      have z2:=z1.upd (o:=.lst (g.2.1++[nm])) hpp;have ep:(upd (upd H' pn (.lst [nm])) pp (.lst (g.2.1++[nm]))) pp=some (.lst (g.2.1++[nm])):=ai;have hpp0:H' pp=none:=z1.free hpp;have bz:=b.up z2;have hxz:=z2 _ _ hx;have me6:=me.same z2;have mh7:=mh6.same z2;generalize upd (upd H' pn (.lst [nm])) pp (.lst (g.2.1++[nm]))=H6 at ep bz hxz me6 mh7;obtain⟨yw,ew,kw2⟩:=bz.wl;obtain⟨yw0,ew0,_⟩:=b.wl;have lyw:=Paired.length kw2;refine⟨_,rfl,_,rfl,d,_,rfl,lB.m bz.fd.ob me6 (cT (by unfold fE;rw[ae];omega)),?_⟩;rw[gC _ (jM ek)];have npd:pp≠d:=cU ep bz.fd.ob (by intro z;cases z);have nwd:wt≠d:=cU ew bz.fd.ob (by intro z;cases z);have npw:pp≠wt:=λz=>by rw[z]at hpp0;rw[ew0]at hpp0;cases hpp0
      have nxd:lx≠d:=cU hxz bz.fd.ob (by intro z;cases z);have hpH:H pp=none:=b.same.free hpp0;have ekv:fE G2++[(en,V.ref pp)]=fE (G2++[(en,g.2.1++[nm],pp)]):=by unfold fE;rw[ah];rfl
      rw[ekv];have ewt:(upd H6 d (.dM (fE (G2++[(en,g.2.1++[nm],pp)])))) wt=some (.lst yw):=by rw[aV nwd];exact ew
      have hwl:ws2.length<=500:=Qo;refine⟨_,rfl,.inl ⟨rfl,_,SqL.of ewt⟩,_,rfl,wt,_,_,rfl,rfl,ewt,cT Qo,?_⟩;have kk:bD (G2++[(en,g.2.1++[nm],pp)])=bD G2++[en]:=by unfold bD;rw[ah];rfl
      refine⟨G2++[(en,g.2.1++[nm],pp)],ws2++[en],_,_,_,rfl,(mh7.upd bz.fd.ob (λ_ z=>nomatch z)).upd ewt (λ_ z=>nomatch z),⟨λy ob z=>?_,⟨?_,λg' hg'=>?_,?_⟩,⟨_,ai,?_⟩,b.hd,b.hw,λg' hg'=>?_,λx hx=>?_,?_,λx hx=>?_⟩,?_,λt ht h1 h2 h3=>?_,λt ht=>?_,?_,?_⟩
      ·rw[aV (aZ z b.hw),aV (aZ z b.hd)];exact bz.same _ _ z
      ·rw[aV nwd.symm];exact ai
      ·rw[aI];rcases aw.mp hg' with hg'|hg'
       ·have o1:=bz.fd.ws g' hg';refine⟨?_,(let⟨vis,p,h⟩:=o1.2.1;⟨vis,p,λx hx=>by rw[kk];exact bo _ (h x hx)⟩),eM o1.2.2⟩;rw[aV (bz.fr g' hg').2,aV (cU o1.1 bz.fd.ob (by intro z;cases z))];exact o1.1
       ·cases ar.mp hg';refine⟨by rw[aV npw,aV npd];exact ep,(let⟨vis,p,h⟩:=hgl.2.1;⟨vis++[en],.snoc (eg▸p) (eb▸hqm) (λz=>ek (h en z)),λx hx=>by
         rw[kk];rcases aw.mp hx with z|z
         ·exact bo _ (h x z)
         ·exact bn _ z⟩),?_⟩
        show(g.2.1++[nm]).length <G2.length+1;rw[aI];show g.2.1.length+1<_;omega
      ·rw[kk];exact L2.gX b.fd.nd ek
      ·exact Paired.snoc ((kw2.upd bz.fd.ob (λ_ z=>nomatch z)).upd ewt (λ_ z=>nomatch z)) ((me6.upd bz.fd.ob (λ_ z=>nomatch z)).upd ewt (λ_ z=>nomatch z))
      ·rcases aw.mp hg' with hg'|hg'
       ·exact b.fr g' hg'
       ·cases ar.mp hg';exact⟨hpH,npw⟩
      ·rw[kk];rcases aw.mp hx with z|z
       ·exact bo _ (b.inw x z)
       ·exact bn _ z
      ·rw[kk];exact bo _ b.st
      ·rw[kk]at hx;rcases aw.mp hx with z|z
       ·exact b.sub x z
       ·rw[ar.mp z];exact aq _ (aj.mpr ⟨_,hqm,rfl⟩)
      ·rw[kk];exact bo _ hh
      ·rw[kk]at h1⊢;rcases aw.mp h1 with z|z
       ·exact bo _ (c1 t ht z (λy=>h2 (bo _ y)) h3)
       ·exact absurd (bn _ z) h2
      ·rw[kk];rcases tk t ht with z|rfl
       ·exact bo _ (c2 t z)
       ·exact bn _ au
      ·have hb2:G2.length<TT.length+1:=by
        have nd2:(bD G2++[en]).Nodup:=L2.gX b.fd.nd ek;have:=iI nd2 (m:=a::TT.map (·.2.2)) (λx hx=>by
         rcases aw.mp hx with z|z
         ·exact b.sub x z
         ·rw[ar.mp z];exact aq _ (aj.mpr ⟨_,hqm,rfl⟩))
        have e1:(bD G2++[en]).length=G2.length+1:=by unfold bD;rw[aI,ae];rfl
        rw[e1,bT,ae]at this;omega
       rw[aI,aI];show 2*(TT.length+1-(G2.length+1))+(ws2.length+1)<m;omega
      ·rw[aV nlw,aV nxd];exact hxz
   ·obtain⟨G2,ws2,v2',v3',v4',rfl,mh6,b,hh,c1,c2,lt,hx⟩:=h;rw[ae,bf]at c2;refine⟨_,lt,G2,ws2,_,_,_,_,rfl,b,λt ht h1 h2=>?_,rfl,Qo⟩;by_cases e3:t.2.1=here
    ·rw[<-tr.1]at ht;obtain⟨q1,hq1,rfl⟩:=aj.mp ht;exact c2 q1 (bK.mpr ⟨hq1,af e3⟩)
    ·exact c1 t ht h1 h2 e3
end
end Net
namespace Net
open PySem L2
structure d5 where
 nm:aJ
 a:aJ
 b:aJ
 w:Int
def fc(q:d5×Int)(x:aJ):Int:=(if q.1.a=x then q.2 else 0)-(if q.1.b=x then q.2 else 0)
def Fv(ls:List (d5×Int))(x:aJ):Int:=(ls.map λq=>fc q x).sum
theorem BN(r:d5)(u d:Int)(x:aJ):fc (r,u+d) x=fc (r,u) x+fc (r,d) x:=by
 show(if r.a=x then u+d else 0)-(if r.b=x then u+d else 0)=((if r.a=x then u else 0)-(if r.b=x then u else 0))+((if r.a=x then d else 0)-(if r.b=x then d else 0));split<;>split<;>omega
theorem BM(q:d5×Int)(ls:List (d5×Int))(x:aJ):Fv (q::ls) x=fc q x+Fv ls x:=by
 unfold Fv;rw[aF,bE]
def qL(F:aJ->Int)(n:aJ)(z:Int):aJ->Int:=λx=>if x=n then z else F x
theorem o_(F:aJ->Int)(n:aJ)(z:Int):qL F n z n=z:=bc rfl
theorem mP(F:aJ->Int){n x:aJ}(z:Int)(h:¬x=n):qL F n z x=F x:=aM h
def fP(ti:List d5)(F:aJ->Int)(x:aJ):Int:=Fv (ti.map λr=>(r,F r.nm)) x
theorem gp(r:d5)(ti:List d5)(F:aJ->Int)(x:aJ):fP (r::ti) F x=fc (r,F r.nm) x+fP ti F x:=BM _ _ _
theorem ri{F:aJ->Int}{n:aJ}{z:Int}{x:aJ}:∀{ti:List d5},n∉ti.map (·.nm)->fP ti (qL F n z) x=fP ti F x
 |[],_=>rfl
 |r::ti,h=>by
  rw[gp,gp,ri λk=>h (aq _ k),mP F z λk=>h (by rw[<-k];exact au)]
theorem rh{F:aJ->Int}{r:d5}{d:Int}{x:aJ}:∀{ti:List d5},(ti.map (·.nm)).Nodup->r∈ti->fP ti (qL F r.nm (F r.nm+d)) x=fP ti F x+fc (r,d) x
 |[],_,h=>nomatch h
 |t::ti,nd,h=>by
  obtain⟨n1,n2⟩:=bM.mp nd;rw[gp,gp];rcases bd.mp h with e|h
  ·subst e;rw[ri n1,o_,BN];omega
  ·have ne:¬t.nm=r.nm:=λz=>n1 (aj.mpr ⟨r,h,z.symm⟩);rw[rh n2 h,mP F _ ne];omega
structure gF where
 r:d5
 fw:Bool
def gF.sg(s:gF):Int:=if s.fw then 1 else-1
def gF.room(s:gF)(F:aJ->Int):Int:=if s.fw then s.r.w-F s.r.nm else F s.r.nm
def gF.beg(s:gF):aJ:=if s.fw then s.r.a else s.r.b
def gF.en(s:gF):aJ:=if s.fw then s.r.b else s.r.a
def lr(F:aJ->Int)(m:Int)(ss:List gF):aJ->Int:=ss.foldl (λF s=>qL F s.r.nm (F s.r.nm+s.sg*m)) F
theorem pQ(F:aJ->Int)(m:Int)(ss:List gF)(s:gF):lr F m (ss++[s])=qL (lr F m ss) s.r.nm (lr F m ss s.r.nm+s.sg*m):=by
 unfold lr;rw[List.foldl_append];rfl
inductive uP(a:aJ):List gF->List aJ->aJ->Prop
 |nil:uP a [] [a] a
 |snoc {ss:List gF} {vis:List aJ} {x:aJ} {s:gF} (p:uP a ss vis x) (h:s.beg=x) (hy:s.en∉vis):uP a (ss++[s]) (vis++[s.en]) s.en
theorem uP.last{a:aJ}{ss:List gF}{vis:List aJ}{x:aJ}(h:uP a ss vis x):x∈vis:=by
 cases h with
 |nil=>exact au
 |snoc p h hy=>exact bn _ au
theorem uP.ends{a:aJ}{ss:List gF}{vis:List aJ}{x:aJ}(h:uP a ss vis x):∀s∈ss,s.r.a∈vis/\s.r.b∈vis:=by
 induction h with
 |nil=>exactλ_ h=>nomatch h
 | @snoc ss vis x s p hb hy ih=>
  intro t ht;rcases aw.mp ht with ht|ht
  ·exact⟨bo _ (ih t ht).1,bo _ (ih t ht).2⟩
  ·rw[ar.mp ht];have h1:s.beg∈vis++[s.en]:=bo _ (hb▸p.last);have h2:s.en∈vis++[s.en]:=bn _ au;obtain⟨r,fw⟩:=s;cases fw with
   |true=>exact⟨h1,h2⟩
   |false=>exact⟨h2,h1⟩
theorem uP.nd{ti:List d5}(nd:(ti.map (·.nm)).Nodup){a:aJ}{ss:List gF}{vis:List aJ}{x:aJ}(h:uP a ss vis x):(∀s∈ss,s.r∈ti)->(ss.map (·.r.nm)).Nodup:=by
 induction h with
 |nil=>exactλ_=>fQ
 | @snoc ss vis x s p hb hy ih=>
  intro hin;have h1:=ih λt ht=>hin t (bo _ ht);rw[ah];refine L2.gX h1 λz=>?_;obtain⟨t,ht,e⟩:=aj.mp z;have er:t.r=s.r:=gq nd (hin t (bo _ ht)) (hin s (bn _ au)) e;have:=p.ends t ht;rw[er]at this;refine hy ?_;unfold gF.en;split
  ·exact this.2
  ·exact this.1
theorem Bq{ti:List d5}(nd:(ti.map (·.nm)).Nodup){F:aJ->Int}{m:Int}{a:aJ}{ss:List gF}{vis:List aJ}{x y:aJ}(h:uP a ss vis x):(∀s∈ss,s.r∈ti)->fP ti (lr F m ss) y=fP ti F y+(if a=y then m else 0)-(if x=y then m else 0):=by
 induction h with
 |nil=>
  intro _;show fP ti F y=_;omega
 | @snoc ss vis x s p hb hy ih=>
  intro hin;rw[pQ,rh nd (hin s (bn _ au)),ih λt ht=>hin t (bo _ ht),<-hb];obtain⟨r,fw⟩:=s;cases fw with
  |true=>
   show _+((if r.a=y then 1*m else 0)-(if r.b=y then 1*m else 0))=_-(if r.b=y then m else 0);show _-(if r.a=y then m else 0)+((if r.a=y then 1*m else 0)-(if r.b=y then 1*m else 0))=_-(if r.b=y then m else 0);rw[Int.one_mul];omega
  |false=>
   show _-(if r.b=y then m else 0)+((if r.a=y then-1*m else 0)-(if r.b=y then-1*m else 0))=_-(if r.a=y then m else 0);by_cases h1:r.a=y
   ·by_cases h2:r.b=y
    ·rw[bc h1,bc h2,bc h1,bc h2];omega
    ·rw[bc h1,aM h2,bc h1,aM h2];omega
   ·by_cases h2:r.b=y
    ·rw[aM h1,bc h2,aM h1,bc h2];omega
    ·rw[aM h1,aM h2,aM h1,aM h2];omega
theorem pR(F:aJ->Int)(m:Int)(s:gF)(ss:List gF):lr F m (s::ss)=lr (qL F s.r.nm (F s.r.nm+s.sg*m)) m ss:=rfl
theorem ow{m:Int}{x:aJ}:∀{ss:List gF}{F:aJ->Int},x∉ss.map (·.r.nm)->lr F m ss x=F x
 |[],_,_=>rfl
 |s::ss,F,h=>by
  rw[pR,ow λz=>h (aq _ z),mP _ _ (λz=>h (by rw[z];exact au))]
theorem wT{m:Int}:∀{ss:List gF}{F:aJ->Int},(ss.map (·.r.nm)).Nodup->∀s∈ss,lr F m ss s.r.nm=F s.r.nm+s.sg*m
 |[],_,_,_,h=>nomatch h
 |t::ss,F,nd,s,hs=>by
  obtain⟨n1,n2⟩:=bM.mp nd;rw[pR];rcases bd.mp hs with e|hs
  ·subst e;rw[ow n1,o_]
  ·rw[wT n2 s hs,mP _ _ (λz=>n1 (aj.mpr ⟨s,hs,z⟩))]
def DP(ti:List d5)(F:aJ->Int):Prop:=∀r∈ti,0<=F r.nm/\F r.nm<=r.w
theorem DH{ti:List d5}(nd:(ti.map (·.nm)).Nodup){F:aJ->Int}{m:Int}{a:aJ}{ss:List gF}{vis:List aJ}{x:aJ}(h:uP a ss vis x)(hin:∀s∈ss,s.r∈ti)(ok:DP ti F)(h0:0<=m)(hm:∀s∈ss,m<=s.room F):DP ti (lr F m ss):=λr hr=>by
 by_cases hx:r.nm∈ss.map (·.r.nm)
 ·obtain⟨s,hs,e⟩:=aj.mp hx;have er:s.r=r:=gq nd (hin s hs) hr e;have e1:=wT (F:=F) (m:=m) (h.nd nd hin) s hs;rw[er]at e1;rw[e1];have h1:=hm s hs;obtain⟨h2,h3⟩:=ok r hr;obtain⟨r',fw⟩:=s;cases er;cases fw with
  |true=>
   have h1':m<=r'.w-F r'.nm:=h1;have h2':0<=F r'.nm:=h2;have h3':F r'.nm<=r'.w:=h3;show 0<=F r'.nm+1*m/\F r'.nm+1*m<=r'.w;clear e1 h1 h2 h3;omega
  |false=>
   have h1':m<=F r'.nm:=h1;have h2':0<=F r'.nm:=h2;have h3':F r'.nm<=r'.w:=h3;show 0<=F r'.nm+ -1*m/\F r'.nm+ -1*m<=r'.w;clear e1 h1 h2 h3;omega
 ·rw[ow hx];exact ok r hr
theorem wA{F:aJ->Int}{x:aJ}:∀{ti:List d5},DP ti F->fP ti F x<=(ti.map (·.w)).sum
 |[],_=>dX 0
 |r::ti,ok=>by
  have ih:=wA (x:=x) λt ht=>ok t (aq _ ht);obtain⟨h1,h2⟩:=ok r au;rw[gp,aF,bE];have:fc (r,F r.nm) x<=r.w:=by
   show(if r.a=x then F r.nm else 0)-(if r.b=x then F r.nm else 0)<=r.w;split<;>split<;>omega
  omega
theorem pw{x:aJ}:∀{ti:List d5},fP ti (λ_=>0) x=0
 |[]=>rfl
 |r::ti=>by
  rw[gp,pw];show(if r.a=x then(0:Int)else 0)-(if r.b=x then 0 else 0)+0=0;split<;>split<;>rfl
theorem km{α:Type}{f g:α->Int}:∀{l:List α},(∀x∈l,f x<=g x)->(l.map f).sum<=(l.map g).sum
 |[],_=>dX _
 |x::r,h=>by
  have h1:=h x au;have h2:=km (f:=f) (g:=g) (l:=r) λy hy=>h y (aq _ hy);rw[aF,aF,bE,bE];omega
theorem gQ{α:Type}{f g:α->Int}{l:List α}(h:∀x∈l,f x=g x):(l.map f).sum=(l.map g).sum:=by rw[iB h]
theorem gU{α:Type}{f:α->Int}{l:List α}(h:∀x∈l,f x=0):(l.map f).sum=0:=by
 rw[gQ (g:=λ_=>0) h];clear h;induction l with
 |nil=>rfl
 |cons x r ih=>rw[aF,bE,ih];rfl
theorem ng{α:Type}{f g:α->Int}:∀{l:List α},(l.map λx=>f x+g x).sum=(l.map f).sum +(l.map g).sum
 |[]=>rfl
 |x::r=>by
  rw[aF,aF,aF,bE,bE,bE,ng (l:=r)];omega
theorem sP{α:Type}{f g:α->Int}:∀{l:List α},(l.map λx=>f x-g x).sum=(l.map f).sum -(l.map g).sum
 |[]=>rfl
 |x::r=>by
  rw[aF,aF,aF,bE,bE,bE,sP (l:=r)];omega
theorem nc{α:Type}[DecidableEq α]{f:α->Int}{a:α}:∀{ws:List α},ws.Nodup->a∈ws->(∀x∈ws,¬x=a->f x=0)->(ws.map f).sum=f a
 |x::r,nd,ha,h=>by
  rw[aF,bE];obtain⟨n1,n2⟩:=bM.mp nd;by_cases e:x=a
  ·subst e;rw[gU λy hy=>h y (aq _ hy) λz=>n1 (z▸hy)];omega
  ·have:a∈r:=(bd.mp ha).elim (λz=>absurd z.symm e) id;rw[h x au e,nc n2 this λy hy=>h y (aq _ hy)];omega
theorem jW{α:Type}[DecidableEq α]{t:Int}{y:α}:∀{ws:List α},ws.Nodup->(ws.map λx=>if y=x then t else 0).sum=t/\y∈ws\/(ws.map λx=>if y=x then t else 0).sum=0/\y∉ws
 |[],_=>.inr ⟨rfl,List.not_mem_nil⟩
 |x::r,nd=>by
  obtain⟨n1,n2⟩:=bM.mp nd;rw[aF,bE];by_cases e:y=x
  ·subst e;rw[bc rfl];rcases jW (t:=t) (y:=y) n2 with⟨_,h⟩|⟨h,_⟩
   ·exact absurd h n1
   ·exact .inl ⟨by rw[h];omega,au⟩
  ·rw[aM e];rcases jW (t:=t) (y:=y) n2 with⟨h1,h2⟩|⟨h1,h2⟩
   ·exact .inl ⟨by rw[h1];omega,aq _ h2⟩
   ·exact .inr ⟨by rw[h1];omega,λz=>(bd.mp z).elim e h2⟩
theorem rV{α:Type}[DecidableEq α]:∀l:List α,∃ns:List α,ns.Nodup/\∀x∈l,x∈ns
 |[]=>⟨[],.nil,λ_ h=>(nomatch h)⟩
 |x::l=>by
  obtain⟨ns,h1,h2⟩:=rV l;by_cases h:(ns.any λy=>decide (y=x))=true
  ·obtain⟨y,hy,e⟩:=cD.mp h;exact⟨ns,h1,λz hz=>(bd.mp hz).elim (λe2=>by rw[e2,<-aK e];exact hy) (h2 z)⟩
  ·refine⟨x::ns,bM.mpr ⟨λz=>h (cD.mpr ⟨x,z,af rfl⟩),h1⟩,λz hz=>(bd.mp hz).elim (λe=>by rw[e];exact au) λhz=>aq _ (h2 z hz)⟩
def d_(arcs:List d5)(p:aJ->Bool):Int:=(arcs.map λr=>if p r.a=true/\p r.b=false then r.w else 0).sum
theorem Dx{ws:List aJ}(nd:ws.Nodup){p:aJ->Bool}(q:d5×Int)(ha:q.1.a∈ws↔p q.1.a=true)(hb:q.1.b∈ws↔p q.1.b=true):(ws.map (fc q)).sum=(if p q.1.a=true then q.2 else 0)-(if p q.1.b=true then q.2 else 0):=by
 show(ws.map λx=>(if q.1.a=x then q.2 else 0)-(if q.1.b=x then q.2 else 0)).sum=_;rw[sP];have h1:=jW (t:=q.2) (y:=q.1.a) nd;have h2:=jW (t:=q.2) (y:=q.1.b) nd;rcases h1 with⟨e1,m1⟩|⟨e1,m1⟩<;>rcases h2 with⟨e2,m2⟩|⟨e2,m2⟩<;>rw[e1,e2]
 ·rw[bc (ha.mp m1),bc (hb.mp m2)]
 ·rw[bc (ha.mp m1),aM (λz=>m2 (hb.mpr z))]
 ·rw[aM (λz=>m1 (ha.mpr z)),bc (hb.mp m2)]
 ·rw[aM (λz=>m1 (ha.mpr z)),aM (λz=>m2 (hb.mpr z))]
theorem v_{ws:List aJ}(nd:ws.Nodup){p:aJ->Bool}{F:aJ->Int}:∀{arcs:List d5},(∀r∈arcs,(r.a∈ws↔p r.a=true)/\(r.b∈ws↔p r.b=true))->(ws.map (fP arcs F)).sum=(arcs.map λr=>(if p r.a=true then F r.nm else 0)-(if p r.b=true then F r.nm else 0)).sum
 |[],_=>gU λ_ _=>rfl
 |r::arcs,h=>by
  have e:fP (r::arcs) F=λx=>fc (r,F r.nm) x+fP arcs F x:=funext λx=>gp r arcs F x;rw[e,ng,v_ nd λt ht=>h t (aq _ ht),aF,bE];have:=Dx nd (r,F r.nm) (h r au).1 (h r au).2;rw[show(ws.map λx=>fc (r,F r.nm) x)=ws.map (fc (r,F r.nm))from rfl,this]
theorem wB{arcs:List d5}{F:aJ->Int}{a b:aJ}(bal:∀x,¬x=a->¬x=b->fP arcs F x=0){p:aJ->Bool}(ha:p a=true)(hb:p b=false):fP arcs F a=(arcs.map λr=>(if p r.a=true then F r.nm else 0)-(if p r.b=true then F r.nm else 0)).sum:=by
 obtain⟨ns,n1,n2⟩:=rV (a::(arcs.map (·.a)++arcs.map (·.b)));have nd:(ns.filter p).Nodup:=n1.sublist (dN);have mem:∀x,x∈a::(arcs.map (·.a)++arcs.map (·.b))->(x∈ns.filter p↔p x=true):=λx hx=>⟨λz=>(bK.mp z).2,λz=>bK.mpr ⟨n2 x hx,z⟩⟩;have h:=v_ (F:=F) nd (p:=p) (arcs:=arcs) λr hr=>⟨mem _ (aq _ (bo _ (aj.mpr ⟨r,hr,rfl⟩))),mem _ (aq _ (bn _ (aj.mpr ⟨r,hr,rfl⟩)))⟩;rw[<-h];refine(nc nd ((mem a au).mpr ha) λx hx hne=>bal x hne λe=>?_).symm;have:=(bK.mp hx).2;rw[e,hb]at this;cases this
theorem Dl{arcs:List d5}{F:aJ->Int}{a b:aJ}(ok:DP arcs F)(bal:∀x,¬x=a->¬x=b->fP arcs F x=0){p:aJ->Bool}(ha:p a=true)(hb:p b=false):fP arcs F a<=d_ arcs p:=by
 rw[wB bal ha hb];refine km λr hr=>?_;obtain⟨h1,h2⟩:=ok r hr;cases e1:p r.a<;>cases e2:p r.b<;>simp<;>omega
theorem Bp{arcs:List d5}{F:aJ->Int}{a b:aJ}(ok:DP arcs F)(bal:∀x,¬x=a->¬x=b->fP arcs F x=0){p:aJ->Bool}(ha:p a=true)(hb:p b=false)(cl:∀s:gF,s.r∈arcs->0<s.room F->p s.beg=true->p s.en=true):fP arcs F a=d_ arcs p:=by
 rw[wB bal ha hb];refine gQ λr hr=>?_;obtain⟨h1,h2⟩:=ok r hr;have c1:=cl ⟨r,true⟩ hr;have c2:=cl ⟨r,false⟩ hr;have c1:0<r.w-F r.nm->p r.a=true->p r.b=true:=c1;have c2:0<F r.nm->p r.b=true->p r.a=true:=c2;cases e1:p r.a<;>cases e2:p r.b<;>simp
 ·by_cases h:0<F r.nm
  ·have:=c2 h e2;rw[e1]at this;cases this
  ·omega
 ·by_cases h:0<r.w-F r.nm
  ·have:=c1 h e1;rw[e2]at this;cases this
  ·omega
def cO(arcs:List d5)(a b:aJ)(v:Int):Prop:=(∃p:aJ->Bool,p a=true/\p b=false/\d_ arcs p=v)/\∀p:aJ->Bool,p a=true->p b=false->v<=d_ arcs p
theorem cO.one{arcs:List d5}{a b:aJ}{v v':Int}(h:cO arcs a b v)(h':cO arcs a b v'):v=v':=by
 obtain⟨⟨p,a1,b1,e1⟩,m1⟩:=h;obtain⟨⟨p',a2,b2,e2⟩,m2⟩:=h';have:=m1 p' a2 b2;have:=m2 p a1 b1;omega
structure Fr(arcs:List d5)(a b:aJ)(F:aJ->Int)(p:aJ->Bool):Prop where
 ok:DP arcs F
 bal:∀x,¬x=a->¬x=b->fP arcs F x=0
 ha:p a=true
 hb:p b=false
 cl:∀s:gF,s.r∈arcs->0<s.room F->p s.beg=true->p s.en=true
theorem Fr.min{arcs:List d5}{a b:aJ}{F:aJ->Int}{p:aJ->Bool}(h:Fr arcs a b F p):cO arcs a b (d_ arcs p):=
 ⟨⟨p,h.ha,h.hb,rfl⟩,λp' ha hb=>by rw[<-Bp h.ok h.bal h.ha h.hb h.cl];exact Dl h.ok h.bal ha hb⟩
end Net
namespace Net
open PySem L2
def i4(ns:List aJ)(f:aJ->Int):List (aJ×V):=ns.map λx=>(x,V.int (f x))
theorem qt{f:aJ->Int}{x:aJ}:∀{ns:List aJ},x∈ns->valV (i4 ns f) x=some (.int (f x))
 |y::r,h=>by
  by_cases e:y=x
  ·subst e;exact g8 (p:=(y,V.int (f y))) rfl
  ·have:x∈r:=(bd.mp h).elim (λz=>absurd z.symm e) id;exact(g9 (p:=(y,V.int (f y))) e).trans (qt this)
theorem Dy{ns:List aJ}{f:aJ->Int}{x:aJ}(h:x∈ns)(k:Int):fM (i4 ns f) x (V.int k)=i4 ns (qL f x k):=by
 unfold fM;have:((i4 ns f).any λp=>decide (p.1=x))=true:=cD.mpr ⟨_,aj.mpr ⟨x,h,rfl⟩,af rfl⟩;rw[bc this];unfold i4;rw[bm];refine iB λy _=>?_;show(if y=x then(y,V.int k)else(y,V.int (f y)))=(y,V.int (if y=x then k else f y));by_cases e:y=x
 ·rw[bc e,bc e]
 ·rw[aM e,aM e]
theorem wJ{ns:List aJ}{f:aJ->Int}:(i4 ns f).length=ns.length:=ae ..
def kr(H:Hp)(q:d5×Addr):Prop:=∃yn ya yb,H q.2=some (.tup [yn,ya,yb,.int q.1.w])/\q.1.nm.at_ H yn/\q.1.a.at_ H ya/\q.1.b.at_ H yb
theorem kr.same{H H':Hp}{q:d5×Addr}(s:aU H H')(h:kr H q):kr H' q:=let⟨yn,ya,yb,e,h1,h2,h3⟩:=h;⟨yn,ya,yb,s _ _ e,h1.same s,h2.same s,h3.same s⟩
def kD(H:Hp)(L:List (d5×Addr))(ti:List d5):Prop:=L.map (·.1)=ti/\∀q∈L,kr H q
theorem kD.same{H H':Hp}{L:List (d5×Addr)}{ti:List d5}(s:aU H H')(h:kD H L ti):kD H' L ti:=⟨h.1,λq hq=>(h.2 q hq).same s⟩
def ic(H:Hp)(F:aJ->Int)(s:gF)(p:Addr):Prop:=∃yn,H p=some (.tup [yn,.int s.sg,.int (s.room F)])/\s.r.nm.at_ H yn/\0<s.room F
theorem ic.same{H H':Hp}{F:aJ->Int}{s:gF}{p:Addr}(z:aU H H')(h:ic H F s p):ic H' F s p:=let⟨yn,e,m,o⟩:=h;⟨yn,z _ _ e,m.same z,o⟩
theorem ic.upd{H:Hp}{F:aJ->Int}{s:gF}{p a:Addr}{o o':HO}(h:ic H F s p)(e:H a=some o)(nt:∀xs,o≠ .tup xs):ic (L2.upd H a o') F s p:=let⟨yn,e2,m,z⟩:=h;⟨yn,by rw[aV (λz=>by rw[z,e]at e2;exact nt _ (Option.some.inj e2))];exact e2,m.upd e nt,z⟩
theorem sm.upd{H:Hp}{q:cZ×Addr}{a:Addr}{o o':HO}(h:sm H q)(e:H a=some o)(nt:∀xs,o≠ .tup xs):sm (L2.upd H a o') q:=let⟨yb,ye,e2,m1,m2⟩:=h;⟨yb,ye,by rw[aV (λz=>by rw[z,e]at e2;exact nt _ (Option.some.inj e2))];exact e2,m1.upd e nt,m2.upd e nt⟩
def jc(H:Hp)(ti:List d5)(F:aJ->Int)(T:List cZ):Prop:=(∀t∈T,∃(s:gF)(p:Addr),t=(.ref p,s.beg,s.en)/\s.r∈ti/\ic H F s p)/\∀s:gF,s.r∈ti->0<s.room F->∃t∈T,t.2=(s.beg,s.en)
theorem jc.same{H H':Hp}{ti:List d5}{F:aJ->Int}{T:List cZ}(z:aU H H')(h:jc H ti F T):jc H' ti F T:=⟨λt ht=>let⟨s,p,a,b,c⟩:=h.1 t ht;⟨s,p,a,b,c.same z⟩,h.2⟩
def jX:Sp:=λvs H Q _=>∃(al ld:Addr)(a:aJ)(ya:V)(L:List (d5×Addr))(ti:List d5)(F:aJ->Int),vs=[.ref al,.ref ld,ya]/\H al=some (.lst (L.map λq=>V.ref q.2))/\kD H L ti/\H ld=some (.dM (i4 (ti.map (·.nm)) F))/\ti.length<=100/\a.at_ H ya/\
 ∀(d:Addr)(H':Hp)(T:List cZ)(G:List oA),H d=none->aU H H'->jc H' ti F T->kq H' d T a G->a∈bD G->lC T (bD G)->G.length<=201->(∀g∈G,H g.2.2=none)->Q (.ref d) H'
structure ix(H H':Hp)(st:Addr)(ti:List d5)(F:aJ->Int)(done:d5->Bool->Prop)(n:Nat)(M:List (cZ×Addr)):Prop where
 same:aU H H'
 hs:H st=none
 ob:H' st=some (.lst (M.map λq=>V.ref q.2))
 tr:∀q∈M,sm H' q/\∃(s:gF)(p:Addr),q.1=(.ref p,s.beg,s.en)/\s.r∈ti/\ic H' F s p
 all:∀s:gF,done s.r s.fw->0<s.room F->∃q∈M,q.1.2=(s.beg,s.en)
 len:M.length<=n
theorem ix.mono{H H':Hp}{st:Addr}{ti:List d5}{F:aJ->Int}{done done':d5->Bool->Prop}{n n':Nat}{M:List (cZ×Addr)}(h:ix H H' st ti F done n M)(hn:n<=n')(hd:∀r fw,done' r fw->done r fw\/(gF.room ⟨r,fw⟩ F<=0)):ix H H' st ti F done' n' M:=
 ⟨h.same,h.hs,h.ob,h.tr,λs hs h0=>(hd s.r s.fw hs).elim (λz=>h.all s z h0) (λz=>absurd z (by show¬s.room F<=0;omega)),ay h.len hn⟩
theorem ix.push{H H':Hp}{st:Addr}{ti:List d5}{F:aJ->Int}{done:d5->Bool->Prop}{n:Nat}{M:List (cZ×Addr)}(h:ix H H' st ti F done n M){r:d5}{fw:Bool}(hr:r∈ti)(h0:0<gF.room ⟨r,fw⟩ F){p t:Addr}{H2:Hp}(z:aU H' H2)
  {yn yb ye:V}(hp:H2 p=some (.tup [yn,.int (gF.sg ⟨r,fw⟩),.int (gF.room ⟨r,fw⟩ F)]))(mn:r.nm.at_ H2 yn)(ht:H2 t=some (.tup [.ref p,yb,ye]))(mb:(gF.beg ⟨r,fw⟩).at_ H2 yb)(me:(gF.en ⟨r,fw⟩).at_ H2 ye):
  ix H (upd H2 st (.lst ((M.map λq=>V.ref q.2)++[.ref t]))) st ti F (λr' fw'=>done r' fw'\/(r'=r/\fw'=fw)) (n+1) (M++[((.ref p,gF.beg ⟨r,fw⟩,gF.en ⟨r,fw⟩),t)]):=by
 have ob2:=z _ _ h.ob;have np:p≠st:=cU hp ob2 (by intro z;cases z);have nt:t≠st:=cU ht ob2 (by intro z;cases z);refine⟨λb o e=>?_,h.hs,?_,λq hq=>?_,λs hs h1=>?_,?_⟩
 ·rw[aV (aZ e h.hs)];exact(h.same.trans z) _ _ e
 ·rw[ai,ah];rfl
 ·rcases aw.mp hq with hq|hq
  ·obtain⟨e1,s,p',e2,e3,e4⟩:=h.tr q hq;exact⟨(e1.same z).upd ob2 (λ_ z=>nomatch z),s,p',e2,e3,(e4.same z).upd ob2 (λ_ z=>nomatch z)⟩
  ·rw[ar.mp hq];exact⟨⟨yb,ye,by rw[aV nt];exact ht,mb.upd ob2 (λ_ z=>nomatch z),me.upd ob2 (λ_ z=>nomatch z)⟩,⟨r,fw⟩,p,rfl,hr,yn,by rw[aV np];exact hp,mn.upd ob2 (λ_ z=>nomatch z),h0⟩
 ·rcases hs with hs|⟨e1,e2⟩
  ·obtain⟨q,hq,e⟩:=h.all s hs h1;exact⟨q,bo _ hq,e⟩
  ·obtain⟨r',fw'⟩:=s;cases e1;cases e2;exact⟨_,bn _ au,rfl⟩
 ·rw[aI];exact qG h.len
section
variable{P:Program}{w:World}{K:ag}{mg:Str->Option Value}{base:Heap}{C:Addr}
abbrev GD:List Str:=["arcs","loads","a","steps","name","begin","end","width"]
theorem j1:bG GD ["arcs","loads","a"] (aA s_free_ways):=⟨rfl,rfl,rfl,Qk,rfl,Qk,Qk⟩
theorem Bd{f:Addr}{fd:FuncData}(F:fI K "free_ways" "free_ways" s_free_ways f fd)(csteps_to_places:dc P w K mg base 2 "steps_to_places" ["steps","a"] Ah):FnOk P w K mg base fA 3 f fd ["arcs","loads","a"] jX:=by
 refine F.ok j1 (λvs H Q E h=>?_) (λcdv A outer s H vs Q E hr h=>?_)
 ·obtain⟨al,ld,a,ya,L,ti,Fl,rfl,_⟩:=h;rfl
 ·obtain⟨al,ld,a,ya,L,ti,Fl,rfl,hal,RL,hld,few,oka,q⟩:=h;have hu:=iL hr;have r:=hr;refine⟨_,(ax (bH (i:=3) j1.nd rfl (aN rfl) (dC pa_nil))
   (dA (fg PassesOwn.never rfl (bU (pv 0)) (ge rfl (bq (be (i:=4) j1.nd rfl (aN rfl)) (bq (be (i:=5) j1.nd rfl (aN rfl)) (bq (be (i:=6) j1.nd rfl (aN rfl)) (bq (be (i:=7) j1.nd rfl (aN rfl)) dI)))))
     (dA (b9 (bJ A3 (gx hu (pv 1) (pv 4) (λ_ _=>rfl)) (pv 7) (nomark _)) (aS (du (iH bN ck cj fu (pv 3) (pa_cons (bX (pa_cons (bX (pa_cons (pv 4) (pa_cons aD (pa_cons (bP tq (pv 7) (gx hu (pv 1) (pv 4) (λ_ _=>rfl))) pa_nil)))) (pa_cons (pv 5) (pa_cons (pv 6) pa_nil)))) pa_nil)))) bF)
   (aS (b9 (bJ D_ (gx hu (pv 1) (pv 4) (λ_ _=>rfl)) aD (nomark _)) (aS (du (iH bN ck cj fu (pv 3) (pa_cons (bX (pa_cons (bX (pa_cons (pv 4) (pa_cons (F2 Eu aD) (pa_cons (gx hu (pv 1) (pv 4) (λ_ _=>rfl)) pa_nil)))) (pa_cons (pv 6) (pa_cons (pv 5) pa_nil)))) pa_nil)))) bF))))
   (aS (bC (ba csteps_to_places r Qr (pa_cons (pv 3) (pa_cons (pv 2) pa_nil))))))),?_⟩
  refine⟨Qd,λst hst=>?_⟩;have hLl:L.length=ti.length:=by rw[<-RL.1,ae]
  have z1:=aU.new (o:=.lst []) hst;have I0:ix H (upd H st (.lst [])) st ti Fl (λ_ _=>False) 0 []:=⟨z1,hst,ai,λ_ h=>(nomatch h),λ_ h=>h.elim,aY _⟩;generalize upd H st (.lst [])=H1 at I0;refine⟨λσ' H'=>∃(M:List (cZ×Addr))(o4 o5 o6 o7:Option V),σ'=[some (.ref al),some (.ref ld),some ya,some (.ref st),o4,o5,o6,o7]/\ix H H' st ti Fl (λr' _=>r'∈ti) 200 M,?_,?_⟩
  ·refine⟨_,rfl,al,rfl,⟨_,SqL.of (I0.same _ _ hal)⟩,fi (K:=K) (a:=al) (xs:=L.map λq=>V.ref q.2) (λi σ' H'=>∃(M:List (cZ×Addr))(o4 o5 o6 o7:Option V),σ'=[some (.ref al),some (.ref ld),some ya,some (.ref st),o4,o5,o6,o7]/\ix H H' st ti Fl (λr' _=>r'∈(L.take i).map (·.1)) (2*i) M)
    ⟨[],_,_,_,_,rfl,I0.mono (aY _) (λ_ _ h=>(nomatch h))⟩ (λi σ' H' _ h=>?_) (λi v σ' H' hv h=>?_) (λσ' H' h=>?_)⟩
   ·obtain⟨M,o4,o5,o6,o7,_,I⟩:=h;exact SqL.of (I.same _ _ hal)
   ·obtain⟨M,o4,o5,o6,o7,rfl,I⟩:=h;rw[ap]at hv;cases eq:L[i]? with
    |none=>rw[eq]at hv;cases hv
    |some qq=>
     rw[eq]at hv;cases hv;have hi:i<L.length:=(bj.mp eq).1;have hmem:qq∈L:=ao eq;obtain⟨yn,yr,ys,hqH,mnH,mrH,msH⟩:=RL.2 qq hmem;have hq:=I.same _ _ hqH;have mn:=mnH.same I.same;have mr:=mrH.same I.same;have ms:=msH.same I.same;have hrt:qq.1∈ti:=by rw[<-RL.1];exact aj.mpr ⟨qq,hmem,rfl⟩
     have va:valV (i4 (ti.map (·.nm)) Fl) qq.1.nm=some (.int (Fl qq.1.nm)):=qt (aj.mpr ⟨_,hrt,rfl⟩);have et:(L.take (i+1)).map (·.1)=(L.take i).map (·.1)++[qq.1]:=by rw[bi,eq,ah];rfl
     refine⟨qq.2,_,rfl,cG.of hq,rfl,_,_,rfl,_,_,rfl,_,_,rfl,_,_,rfl,rfl,?_⟩;obtain⟨r0,qa⟩:=qq;refine⟨λσ' H'=>∃M,σ'=[some (.ref al),some (.ref ld),some ya,some (.ref st),some yn,some yr,some ys,some (.int r0.w)]/\ix H H' st ti Fl (λr' fw'=>r'∈(L.take i).map (·.1)\/(r'=r0/\fw'=true)) (2*i+1) M,?_,?_⟩
     ·refine⟨_,rfl,_,rfl,ld,.int (Fl r0.nm),rfl,by rw[<-va];exact eh.m (I.same _ _ hld) mn,_,rfl,_,_,rfl,rfl,_,rfl,oK (λhlt=>?_) (λhlt=>?_)⟩
      ·have hlt':Fl r0.nm<r0.w:=aK hlt;refine⟨_,rfl,.inl ⟨rfl,_,SqL.of I.ob⟩,_,rfl,_,rfl,_,rfl,_,rfl,ld,.int (Fl r0.nm),rfl,by rw[<-va];exact eh.m (I.same _ _ hld) mn,_,_,rfl,rfl,(by show 3<=sizeLine;decide),λp hp=>?_⟩;have y1:=aU.new (o:=.tup [yn,.int 1,.int (r0.w-Fl r0.nm)]) hp;have f1:(upd H' p (.tup [yn,.int 1,.int (r0.w-Fl r0.nm)])) p=some (.tup [yn,.int 1,.int (r0.w-Fl r0.nm)]):=ai;generalize upd H' p (.tup [yn,.int 1,.int (r0.w-Fl r0.nm)])=H2 at y1 f1;refine⟨_,rfl,_,rfl,(by show 3<=sizeLine;decide),λt ht=>?_⟩;have y2:=aU.new (o:=.tup [.ref p,yr,ys]) ht;have f2:(upd H2 t (.tup [.ref p,yr,ys])) t=some (.tup [.ref p,yr,ys]):=ai;generalize upd H2 t (.tup [.ref p,yr,ys])=H3 at y2 f2;have hlm:=I.len;refine⟨st,_,_,rfl,rfl,(y1.trans y2) _ _ I.ob,cT (by rw[ae];omega),?_⟩;exact⟨_,rfl,I.push (fw:=true) hrt (show 0<r0.w-Fl r0.nm by omega) (y1.trans y2) (y2 _ _ f1) (mn.same (y1.trans y2)) f2 (mr.same (y1.trans y2)) (ms.same (y1.trans y2))⟩
      ·have hlt':¬Fl r0.nm<r0.w:=λz=>hlt (af z);exact⟨M,rfl,I.mono (jv _) λr' fw' h=>h.elim .inl λ⟨e1,e2⟩=>.inr (by
        subst e1;subst e2;show r'.w-Fl r'.nm<=0;omega)⟩
     rintro σ4 H4⟨M2,rfl,I2⟩;have mn4:=mnH.same I2.same;have mr4:=mrH.same I2.same;have ms4:=msH.same I2.same;refine⟨_,rfl,_,rfl,ld,.int (Fl r0.nm),rfl,by rw[<-va];exact eh.m (I2.same _ _ hld) mn4,_,_,rfl,rfl,_,rfl,oK (λhlt=>?_) (λhlt=>?_)⟩
     ·have hlt':Fl r0.nm>0:=aK hlt;refine⟨_,rfl,.inl ⟨rfl,_,SqL.of I2.ob⟩,_,rfl,_,rfl,_,rfl,_,rfl,ld,.int (Fl r0.nm),rfl,by rw[<-va];exact eh.m (I2.same _ _ hld) mn4,(by show 3<=sizeLine;decide),λp hp=>?_⟩;have y1:=aU.new (o:=.tup [yn,.int (-1),.int (Fl r0.nm)]) hp;have f1:(upd H4 p (.tup [yn,.int (-1),.int (Fl r0.nm)])) p=some (.tup [yn,.int (-1),.int (Fl r0.nm)]):=ai;generalize upd H4 p (.tup [yn,.int (-1),.int (Fl r0.nm)])=H2 at y1 f1;refine⟨_,rfl,_,rfl,(by show 3<=sizeLine;decide),λt ht=>?_⟩;have y2:=aU.new (o:=.tup [.ref p,ys,yr]) ht;have f2:(upd H2 t (.tup [.ref p,ys,yr])) t=some (.tup [.ref p,ys,yr]):=ai;generalize upd H2 t (.tup [.ref p,ys,yr])=H3 at y2 f2;have hlm:=I2.len;refine⟨st,_,_,rfl,rfl,(y1.trans y2) _ _ I2.ob,cT (by rw[ae];omega),?_⟩;have I3:=I2.push (r:=r0) (fw:=false) hrt (show 0<Fl r0.nm by omega) (y1.trans y2) (y2 _ _ f1) (mn4.same (y1.trans y2)) f2 (ms4.same (y1.trans y2)) (mr4.same (y1.trans y2));refine⟨_,_,_,_,_,rfl,I3.mono Qo λr' fw' h=>.inl ?_⟩;rw[et]at h;rcases aw.mp h with h|h
      ·exact .inl (.inl h)
      ·have:=ar.mp h;cases fw' with
       |true=>exact .inl (.inr ⟨this,rfl⟩)
       |false=>exact .inr ⟨this,rfl⟩
     ·have hlt':¬Fl r0.nm>0:=λz=>hlt (af z);refine⟨_,_,_,_,_,rfl,I2.mono Qo λr' fw' h=>?_⟩;rw[et]at h;rcases aw.mp h with h|h
      ·exact .inl (.inl h)
      ·have:=ar.mp h;cases fw' with
       |true=>exact .inl (.inr ⟨this,rfl⟩)
       |false=>
        refine .inr ?_;subst this;show Fl r'.nm<=0;omega
   ·obtain⟨M,o4,o5,o6,o7,rfl,I⟩:=h;rw[ae,bf,RL.1]at I;exact⟨M,_,_,_,_,rfl,I.mono Qo λ_ _ h=>.inl h⟩
  rintro σ2 H2⟨M,o4,o5,o6,o7,rfl,I⟩;have hlm:=I.len;have FT:jc H2 ti Fl (M.map (·.1)):=⟨λt ht=>by
   obtain⟨qq,hq,rfl⟩:=aj.mp ht;exact(I.tr qq hq).2,λs hs h0=>by
   obtain⟨qq,hq,e⟩:=I.all s hs h0;exact⟨qq.1,aj.mpr ⟨qq,hq,rfl⟩,e⟩⟩
  refine⟨_,rfl,_,rfl,st,M,M.map (·.1),a,ya,rfl,I.ob,⟨rfl,λqq hq=>(I.tr qq hq).1⟩,by rw[ae];exact hlm,oka.same I.same,λd H3 G hd s3 fd ha cl lg hg=>?_⟩;exact q d H3 (M.map (·.1)) G (I.same.free hd) (I.same.trans s3) (FT.same s3) fd ha cl lg λg hg'=>I.same.free (hg g hg')
end
end Net
namespace Net
open PySem L2
theorem uP.nil_eq{a:aJ}{ss:List gF}{vis:List aJ}{x:aJ}(h:uP a ss vis x):ss=[]->a=x:=by
 cases h with
 |nil=>exactλ_=>rfl
 |snoc p h hy=>
  intro e;simp at e
def Cc(H:Hp)(ti:List d5)(F:aJ->Int)(a b:aJ)(v:V):Prop:=(v=.non/\∃side:List aJ,a∈side/\b∉side/\∀s:gF,s.r∈ti->0<s.room F->s.beg∈side->s.en∈side)\/
 ∃(wl:Addr)(ss:List (gF×Addr))(vis:List aJ),v=.ref wl/\H wl=some (.lst (ss.map λq=>V.ref q.2))/\(∀q∈ss,q.1.r∈ti/\ic H F q.1 q.2)/\uP a (ss.map (·.1)) vis b/\ss.length<=201
theorem AZ{H:Hp}{ti:List d5}{F:aJ->Int}{T:List cZ}{a:aJ}(ft:jc H ti F T){ws:List V}{vis:List aJ}{x:aJ}(p:mE T a ws vis x):∃ss:List (gF×Addr),ws=ss.map (λq=>V.ref q.2)/\uP a (ss.map (·.1)) vis x/\∀q∈ss,q.1.r∈ti/\ic H F q.1 q.2:=by
 induction p with
 |nil=>exact⟨[],rfl,.nil,λ_ h=>nomatch h⟩
 | @snoc ws vis x y nm p h hy ih=>
  obtain⟨ss,e,sw,hs⟩:=ih;obtain⟨s,ad,e2,h2,h3⟩:=ft.1 _ h;obtain⟨e3,e4⟩:=Prod.mk.inj e2;obtain⟨e5,e6⟩:=Prod.mk.inj e4;subst e3;subst e5;subst e6;refine⟨ss++[(s,ad)],by rw[ah,e];rfl,by rw[ah];exact .snoc sw rfl hy,λq hq=>?_⟩;rcases aw.mp hq with hq|hq
  ·exact hs q hq
  ·rw[ar.mp hq];exact⟨h2,h3⟩
theorem uU{H:Hp}{ti:List d5}{F:aJ->Int}{T:List cZ}{a b:aJ}{d:Addr}{G:List oA}(ft:jc H ti F T)(fd:kq H d T a G)(ha:a∈bD G)(cl:lC T (bD G))(lg:G.length<=201){yb:V}(mb:b.at_ H yb):∃o,eh H d yb o/\Cc H ti F a b (o.getD .non):=by
 by_cases hb:b∈bD G
 ·obtain⟨g,hg,eg,vg⟩:=j8 hb;obtain⟨h1,⟨vis,p,_⟩,h3⟩:=fd.ws g hg;rw[eg]at p;obtain⟨ss,e,sw,hs⟩:=AZ ft p;refine⟨some (.ref g.2.2),by rw[<-vg];exact eh.m fd.ob mb,.inr ⟨g.2.2,ss,vis,rfl,by rw[<-e];exact h1,hs,sw,?_⟩⟩;have:=b6 List.length e;rw[ae]at this;omega
 ·refine⟨none,by rw[<-jM hb];exact eh.m fd.ob mb,.inl ⟨rfl,bD G,ha,hb,λs hs h0 hx=>?_⟩⟩;obtain⟨t,ht,e⟩:=ft.2 s hs h0;obtain⟨e1,e2⟩:=Prod.mk.inj e;have:=cl t ht (by rw[e1];exact hx);rw[e2]at this;exact this
theorem Fa:bootBuiltins "min"=some (.builtin "min"):=Qk
def Aj:Sp:=λvs H Q _=>∃(ld wl:Addr)(ns:List aJ)(F:aJ->Int)(ss:List (gF×Addr)),vs=[.ref ld,.ref wl]/\H ld=some (.dM (i4 ns F))/\ns.length<=200/\H wl=some (.lst (ss.map λq=>V.ref q.2))/\(∀q∈ss,q.1.r.nm∈ns/\ic H F q.1 q.2)/\ss≠ []/\ss.length<=300/\
 ∀(m:Int)(H':Hp),1<=m->(∀q∈ss,m<=q.1.room F)->(∀b o,H b=some o->b≠ld->H' b=some o)->H' ld=some (.dM (i4 ns (lr F m (ss.map (·.1)))))->Q .non H'
def jB:Sp:=λvs H Q _=>∃(al:Addr)(a b:aJ)(ya yb:V)(L:List (d5×Addr))(ti:List d5),vs=[.ref al,ya,yb]/\H al=some (.lst (L.map λq=>V.ref q.2))/\kD H L ti/\ti.length<=100/\(ti.map (·.nm)).Nodup/\a.at_ H ya/\b.at_ H yb/\(∀r∈ti,0<=r.w)/\¬a=b/\
 ∀(ld:Addr)(F:aJ->Int)(H':Hp),H ld=none->aU H H'->H' ld=some (.dM (i4 (ti.map (·.nm)) F))->DP ti F->(∀x,¬x=a->¬x=b->fP ti F x=0)->(∃side:List aJ,a∈side/\b∉side/\∀s:gF,s.r∈ti->0<s.room F->s.beg∈side->s.en∈side)->Q (.ref ld) H'
section
variable{P:Program}{w:World}{K:ag}{mg:Str->Option Value}{base:Heap}{C:Addr}
abbrev HF:List Str:=["loads","way","more","name","sign","room"]
theorem ny:bG HF ["loads","way"] (aA s_add_along):=⟨rfl,rfl,rfl,Qk,rfl,Qk,Qk⟩
theorem Di{f:Addr}{fd:FuncData}(F:fI K "add_along" "add_along" s_add_along f fd)(hmin:mg "min"=none):FnOk P w K mg base fA 1 f fd ["loads","way"] Aj:=by
 refine F.ok ny (λvs H Q E h=>?_) (λcdv A outer s H vs Q E hr h=>?_)
 ·obtain⟨ld,wl,ns,Fl,ss,rfl,_⟩:=h;rfl
 ·obtain⟨ld,wl,ns,Fl,ss,rfl,hld,hns,hwl,hss,hne,hlen,q⟩:=h;have hu:=iL hr;have nd_0:List.Nodup (["name","sign","room"]:List Str):=Qk;refine⟨_,(ax (bH (i:=2) ny.nd rfl (aN rfl) (pe_callB (yW rfl) Qr hmin Fa (pa_cons (cW (N:=["name","sign","room"]) (xs:=3) (js:=[]) rfl (bt rfl) (bU (pv 1)) (λ_ _ _ _=>kU (n:=3) K Qr Qr (bq (be (i:=0) nd_0 rfl (aN rfl)) (bq (be (i:=1) nd_0 rfl (aN rfl)) (bq (be (i:=2) nd_0 rfl (aN rfl)) dI)))) (λ_ _ _ _=>cV) (λ_ _ _ _=>pv 2)) pa_nil)))
   (aS (fg PassesOwn.never rfl (bU (pv 1)) (ge rfl (bq (be (i:=3) ny.nd rfl (aN rfl)) (bq (be (i:=4) ny.nd rfl (aN rfl)) (bq (be (i:=5) ny.nd rfl (aN rfl)) dI))))
     (aS (C0 hu (pv 0) (pv 3) (bP nJ (pv 4) (pv 2)) E1 (λ_ _ _=>rfl)))))),?_⟩
  refine⟨_,rfl,wl,rfl,⟨_,SqL.of hwl⟩,bW (K:=K) (ys:=ss.map λq=>V.ref q.2) (λi acc σ' H'=>H'=H/\acc=((ss.take i).map λq=>V.int (q.1.room Fl))/\∃o1 o2 o3,σ'=[o1,o2,o3])
   ⟨rfl,rfl,none,none,none,rfl⟩ (λi acc σ' H' h=>?_) ?_ (λi acc σ' H' _ h=>by rw[h.1];exact SqL.of hwl) (λi x acc σ' H' hx h=>?_) (λacc σ' H' h pp hpp=>?_)⟩
  ·rw[h.2.1,ae,aQ];omega
  ·rw[ae];exact ay hlen Qd
  ·obtain⟨rfl,rfl,o1,o2,o3,rfl⟩:=h;rw[ap]at hx;cases eq:ss[i]? with
   |none=>rw[eq]at hx;cases hx
   |some qq=>
    rw[eq]at hx;cases hx;obtain⟨yn,hq,_,_⟩:=(hss qq (ao eq)).2;refine⟨qq.2,_,rfl,cG.of hq,rfl,_,_,rfl,_,_,rfl,_,_,rfl,rfl,?_⟩;refine⟨_,rfl,rfl,?_,_,_,_,rfl⟩;rw[bi,eq,ah];rfl
  obtain⟨rfl,rfl,o1,o2,o3,rfl⟩:=h;rw[ae,bf];have z1:=aU.new (o:=.lst (ss.map λq=>V.int (q.1.room Fl))) hpp;have e1:(upd H' pp (.lst (ss.map λq=>V.int (q.1.room Fl)))) pp=some (.lst ((ss.map λq=>q.1.room Fl).map V.int)):=by rw[ai,bm];rfl
  generalize upd H' pp (.lst (ss.map λq=>V.int (q.1.room Fl)))=H1 at z1 e1;refine⟨pp,ss.map λq=>q.1.room Fl,rfl,SqL.of e1,λz=>hne (List.map_eq_nil_iff.mp z),λm hm hle=>?_⟩;have hm1:1<=m:=by
   obtain⟨qq,hq,e⟩:=aj.mp hm;obtain⟨_,_,_,this⟩:=(hss qq hq).2;omega
  have hmr:∀q∈ss,m<=q.1.room Fl:=λq hq=>hle _ (aj.mpr ⟨q,hq,rfl⟩);refine⟨_,rfl,wl,rfl,⟨_,SqL.of (z1 _ _ hwl)⟩,fi (K:=K) (a:=wl) (xs:=ss.map λq=>V.ref q.2) (λi σ' H2=>(∃o3 o4 o5,σ'=[some (.ref ld),some (.ref wl),some (.int m),o3,o4,o5])/\(∀b o,H' b=some o->b≠ld->H2 b=some o)/\H2 ld=some (.dM (i4 ns (lr Fl m ((ss.take i).map (·.1))))))
   ⟨⟨_,_,_,rfl⟩,λb o e _=>z1 _ _ e,z1 _ _ hld⟩ (λi σ' H2 _ h=>?_) (λi v σ' H2 hv h=>?_) (λσ' H2 h=>?_)⟩
  ·exact SqL.of (h.2.1 _ _ hwl (cU hwl hld (by intro z;cases z)))
  ·obtain⟨⟨o3,o4,o5,rfl⟩,hk,e5⟩:=h;rw[ap]at hv;cases eq:ss[i]? with
   |none=>rw[eq]at hv;cases hv
   |some qq=>
    rw[eq]at hv;cases hv;obtain⟨hnm,yn,hq,mn,_⟩:=hss qq (ao eq);have hq2:=hk _ _ hq (cU hq hld (by intro z;cases z));have mn2:qq.1.r.nm.at_ H2 yn:=mn.keep λc ys ec=>hk _ _ ec (cU ec hld (by intro z;cases z));refine⟨qq.2,_,rfl,cG.of hq2,rfl,_,_,rfl,_,_,rfl,_,_,rfl,rfl,?_⟩;have hc:-(2^64)<qq.1.sg/\qq.1.sg<2^64:=by
     unfold gF.sg;split<;>exact⟨Qd,Qd⟩
    refine⟨_,rfl,_,rfl,ld,.int (lr Fl m ((ss.take i).map (·.1)) qq.1.r.nm),rfl,by rw[<-qt hnm];exact eh.m e5 mn2,_,rfl,_,rfl,_,_,rfl,rfl,.inl hc,_,_,rfl,rfl,_,lB.m e5 mn2 (cT (by rw[wJ];omega)),?_⟩;rw[Dy hnm];refine⟨⟨_,_,_,rfl⟩,λb o e nb=>by rw[aV nb];exact hk b o e nb,?_⟩;rw[ai,bi,eq,ah];show some (HO.dM (i4 ns _))=some (HO.dM (i4 ns (lr Fl m (List.map (·.1) (ss.take i)++[qq.1]))));rw[pQ]
  ·obtain⟨⟨o3,o4,o5,rfl⟩,hk,e5⟩:=h;rw[ae,bf]at e5;exact q m H2 hm1 hmr hk e5
abbrev DN:List Str:=["arcs","a","b","loads","way"]
theorem j0:bG DN ["arcs","a","b"] (aA s_greatest_flow):=⟨rfl,rfl,rfl,Qk,rfl,Qk,Qk⟩
theorem xU{f:Addr}{fd:FuncData}(F:fI K "greatest_flow" "greatest_flow" s_greatest_flow f fd)(TW:Ff mg)(cfree_ways:dc P w K mg base 3 "free_ways" ["arcs","loads","a"] jX)(cadd_along:dc P w K mg base 1 "add_along" ["loads","way"] Aj):FnOk P w K mg base fA 4 f fd ["arcs","a","b"] jB:=by
 refine F.ok j0 (λvs H Q E h=>?_) (λcdv A outer s H vs Q E hr h=>?_)
 ·obtain⟨al,a,b,ya,yb,L,ti,rfl,_⟩:=h;rfl
 ·obtain⟨al,a,b,ya,yb,L,ti,rfl,hal,RL,few,nd,oka,okb,okw,hab,q⟩:=h;have hu:=iL hr;have r1:c_ 1 _:=hr.mono Qd;have hU:=d7 (En (by decide:4<=64) _) hr.units;have nd_0:List.Nodup (["arc"]:List Str):=Qk;refine⟨_,(dA (bH (i:=3) j0.nd rfl (aN rfl) (fT (uI hU rfl) Qr TW.dict uM (pa_cons (cW (N:=["arc"]) (xs:=1) (js:=[]) rfl (bt rfl) (bU (pv 0)) (λ_ _ _ _=>be (i:=0) nd_0 rfl (aN rfl)) (λ_ _ _ _=>cV) (λ_ _ _ _=>bX (pa_cons (bw (cx K Qr) (pv 0) aD (λ_ _=>Qr)) (pa_cons aD pa_nil)))) pa_nil)))
   (ax (bH (i:=4) j0.nd rfl (aN rfl) (rb hu (ba cfree_ways hr Qr (pa_cons (pv 0) (pa_cons (pv 3) (pa_cons (pv 1) pa_nil)))) (pv 2) ⟨rfl,rfl,rfl,rfl⟩))
   (ax (nA PassesOwn.never (gc (vU (pv 4)))
     (ax (du (ba cadd_along r1 Qr (pa_cons (pv 3) (pa_cons (pv 4) pa_nil))))
   (aS (bH (i:=4) j0.nd rfl (aN rfl) (rb hu (ba cfree_ways hr Qr (pa_cons (pv 0) (pa_cons (pv 3) (pa_cons (pv 1) pa_nil)))) (pv 2) ⟨rfl,rfl,rfl,rfl⟩)))))
   (aS (bC (pv 3)))))),?_⟩
  have hLl:L.length=ti.length:=by rw[<-RL.1,ae]
  refine⟨λσ' H'=>∃ld,σ'=[some (.ref al),some ya,some yb,some (.ref ld),none]/\aU H H'/\H ld=none/\H' ld=some (.dM (i4 (ti.map (·.nm)) λ_=>0)),?_,?_⟩
  ·refine⟨_,rfl,al,rfl,⟨_,SqL.of hal⟩,bW (K:=K) (ys:=L.map λq=>V.ref q.2) (λi acc σ' H'=>∃ps:List (Addr×aJ×V×V),acc=ps.map (λq=>V.ref q.1)/\(ps.map λq=>(q.2.1,q.2.2.2))=i4 (((L.take i).map (·.1)).map (·.nm)) (λ_=>0)/\(∀q∈ps,H' q.1=some (.tup [q.2.2.1,q.2.2.2])/\q.2.1.at_ H' q.2.2.1)/\aU H H'/\∃o,σ'=[o])
    ⟨[],rfl,rfl,λ_ h=>(nomatch h),aU.refl H,none,rfl⟩ (λi acc σ' H' h=>?_) ?_ (λi acc σ' H' _ h=>?_) (λi x acc σ' H' hx h=>?_) (λacc σ' H' h pp hpp=>?_)⟩
   ·obtain⟨ps,rfl,e,_⟩:=h;have:=b6 List.length e;rw[wJ,ae,ae,ae,aQ]at this;rw[ae];omega
   ·rw[ae];exact ay (show L.length<=100 by omega) Qd
   ·obtain⟨_,_,_,_,s5,_⟩:=h;exact SqL.of (s5 _ _ hal)
   ·obtain⟨ps,rfl,e,hp,s5,o,rfl⟩:=h;rw[ap]at hx;cases ey:L[i]? with
    |none=>rw[ey]at hx;cases hx
    |some y=>
     rw[ey]at hx;cases hx;obtain⟨yn,yr,ys,hy,mn,_,_⟩:=(RL.2 y (ao ey)).same s5;refine⟨_,rfl,y.2,_,_,yn,rfl,rfl,cG.of hy,rfl,(by show 2<=sizeLine;decide),λt ht=>?_⟩;refine⟨ps++[(t,y.1.nm,yn,V.int 0)],by rw[ah];rfl,?_,λz hz=>?_,s5.upd ht,_,rfl⟩
     ·rw[ah,e,bi,ey,ah,ah];unfold i4;rw[ah];rfl
     ·rcases aw.mp hz with hz|hz
      ·exact⟨(aU.new ht) _ _ (hp z hz).1,(hp z hz).2.same (aU.new ht)⟩
      ·cases ar.mp hz;exact⟨ai,mn.same (aU.new ht)⟩
   ·obtain⟨ps,rfl,e,hp,s5,o,rfl⟩:=h;rw[ae,bf,RL.1]at e;have s6:=aU.new (o:=.lst (ps.map λq=>V.ref q.1)) hpp;have ek:ps.map (·.2.1)=ti.map (·.nm):=by
     have:=b6 (List.map (·.1)) e;unfold i4 at this;rw[bm,bm]at this;exact this.trans (List.map_id' _)
    refine⟨pp,ps,rfl,SqL.of ai,λz hz=>⟨cG.of (s6 _ _ (hp z hz).1),(hp z hz).2.same s6⟩,by rw[ek];exact nd,λdg hdg=>?_⟩;have sa:=s5.trans s6;refine⟨dg,rfl,sa.upd hdg,sa.free hdg,?_⟩;rw[ai,e]
  rintro σ1 H1⟨ld,rfl,s1,hld,eld⟩;refine⟨_,rfl,_,rfl,_,rfl,al,ld,a,ya,L,ti,(λ_=>0),rfl,s1 _ _ hal,RL.same s1,eld,few,oka.same s1,λd H2 T G hd s2 ft fd2 ha cl lg _=>?_⟩;obtain⟨o,dg,wy⟩:=uU (b:=b) ft fd2 ha cl lg (okb.same (s1.trans s2));refine⟨d,rfl,.inr (.inr ⟨_,.inl fd2.ob⟩),_,rfl,o,dg,?_⟩;refine⟨λm σ' H'=>∃(Fl:aJ->Int)(v:V),σ'=[some (.ref al),some ya,some yb,some (.ref ld),some v]/\aU H H'/\H' ld=some (.dM (i4 (ti.map (·.nm)) Fl))/\DP ti Fl/\(∀x,¬x=a->¬x=b->fP ti Fl x=0)/\m=((ti.map (·.w)).sum -fP ti Fl a).toNat/\Cc H' ti Fl a b v,⟨_,λ_=>0,_,rfl,s1.trans s2,s2 _ _ eld,λr hr=>⟨dX _,okw r hr⟩,λx _ _=>pw,rfl,wy⟩,?_⟩;rintro m σ' H'⟨Fl,v,rfl,s3,e3,ok,bal,hm,wy⟩;refine⟨_,rfl,_,rfl,?_⟩;rcases wy with⟨rfl,cut⟩|⟨wl,ss,vis,rfl,hwl,hss,sw,hl⟩
  ·exact cq Qr ⟨_,rfl,q ld Fl H' hld s3 e3 ok bal cut⟩
  ·refine dH Qr ⟨_,λ_ _ z=>z,?_⟩;have hin:∀s∈ss.map (·.1),s.r∈ti:=λs hs=>by
    obtain⟨qq,hq,rfl⟩:=aj.mp hs;exact(hss qq hq).1
   have hne:ss≠ []:=λz=>hab (sw.nil_eq (by rw[z];rfl));refine⟨_,rfl,_,rfl,ld,wl,ti.map (·.nm),Fl,ss,rfl,e3,by rw[ae];omega,hwl,λqq hq=>⟨aj.mpr ⟨_,(hss qq hq).1,rfl⟩,(hss qq hq).2⟩,hne,Qo,λk H4 hk1 hkr hkeep e4=>?_⟩;have s4:aU H H4:=λb0 o0 z=>hkeep _ _ (s3 _ _ z) (aZ z hld);have ok4:=DH (m:=k) nd sw hin ok Qo (λs hs=>by
    obtain⟨qq,hq,rfl⟩:=aj.mp hs;exact hkr qq hq)
   have net4:=λy=>Bq (F:=Fl) (m:=k) (y:=y) nd sw hin;refine⟨_,rfl,_,rfl,_,rfl,al,ld,a,ya,L,ti,_,rfl,s4 _ _ hal,RL.same s4,e4,few,oka.same s4,λd H5 T G hd s5 ft fd5 ha cl lg _=>?_⟩;obtain⟨o,dg,wy⟩:=uU (b:=b) ft fd5 ha cl lg (okb.same (s4.trans s5));refine⟨d,rfl,.inr (.inr ⟨_,.inl fd5.ob⟩),_,rfl,o,dg,?_⟩;refine⟨_,?_,_,_,rfl,s4.trans s5,s5 _ _ e4,ok4,λx ha hb=>?_,rfl,wy⟩
   ·have n1:=net4 a;rw[bc rfl,aM (λz=>hab z.symm)]at n1;have n2:=wA (x:=a) ok4;rw[hm];omega
   ·rw[net4 x,aM (λz=>ha z.symm),aM (λz=>hb z.symm),bal x ha hb];rfl
end
end Net
namespace Net
open PySem L2
def aT(S:NS):List d5:=S.ti.map λr=>⟨.inl r.nm,.inl r.a,.inl r.b,r.w⟩
def aO(S:NS):List d5:=S.ti.map λr=>⟨.inl r.nm,.inl r.a,.inl r.b,1⟩
def uO(x:Str):d5:=⟨.inr [x,"passed"],.inr [x,"in"],.inr [x,"out"],1⟩
def oN(a b:Str)(r:dw):d5:=⟨.inl r.nm,.inr [r.a,"out"],.inr [r.b,"in"],if r.a=a/\r.b=b then 1 else 2⟩
def aB(S:NS)(a b:Str):List d5:=S.pl.map uO++S.ti.map (oN a b)
def Cb(x:Str):d5:=⟨.inr [x,"begin"],.inl "first",.inr [x,"begin"],1⟩
def zM(r:dw):d5:=⟨.inl r.nm,.inr [r.a,"begin"],.inr [r.b,"end"],2⟩
def Ej(x:Str):d5:=⟨.inr [x,"end"],.inr [x,"end"],.inl "last",1⟩
def aP(S:NS)(bs es:List Str):List d5:=bs.map Cb++S.ti.map zM++es.map Ej
def oC(H:Hp)(l:Addr)(arcs:List d5):Prop:=∃L:List (d5×Addr),H l=some (.lst (L.map λq=>V.ref q.2))/\kD H L arcs
theorem oC.same{H H':Hp}{l:Addr}{arcs:List d5}(s:aU H H')(h:oC H l arcs):oC H' l arcs:=let⟨L,e,a⟩:=h;⟨L,s _ _ e,a.same s⟩
def jd(H:Hp)(acc:List V)(arcs:List d5):Prop:=∃L:List (d5×Addr),acc=L.map (λq=>V.ref q.2)/\kD H L arcs
theorem jd.len{H:Hp}{acc:List V}{arcs:List d5}(h:jd H acc arcs):acc.length=arcs.length:=by
 obtain⟨L,rfl,e,_⟩:=h;rw[ae,<-e,ae]
theorem jd.snoc{H H':Hp}{acc:List V}{arcs:List d5}{r:d5}{t:Addr}(h:jd H acc arcs)(s:aU H H')(a:kr H' (r,t)):jd H' (acc++[.ref t]) (arcs++[r]):=by
 obtain⟨L,rfl,e,h⟩:=h;refine⟨L++[(r,t)],by rw[ah];rfl,by rw[ah,e];rfl,λq hq=>?_⟩;rcases aw.mp hq with hq|hq
 ·exact(h q hq).same s
 ·rw[ar.mp hq];exact a
theorem jd.nil{H:Hp}:jd H [] []:=⟨[],rfl,rfl,λ_ h=>(nomatch h)⟩
theorem jd.lst{H:Hp}{acc:List V}{arcs:List d5}{l:Addr}(h:jd H acc arcs)(hl:H l=none):oC (upd H l (.lst acc)) l arcs:=by
 obtain⟨L,rfl,a⟩:=h;exact⟨L,ai,a.same (aU.new hl)⟩
theorem jd.same{H H':Hp}{acc:List V}{arcs:List d5}(s:aU H H')(h:jd H acc arcs):jd H' acc arcs:=let⟨L,e,a⟩:=h;⟨L,e,a.same s⟩
theorem gl{α β:Type}{f:α->β}{l:List α}{i:Nat}{x:α}(h:l[i]?=some x):(l.take (i+1)).map f=(l.take i).map f++[f x]:=by rw[bi,h,ah];rfl
theorem lp{H:Hp}{x:Str}(h:cE x=true):aJ.at_ H (.inl x) (.str x):=⟨rfl,de h⟩
theorem jo{H:Hp}{x y:Str}{t:Addr}(e:H t=some (.tup [.str x,.str y]))(hx:PyData.strOk x=true)(hy:PyData.strOk y=true):aJ.at_ H (.inr [x,y]) (.ref t):=⟨t,rfl,e,λz hz=>by
 rcases bd.mp hz with rfl|hz
 ·exact hx
 ·rw[ar.mp hz];exact hy⟩
def mS(C:Addr)(g:NS->List d5):Sp:=λvs H Q _=>∃(p ds dl:Addr)(S:NS),vs=[.ref p]/\fW C H p ds dl S/\∀(l:Addr)(H':Hp),aU H H'->oC H' l (g S)->Q (.ref l) H'
def vJ(C:Addr):Sp:=λvs H Q _=>∃(p ds dl:Addr)(S:NS)(a b:Str),vs=[.ref p,.str a,.str b]/\fW C H p ds dl S/\∀(l:Addr)(H':Hp),aU H H'->oC H' l (aB S a b)->Q (.ref l) H'
def vI(C:Addr):Sp:=λvs H Q _=>∃(p ds dl bl el:Addr)(S:NS)(bs es:List Str),vs=[.ref p,.ref bl,.ref el]/\fW C H p ds dl S/\H bl=some (.lst (bs.map V.str))/\H el=some (.lst (es.map V.str))/\bs.length<=20/\es.length<=20/\(∀x∈bs,cE x=true)/\(∀x∈es,cE x=true)/\∀(l:Addr)(H':Hp),aU H H'->oC H' l (aP S bs es)->Q (.ref l) H'
section
variable{P:Program}{w:World}{K:ag}{mg:Str->Option Value}{base:Heap}{C:Addr}
theorem Ay:bG ["net"] ["net"] (aA s_arcs_of_ties):=⟨rfl,rfl,rfl,Qk,rfl,Qk,Qk⟩
theorem Bh{f:Addr}{fd:FuncData}(F:fI K "arcs_of_ties" "arcs_of_ties" s_arcs_of_ties f fd)(T:fo K mg C)(m_ties:gt P w K mg base 1 C "ties" ["self"] (iu C)):FnOk P w K mg base fA 2 f fd ["net"] (mS C aT):=by
 refine F.ok Ay (λvs H Q E h=>?_) (λcdv A outer s H vs Q E hr h=>?_)
 ·obtain⟨p,ds,dl,S,rfl,_⟩:=h;rfl
 ·obtain⟨p,ds,dl,S,rfl,N,q⟩:=h;have nd_0:List.Nodup (["row"]:List Str):=Qk;refine⟨_,(aS (bC (cW (N:=["row"]) (xs:=1) (js:=[]) rfl (bt rfl) (bU (cB (pv 0) T.cl m_ties hr)) (λ_ _ _ _=>be (i:=0) nd_0 rfl (aN rfl)) (λ_ _ _ _=>cV) (λ_ _ _ _=>bX (pa_cons (bw (cx K Qr) (pv 0) aD (λ_ _=>Qr)) (pa_cons (bw (cx K Qr) (pv 0) aD (λ_ _=>Qr)) (pa_cons (bw (cx K Qr) (pv 0) aD (λ_ _=>Qr)) (pa_cons (bw (cx K Qr) (pv 0) aD (λ_ _=>Qr)) pa_nil)))))))),?_⟩;obtain⟨dx,h1⟩:=N.net.ob;refine⟨_,rfl,p,dx,_,rfl,h1,df ds dl Qk Qk,p,ds,dl,S,rfl,N.net,λl H1 L hl s1 RL e1=>?_⟩;have RL1:=RL.same s1;have eL:L.length=S.ti.length:=by rw[<-RL.1,ae]
  have few:=N.few;refine⟨l,rfl,⟨_,SqL.of e1⟩,bW (K:=K) (ys:=L.map λq=>V.ref q.2) (λi acc σ' H'=>jd H' acc ((S.ti.take i).map λr=>⟨.inl r.nm,.inl r.a,.inl r.b,r.w⟩)/\aU H1 H'/\∃o,σ'=[o])
   ⟨.nil,aU.refl H1,none,rfl⟩ (λi acc σ' H' h=>?_) ?_ (λi acc σ' H' _ h=>SqL.of (h.2.1 _ _ e1)) (λi x acc σ' H' hx h=>?_) (λacc σ' H' h pp hpp=>?_)⟩
  ·rw[h.1.len,ae,aQ];omega
  ·rw[ae,eL];exact ay few Qd
  ·obtain⟨ac,s2,o,rfl⟩:=h;rw[ap]at hx;cases eq:L[i]? with
   |none=>rw[eq]at hx;cases hx
   |some qq=>
    rw[eq]at hx;cases hx;have hq:=s2 _ _ (RL1.2 qq (ao eq));have er:S.ti[i]?=some qq.1:=by rw[<-RL.1,ap,eq];rfl
    have okr:=N.okT qq.1 (ao er);refine⟨_,rfl,_,_,_,.str qq.1.nm,rfl,rfl,cG.of hq,rfl,_,rfl,_,_,_,.str qq.1.a,rfl,rfl,cG.of hq,rfl,_,rfl,_,_,_,.str qq.1.b,rfl,rfl,cG.of hq,rfl,_,rfl,_,_,_,.int qq.1.w,rfl,rfl,cG.of hq,rfl,(by show 4<=sizeLine;decide),λt ht=>?_⟩;rw[gl er];exact⟨ac.snoc (aU.new ht) ⟨_,_,_,ai,lp okr.1,lp (N.okP _ okr.2.1),lp (N.okP _ okr.2.2)⟩,s2.upd ht,_,rfl⟩
  ·obtain⟨ac,s2,o,rfl⟩:=h;rw[ae,eL,bf]at ac;exact q pp _ ((s1.trans s2).upd hpp) (ac.lst hpp)
theorem Az:bG ["net"] ["net"] (aA s_arcs_of_one):=⟨rfl,rfl,rfl,Qk,rfl,Qk,Qk⟩
theorem Bj{f:Addr}{fd:FuncData}(F:fI K "arcs_of_one" "arcs_of_one" s_arcs_of_one f fd)(T:fo K mg C)(m_ties:gt P w K mg base 1 C "ties" ["self"] (iu C)):FnOk P w K mg base fA 2 f fd ["net"] (mS C aO):=by
 refine F.ok Az (λvs H Q E h=>?_) (λcdv A outer s H vs Q E hr h=>?_)
 ·obtain⟨p,ds,dl,S,rfl,_⟩:=h;rfl
 ·obtain⟨p,ds,dl,S,rfl,N,q⟩:=h;have nd_0:List.Nodup (["row"]:List Str):=Qk;refine⟨_,(aS (bC (cW (N:=["row"]) (xs:=1) (js:=[]) rfl (bt rfl) (bU (cB (pv 0) T.cl m_ties hr)) (λ_ _ _ _=>be (i:=0) nd_0 rfl (aN rfl)) (λ_ _ _ _=>cV) (λ_ _ _ _=>bX (pa_cons (bw (cx K Qr) (pv 0) aD (λ_ _=>Qr)) (pa_cons (bw (cx K Qr) (pv 0) aD (λ_ _=>Qr)) (pa_cons (bw (cx K Qr) (pv 0) aD (λ_ _=>Qr)) (pa_cons aD pa_nil)))))))),?_⟩;obtain⟨dx,h1⟩:=N.net.ob;refine⟨_,rfl,p,dx,_,rfl,h1,df ds dl Qk Qk,p,ds,dl,S,rfl,N.net,λl H1 L hl s1 RL e1=>?_⟩;have RL1:=RL.same s1;have eL:L.length=S.ti.length:=by rw[<-RL.1,ae]
  have few:=N.few;refine⟨l,rfl,⟨_,SqL.of e1⟩,bW (K:=K) (ys:=L.map λq=>V.ref q.2) (λi acc σ' H'=>jd H' acc ((S.ti.take i).map λr=>⟨.inl r.nm,.inl r.a,.inl r.b,1⟩)/\aU H1 H'/\∃o,σ'=[o])
   ⟨.nil,aU.refl H1,none,rfl⟩ (λi acc σ' H' h=>?_) ?_ (λi acc σ' H' _ h=>SqL.of (h.2.1 _ _ e1)) (λi x acc σ' H' hx h=>?_) (λacc σ' H' h pp hpp=>?_)⟩
  ·rw[h.1.len,ae,aQ];omega
  ·rw[ae,eL];exact ay few Qd
  ·obtain⟨ac,s2,o,rfl⟩:=h;rw[ap]at hx;cases eq:L[i]? with
   |none=>rw[eq]at hx;cases hx
   |some qq=>
    rw[eq]at hx;cases hx;have hq:=s2 _ _ (RL1.2 qq (ao eq));have er:S.ti[i]?=some qq.1:=by rw[<-RL.1,ap,eq];rfl
    have okr:=N.okT qq.1 (ao er);refine⟨_,rfl,_,_,_,.str qq.1.nm,rfl,rfl,cG.of hq,rfl,_,rfl,_,_,_,.str qq.1.a,rfl,rfl,cG.of hq,rfl,_,rfl,_,_,_,.str qq.1.b,rfl,rfl,cG.of hq,rfl,(by show 4<=sizeLine;decide),λt ht=>?_⟩;rw[gl er];exact⟨ac.snoc (aU.new ht) ⟨_,_,_,ai,lp okr.1,lp (N.okP _ okr.2.1),lp (N.okP _ okr.2.2)⟩,s2.upd ht,_,rfl⟩
  ·obtain⟨ac,s2,o,rfl⟩:=h;rw[ae,eL,bf]at ac;exact q pp _ ((s1.trans s2).upd hpp) (ac.lst hpp)
abbrev HE:List Str:=["net","a","b","arcs","name","begin","end","width","cost"]
theorem hV:bG HE ["net","a","b"] (aA s_arcs_through_places):=⟨rfl,rfl,rfl,Qk,rfl,Qk,Qk⟩
theorem Bk{f:Addr}{fd:FuncData}(F:fI K "arcs_through_places" "arcs_through_places" s_arcs_through_places f fd)(T:fo K mg C)(hW:jS mg "WIDE" (.int 2))(m_places:gt P w K mg base 1 C "places" ["self"] (g_ C))(m_ties:gt P w K mg base 1 C "ties" ["self"] (iu C)):FnOk P w K mg base fA 2 f fd ["net","a","b"] (vJ C):=by
 refine F.ok hV (λvs H Q E h=>?_) (λcdv A outer s H vs Q E hr h=>?_)
 ·obtain⟨p,ds,dl,S,a,b,rfl,_⟩:=h;rfl
 ·obtain⟨p,ds,dl,S,a,b,rfl,N,q⟩:=h;have nd_0:List.Nodup (["place"]:List Str):=Qk;refine⟨_,(ax (gd (j:=3) (N:=["place"]) (xs:=1) (js:=[]) rfl hV.nd rfl rfl (bt rfl) (bU (cB (pv 0) T.cl m_places hr)) (λ_ _ _ _=>be (i:=0) nd_0 rfl (aN rfl)) (λ_ _ _ _=>cV) (λ_ _ _ _=>bX (pa_cons (bX (pa_cons (pv 0) (pa_cons bQ pa_nil))) (pa_cons (bX (pa_cons (pv 0) (pa_cons bQ pa_nil))) (pa_cons (bX (pa_cons (pv 0) (pa_cons bQ pa_nil))) (pa_cons aD pa_nil))))) rfl)
   (ax (fg PassesOwn.never rfl (bU (cB (pv 0) T.cl m_ties hr)) (ge rfl (bq (be (i:=4) hV.nd rfl (aN rfl)) (bq (be (i:=5) hV.nd rfl (aN rfl)) (bq (be (i:=6) hV.nd rfl (aN rfl)) (bq (be (i:=7) hV.nd rfl (aN rfl)) (bq (be (i:=8) hV.nd rfl (aN rfl)) dI))))))
     (aS (du (iH bN ck cj fu (pv 3) (pa_cons (bX (pa_cons (pv 4) (pa_cons (bX (pa_cons (pv 5) (pa_cons bQ pa_nil))) (pa_cons (bX (pa_cons (pv 6) (pa_cons bQ pa_nil))) (pa_cons (C2 (gD (PW.pt (nz (bJ d9 (pv 5) (pv 1) (nomark _)) (kT (bJ d9 (pv 6) (pv 2) (nomark _))))) aD (ia hW Qr))) pa_nil))))) pa_nil)))))
   (aS (bC (pv 3))))),?_⟩
  obtain⟨dx,h1⟩:=N.net.ob;have fewP:=N.fewP;have few:=N.few;refine⟨_,rfl,p,dx,_,rfl,h1,df ds dl Qk Qk,p,ds,dl,S,rfl,N.net,λl hl=>?_⟩;have s1:=aU.new (o:=.lst (S.pl.map V.str)) hl;have e1:(upd H l (.lst (S.pl.map V.str))) l=some (.lst (S.pl.map V.str)):=ai;generalize upd H l (.lst (S.pl.map V.str))=H1 at s1 e1;refine⟨l,rfl,⟨_,SqL.of e1⟩,bW (K:=K) (ys:=S.pl.map V.str) (λi acc σ' H'=>jd H' acc ((S.pl.take i).map uO)/\aU H1 H'/\∃o,σ'=[o])
   ⟨.nil,aU.refl H1,none,rfl⟩ (λi acc σ' H' h=>?_) ?_ (λi acc σ' H' _ h=>SqL.of (h.2.1 _ _ e1)) (λi x acc σ' H' hx h=>?_) (λacc σ' H' h al hal=>?_)⟩
  ·rw[h.1.len,ae,aQ];omega
  ·rw[ae];exact ay fewP Qd
  ·obtain⟨ac,s2,o,rfl⟩:=h;rw[ap]at hx;cases eq:S.pl[i]? with
   |none=>rw[eq]at hx;cases hx
   |some y=>
    rw[eq]at hx;cases hx;have oky:=de (N.okP y (ao eq));refine⟨_,rfl,(by show 2<=sizeLine;decide),λt1 k1=>⟨_,rfl,(by show 2<=sizeLine;decide),λt2 k2=>⟨_,rfl,(by show 2<=sizeLine;decide),λt3 k3=>⟨(by show 4<=sizeLine;decide),λt ht=>?_⟩⟩⟩⟩;have z1:=aU.new (o:=.tup [.str y,.str "passed"]) k1;have f1:(upd H' t1 (.tup [.str y,.str "passed"])) t1=some (.tup [.str y,.str "passed"]):=ai;generalize upd H' t1 (.tup [.str y,.str "passed"])=G1 at*;have z2:=aU.new (o:=.tup [.str y,.str "in"]) k2;have f2:(upd G1 t2 (.tup [.str y,.str "in"])) t2=some (.tup [.str y,.str "in"]):=ai;generalize upd G1 t2 (.tup [.str y,.str "in"])=G2 at*;have z3:=aU.new (o:=.tup [.str y,.str "out"]) k3;have f3:(upd G2 t3 (.tup [.str y,.str "out"])) t3=some (.tup [.str y,.str "out"]):=ai;generalize upd G2 t3 (.tup [.str y,.str "out"])=G3 at*;have z4:=aU.new (o:=.tup [.ref t1,.ref t2,.ref t3,.int 1]) ht;have w3:=z3.trans z4;have w2:=z2.trans w3;have w1:=z1.trans w2;rw[gl eq];exact⟨ac.snoc w1 ⟨_,_,_,ai,jo (w2 _ _ f1) oky Qk,jo (w3 _ _ f2) oky Qk,jo (z4 _ _ f3) oky Qk⟩,s2.trans w1,_,rfl⟩
  obtain⟨ac,s2,o,rfl⟩:=h;rw[ae,bf]at ac;have AL:=ac.lst hal;have s3:=s2.upd (o:=.lst acc) hal;have s3H:=s1.trans s3;have hfr:H al=none:=(s1.trans s2).free hal;generalize upd H' al (.lst acc)=H2 at AL s3 s3H;have N2:=N.net.same s3H;obtain⟨dx2,h2⟩:=N2.ob;refine⟨_,rfl,p,dx2,_,rfl,h2,df ds dl Qk Qk,p,ds,dl,S,rfl,N2,λtl H3 L htl s4 RL e3=>?_⟩;have RL3:=RL.same s4;have eL:L.length=S.ti.length:=by rw[<-RL.1,ae]
  have nal:tl≠al:=λz=>by
   obtain⟨L0,e0,_⟩:=AL;rw[z]at htl;rw[htl]at e0;cases e0
  refine⟨tl,rfl,⟨_,SqL.of e3⟩,fi (K:=K) (a:=tl) (xs:=L.map λq=>V.ref q.2) (λi σ' H'=>(∃o4 o5 o6 o7 o8,σ'=[some (.ref p),some (.str a),some (.str b),some (.ref al),o4,o5,o6,o7,o8])/\(∀c ob,H3 c=some ob->c≠al->H' c=some ob)/\oC H' al (S.pl.map uO++(S.ti.take i).map (oN a b)))
   ⟨⟨_,_,_,_,_,rfl⟩,λ_ _ e _=>e,by rw[List.take_zero,gJ,b_];exact AL.same s4⟩ (λi σ' H' _ h=>SqL.of (h.2.1 _ _ e3 nal)) (λi v σ' H' hv h=>?_) (λσ' H' h=>?_)⟩
  ·obtain⟨⟨o4,o5,o6,o7,o8,rfl⟩,kp,LA,e5,AA⟩:=h;rw[ap]at hv;cases eq:L[i]? with
   |none=>rw[eq]at hv;cases hv
   |some qq=>
    rw[eq]at hv;cases hv;obtain⟨L0,e0,_⟩:=AL.same s4;have hq:=kp _ _ (RL3.2 qq (ao eq)) (cU (RL3.2 qq (ao eq)) e0 (by intro z;cases z));have er:S.ti[i]?=some qq.1:=by rw[<-RL.1,ap,eq];rfl
    have okr:=N.okT qq.1 (ao er);obtain⟨r,qa⟩:=qq;refine⟨qa,_,rfl,cG.of hq,rfl,_,_,rfl,_,_,rfl,_,_,rfl,_,_,rfl,_,_,rfl,rfl,?_⟩;refine⟨_,rfl,.inl ⟨rfl,_,SqL.of e5⟩,_,rfl,_,rfl,(by show 2<=sizeLine;decide),λt1 k1=>⟨_,rfl,(by show 2<=sizeLine;decide),λt2 k2=>?_⟩⟩;have z1:=aU.new (o:=.tup [.str r.a,.str "out"]) k1;have f1:(upd H' t1 (.tup [.str r.a,.str "out"])) t1=some (.tup [.str r.a,.str "out"]):=ai;generalize upd H' t1 (.tup [.str r.a,.str "out"])=G1 at*;have z2:=aU.new (o:=.tup [.str r.b,.str "in"]) k2;have f2:(upd G1 t2 (.tup [.str r.b,.str "in"])) t2=some (.tup [.str r.b,.str "in"]):=ai;generalize upd G1 t2 (.tup [.str r.b,.str "in"])=G2 at*;refine⟨λv H''=>G2=H''/\v=.int (if r.a=a/\r.b=b then 1 else 2),?_,?_⟩
    ·refine⟨_,rfl,_,rfl,rfl,_,rfl,oK (λha=>⟨_,rfl,_,rfl,rfl,_,rfl,oK (λhb=>?_) (λhb=>?_)⟩) (λha=>?_)⟩
     ·exact⟨rfl,by rw[bc ⟨V.str.inj (aK ha),V.str.inj (aK hb)⟩]⟩
     ·exact⟨rfl,by rw[aM (λz=>hb (af (b6 V.str z.2)))]⟩
     ·exact⟨rfl,by rw[aM (λz=>ha (af (b6 V.str z.1)))]⟩
    rintro v _⟨rfl,rfl⟩;refine⟨(by show 4<=sizeLine;decide),λt ht=>?_⟩;have z3:=aU.new (o:=.tup [.str r.nm,.ref t1,.ref t2,.int (if r.a=a/\r.b=b then 1 else 2)]) ht;have w2:=z2.trans z3;have w1:=z1.trans w2;have f3:(upd G2 t (.tup [.str r.nm,.ref t1,.ref t2,.int (if r.a=a/\r.b=b then 1 else 2)])) t=some (.tup [.str r.nm,.ref t1,.ref t2,.int (if r.a=a/\r.b=b then 1 else 2)]):=ai;have lLA:LA.length<=60:=by
     have:=b6 List.length AA.1;rw[ae,aI,ae,ae,aQ]at this;omega
    refine⟨al,_,_,rfl,rfl,w1 _ _ e5,cT (by rw[ae];omega),⟨_,_,_,_,_,rfl⟩,λc ob e hc=>?_,?_⟩
    ·rw[aV hc];exact w1 _ _ (kp c ob e hc)
    ·generalize upd G2 t (.tup [.str r.nm,.ref t1,.ref t2,.int (if r.a=a/\r.b=b then 1 else 2)])=G3 at*;have e6:=w1 _ _ e5;refine⟨LA++[(oN a b r,t)],by rw[ai,ah];rfl,?_,λq hq=>?_⟩
     ·rw[ah,AA.1,gl er,<-oY];rfl
     ·have up:∀{q:d5×Addr},kr G3 q->kr (upd G3 al (.lst ((LA.map λq=>V.ref q.2)++[.ref t]))) q:=λ{q}h=>by
       obtain⟨yn,ya,yb,e,m1,m2,m3⟩:=h;exact⟨yn,ya,yb,by rw[aV (cU e e6 (by intro z;cases z))];exact e,m1.upd e6 (λ_ z=>nomatch z),m2.upd e6 (λ_ z=>nomatch z),m3.upd e6 (λ_ z=>nomatch z)⟩
      rcases aw.mp hq with hq|hq
      ·exact up ((AA.2 q hq).same w1)
      ·rw[ar.mp hq];exact up ⟨_,_,_,f3,lp okr.1,jo (w2 _ _ f1) (de (N.okP _ okr.2.1)) Qk,jo (z3 _ _ f2) (de (N.okP _ okr.2.2)) Qk⟩
  ·obtain⟨⟨o4,o5,o6,o7,o8,rfl⟩,kp,LA⟩:=h;rw[ae,eL,bf]at LA;exact⟨_,rfl,q al H' (λc ob e=>kp c ob (s4 _ _ (s3H _ _ e)) (aZ e hfr)) LA⟩
end
end Net
namespace Net
open PySem L2
theorem kr.upd{H:Hp}{q:d5×Addr}{a:Addr}{o o':HO}(h:kr H q)(e:H a=some o)(nt:∀xs,o≠ .tup xs):kr (L2.upd H a o') q:=by
 obtain⟨yn,ya,yb,e2,m1,m2,m3⟩:=h;exact⟨yn,ya,yb,by rw[aV (λz=>by rw[z,e]at e2;exact nt _ (Option.some.inj e2))];exact e2,m1.upd e nt,m2.upd e nt,m3.upd e nt⟩
theorem oC.ext{H H1:Hp}{l:Addr}{A B:List d5}{acc:List V}(h:oC H l A)(s:aU H H1)(c:jd H1 acc B):∃xs,H1 l=some (.lst xs)/\xs.length=A.length/\oC (upd H1 l (.lst (xs++acc))) l (A++B):=by
 obtain⟨L,e,a1,a2⟩:=h;obtain⟨M,rfl,b1,b2⟩:=c;have e1:=s _ _ e;refine⟨_,e1,by rw[ae,<-a1,ae],L++M,by rw[ai,ah],by rw[ah,a1,b1],λq hq=>?_⟩;rcases aw.mp hq with hq|hq
 ·exact((a2 q hq).same s).upd e1 (λ_ z=>nomatch z)
 ·exact(b2 q hq).upd e1 (λ_ z=>nomatch z)
section
variable{P:Program}{w:World}{K:ag}{mg:Str->Option Value}{base:Heap}{C:Addr}
abbrev HD:List Str:=["net","begins","ends","arcs"]
theorem q5:bG HD ["net","begins","ends"] (aA s_arcs_of_pairs):=⟨rfl,rfl,rfl,Qk,rfl,Qk,Qk⟩
theorem Bi{f:Addr}{fd:FuncData}(F:fI K "arcs_of_pairs" "arcs_of_pairs" s_arcs_of_pairs f fd)(T:fo K mg C)(hW:jS mg "WIDE" (.int 2))(m_ties:gt P w K mg base 1 C "ties" ["self"] (iu C)):FnOk P w K mg base fA 2 f fd ["net","begins","ends"] (vI C):=by
 refine F.ok q5 (λvs H Q E h=>?_) (λcdv A outer s H vs Q E hr h=>?_)
 ·obtain⟨p,ds,dl,bl,el,S,bs,es,rfl,_⟩:=h;rfl
 ·obtain⟨p,ds,dl,bl,el,S,bs,es,rfl,N,hbl,hel,lb,le,okb,oke,q⟩:=h;have nd_0:List.Nodup (["place"]:List Str):=Qk;have nd_1:List.Nodup (["row"]:List Str):=Qk;refine⟨_,(ax (gd (j:=3) (N:=["place"]) (xs:=1) (js:=[]) rfl q5.nd rfl rfl (bt rfl) (bU (pv 1)) (λ_ _ _ _=>be (i:=0) nd_0 rfl (aN rfl)) (λ_ _ _ _=>cV) (λ_ _ _ _=>bX (pa_cons (bX (pa_cons (pv 0) (pa_cons bQ pa_nil))) (pa_cons bQ (pa_cons (bX (pa_cons (pv 0) (pa_cons bQ pa_nil))) (pa_cons aD pa_nil))))) rfl)
   (ax (du (iH bN zG zF pz (pv 3) (pa_cons (cW (N:=["row"]) (xs:=1) (js:=[]) rfl (bt rfl) (bU (cB (pv 0) T.cl m_ties hr)) (λ_ _ _ _=>be (i:=0) nd_1 rfl (aN rfl)) (λ_ _ _ _=>cV) (λ_ _ _ _=>bX (pa_cons (bw (cx K Qr) (pv 0) aD (λ_ _=>Qr)) (pa_cons (bX (pa_cons (bw (cx K Qr) (pv 0) aD (λ_ _=>Qr)) (pa_cons bQ pa_nil))) (pa_cons (bX (pa_cons (bw (cx K Qr) (pv 0) aD (λ_ _=>Qr)) (pa_cons bQ pa_nil))) (pa_cons (ia hW Qr) pa_nil)))))) pa_nil)))
   (ax (du (iH bN zG zF pz (pv 3) (pa_cons (cW (N:=["place"]) (xs:=1) (js:=[]) rfl (bt rfl) (bU (pv 2)) (λ_ _ _ _=>be (i:=0) nd_0 rfl (aN rfl)) (λ_ _ _ _=>cV) (λ_ _ _ _=>bX (pa_cons (bX (pa_cons (pv 0) (pa_cons bQ pa_nil))) (pa_cons (bX (pa_cons (pv 0) (pa_cons bQ pa_nil))) (pa_cons bQ (pa_cons aD pa_nil)))))) pa_nil)))
   (aS (bC (pv 3)))))),?_⟩
  have few:=N.few;refine⟨_,rfl,bl,rfl,⟨_,SqL.of hbl⟩,bW (K:=K) (ys:=bs.map V.str) (λi acc σ' H'=>jd H' acc ((bs.take i).map Cb)/\aU H H'/\∃o,σ'=[o])
   ⟨.nil,aU.refl H,none,rfl⟩ (λi acc σ' H' h=>?_) ?_ (λi acc σ' H' _ h=>SqL.of (h.2.1 _ _ hbl)) (λi x acc σ' H' hx h=>?_) (λacc σ' H' h al hal=>?_)⟩
  ·rw[h.1.len,ae,aQ];omega
  ·rw[ae];exact ay lb Qd
  ·obtain⟨ac,s2,o,rfl⟩:=h;rw[ap]at hx;cases eq:bs[i]? with
   |none=>rw[eq]at hx;cases hx
   |some y=>
    rw[eq]at hx;cases hx;have oky:=de (okb y (ao eq));refine⟨_,rfl,(by show 2<=sizeLine;decide),λt1 k1=>⟨_,rfl,(by show 2<=sizeLine;decide),λt2 k2=>⟨(by show 4<=sizeLine;decide),λt ht=>?_⟩⟩⟩;have z1:=aU.new (o:=.tup [.str y,.str "begin"]) k1;have f1:(upd H' t1 (.tup [.str y,.str "begin"])) t1=some (.tup [.str y,.str "begin"]):=ai;generalize upd H' t1 (.tup [.str y,.str "begin"])=G1 at*;have z2:=aU.new (o:=.tup [.str y,.str "begin"]) k2;have f2:(upd G1 t2 (.tup [.str y,.str "begin"])) t2=some (.tup [.str y,.str "begin"]):=ai;generalize upd G1 t2 (.tup [.str y,.str "begin"])=G2 at*;have z3:=aU.new (o:=.tup [.ref t1,.str "first",.ref t2,.int 1]) ht;have w2:=z2.trans z3;have w1:=z1.trans w2;rw[gl eq];exact⟨ac.snoc w1 ⟨_,_,_,ai,jo (w2 _ _ f1) oky Qk,⟨rfl,Qk⟩,jo (z3 _ _ f2) oky Qk⟩,s2.trans w1,_,rfl⟩
  obtain⟨ac,s2,o,rfl⟩:=h;rw[ae,bf]at ac;have AL:=ac.lst hal;have s3:=s2.upd (o:=.lst acc) hal;have hfr:H al=none:=s2.free hal;have esq:∃xs,SqL K (upd H' al (.lst acc)) al xs:=⟨_,SqL.of ai⟩;generalize upd H' al (.lst acc)=H2 at AL s3 esq;have N2:=N.net.same s3;obtain⟨dx2,h2⟩:=N2.ob;refine⟨_,rfl,.inl ⟨rfl,esq⟩,_,rfl,p,dx2,_,rfl,h2,df ds dl Qk Qk,p,ds,dl,S,rfl,N2,λtl H3 L htl s4 RL e3=>?_⟩;have RL3:=RL.same s4;have eL:L.length=S.ti.length:=by rw[<-RL.1,ae]
  refine⟨tl,rfl,⟨_,SqL.of e3⟩,bW (K:=K) (ys:=L.map λq=>V.ref q.2) (λi acc σ' H'=>jd H' acc ((S.ti.take i).map zM)/\aU H3 H'/\∃o,σ'=[o])
   ⟨.nil,aU.refl H3,none,rfl⟩ (λi acc σ' H' h=>?_) ?_ (λi acc σ' H' _ h=>SqL.of (h.2.1 _ _ e3)) (λi x acc σ' H' hx h=>?_) (λacc2 σ' H4 h bl2 hbl2=>?_)⟩
  ·rw[h.1.len,ae,aQ];omega
  ·rw[ae,eL];exact ay few Qd
  ·obtain⟨ac,s5,o,rfl⟩:=h;rw[ap]at hx;cases eq:L[i]? with
   |none=>rw[eq]at hx;cases hx
   |some qq=>
    rw[eq]at hx;cases hx;have hq:=s5 _ _ (RL3.2 qq (ao eq));have er:S.ti[i]?=some qq.1:=by rw[<-RL.1,ap,eq];rfl
    have okr:=N.okT qq.1 (ao er);obtain⟨r,qa⟩:=qq;refine⟨_,rfl,_,_,_,.str r.nm,rfl,rfl,cG.of hq,rfl,_,rfl,_,_,_,.str r.a,rfl,rfl,cG.of hq,rfl,(by show 2<=sizeLine;decide),λt1 k1=>?_⟩;have z1:=aU.new (o:=.tup [.str r.a,.str "begin"]) k1;have f1:(upd H' t1 (.tup [.str r.a,.str "begin"])) t1=some (.tup [.str r.a,.str "begin"]):=ai;generalize upd H' t1 (.tup [.str r.a,.str "begin"])=G1 at*;refine⟨_,rfl,_,_,_,.str r.b,rfl,rfl,cG.of (z1 _ _ hq),rfl,(by show 2<=sizeLine;decide),λt2 k2=>?_⟩;have z2:=aU.new (o:=.tup [.str r.b,.str "end"]) k2;have f2:(upd G1 t2 (.tup [.str r.b,.str "end"])) t2=some (.tup [.str r.b,.str "end"]):=ai;generalize upd G1 t2 (.tup [.str r.b,.str "end"])=G2 at*;refine⟨(by show 4<=sizeLine;decide),λt ht=>?_⟩;have z3:=aU.new (o:=.tup [.str r.nm,.ref t1,.ref t2,.int 2]) ht;have w2:=z2.trans z3;have w1:=z1.trans w2;rw[gl er];exact⟨ac.snoc w1 ⟨_,_,_,ai,lp okr.1,jo (w2 _ _ f1) (de (N.okP _ okr.2.1)) Qk,jo (z3 _ _ f2) (de (N.okP _ okr.2.2)) Qk⟩,s5.trans w1,_,rfl⟩
  obtain⟨ac2,s5,o,rfl⟩:=h;rw[ae,eL,bf]at ac2;have z6:=aU.new (o:=.lst acc2) hbl2;obtain⟨xs,e6,l6,AL6⟩:=AL.ext ((s4.trans s5).trans z6) (ac2.same z6);have la2:=ac2.len;rw[ae]at la2 l6;refine⟨al,bl2,xs,acc2,rfl,rfl,e6,ai,ay (show _<=100 by omega) Qd,?_⟩;have s6:aU H (upd (upd H4 bl2 (.lst acc2)) al (.lst (xs++acc2))):=λc ob e=>by
   rw[aV (aZ e hfr)];exact(((s3.trans s4).trans s5).trans z6) _ _ e
  have esq6:∃xs',SqL K (upd (upd H4 bl2 (.lst acc2)) al (.lst (xs++acc2))) al xs':=⟨_,SqL.of ai⟩;generalize upd (upd H4 bl2 (.lst acc2)) al (.lst (xs++acc2))=H6 at s6 AL6 esq6;have hel6:=s6 _ _ hel;refine⟨_,rfl,.inl ⟨rfl,esq6⟩,_,rfl,el,rfl,⟨_,SqL.of hel6⟩,bW (K:=K) (ys:=es.map V.str) (λi acc σ' H'=>jd H' acc ((es.take i).map Ej)/\aU H6 H'/\∃o,σ'=[o])
   ⟨.nil,aU.refl H6,none,rfl⟩ (λi acc σ' H' h=>?_) ?_ (λi acc σ' H' _ h=>SqL.of (h.2.1 _ _ hel6)) (λi x acc σ' H' hx h=>?_) (λacc3 σ' H7 h el2 hel2=>?_)⟩
  ·rw[h.1.len,ae,aQ];omega
  ·rw[ae];exact ay le Qd
  ·obtain⟨ac,s7,o,rfl⟩:=h;rw[ap]at hx;cases eq:es[i]? with
   |none=>rw[eq]at hx;cases hx
   |some y=>
    rw[eq]at hx;cases hx;have oky:=de (oke y (ao eq));refine⟨_,rfl,(by show 2<=sizeLine;decide),λt1 k1=>⟨_,rfl,(by show 2<=sizeLine;decide),λt2 k2=>⟨(by show 4<=sizeLine;decide),λt ht=>?_⟩⟩⟩;have z1:=aU.new (o:=.tup [.str y,.str "end"]) k1;have f1:(upd H' t1 (.tup [.str y,.str "end"])) t1=some (.tup [.str y,.str "end"]):=ai;generalize upd H' t1 (.tup [.str y,.str "end"])=G1 at*;have z2:=aU.new (o:=.tup [.str y,.str "end"]) k2;have f2:(upd G1 t2 (.tup [.str y,.str "end"])) t2=some (.tup [.str y,.str "end"]):=ai;generalize upd G1 t2 (.tup [.str y,.str "end"])=G2 at*;have z3:=aU.new (o:=.tup [.ref t1,.ref t2,.str "last",.int 1]) ht;have w2:=z2.trans z3;have w1:=z1.trans w2;rw[gl eq];exact⟨ac.snoc w1 ⟨_,_,_,ai,jo (w2 _ _ f1) oky Qk,jo (z3 _ _ f2) oky Qk,⟨rfl,Qk⟩⟩,s7.trans w1,_,rfl⟩
  obtain⟨ac3,s7,o,rfl⟩:=h;rw[ae,bf]at ac3;have z8:=aU.new (o:=.lst acc3) hel2;obtain⟨xs8,e8,l8,AL8⟩:=AL6.ext (s7.trans z8) (ac3.same z8);have la3:=ac3.len;rw[ae]at la3;rw[aI,ae,ae]at l8;refine⟨al,el2,xs8,acc3,rfl,rfl,e8,ai,ay (show _<=100 by omega) Qd,_,rfl,q al _ (λc ob e=>?_) AL8⟩;rw[aV (aZ e hfr)];exact(s7.trans z8) _ _ (s6 _ _ e)
end
end Net
namespace Net
open PySem L2
theorem mE.last{T:List cZ}{a:aJ}{ws:List V}{vis:List aJ}{x:aJ}(p:mE T a ws vis x):x∈vis:=by
 cases p with
 |nil=>exact ar.mpr rfl
 |snoc p h hy=>exact aw.mpr (.inr (ar.mpr rfl))
structure oy(arcs:List d5)(a b:aJ)(F:aJ->Int)(ks:List aJ):Prop where
 mx:Fr arcs a b F (λx=>decide (x∈ks))
 nd:ks.Nodup
 rch:∀x∈ks,x=a\/∃s:gF,s.r∈arcs/\0<s.room F/\s.beg∈ks/\s.en=x
theorem xL{H:Hp}{ti:List d5}{F:aJ->Int}{T:List cZ}{a:aJ}{side:List aJ}(ft:jc H ti F T)(ha:a∈side)(cl:∀s:gF,s.r∈ti->0<s.room F->s.beg∈side->s.en∈side){ws:List V}{vis:List aJ}{x:aJ}(p:mE T a ws vis x):x∈side:=by
 induction p with
 |nil=>exact ha
 |snoc p h hy ih=>
  obtain⟨s,q,e,hs,_,_,_,h0⟩:=ft.1 _ h;cases e;exact cl s hs h0 ih
theorem mX{H:Hp}{ti:List d5}{F:aJ->Int}{T:List cZ}{a b:aJ}{d:Addr}{G:List oA}(ok:DP ti F)(bal:∀x,¬x=a->¬x=b->fP ti F x=0)
  (sd:∃side:List aJ,a∈side/\b∉side/\∀s:gF,s.r∈ti->0<s.room F->s.beg∈side->s.en∈side)(ft:jc H ti F T)(fd:kq H d T a G)(ha:a∈bD G)(cl:lC T (bD G)):oy ti a b F (bD G):=by
 obtain⟨side,sa,sb,sc⟩:=sd;refine⟨⟨ok,bal,af ha,am λhb=>?_,λs hs h0 hb=>af ?_⟩,fd.nd,λx hx=>?_⟩
 ·obtain⟨g,hg,e⟩:=aj.mp hb;obtain⟨_,⟨vis,p,_⟩,_⟩:=fd.ws g hg;exact sb (e▸xL ft sa sc p)
 ·obtain⟨t,ht,e⟩:=ft.2 s hs h0;have:=cl t ht (by rw[e];exact aK hb);rw[e]at this;exact this
 ·obtain⟨g,hg,e⟩:=aj.mp hx;obtain⟨_,⟨vis,p,hv⟩,_⟩:=fd.ws g hg;rw[e]at p;generalize g.2.1=ws0 at p;cases p with
  |nil=>exact .inl rfl
  |snoc p h hy=>
   obtain⟨s,q,e2,hs,_,_,_,h0⟩:=ft.1 _ h;have hb:=hv _ (aw.mpr (.inl p.last));have e3:(s.beg,s.en)=_:=(b6 Prod.snd e2).symm;have e4:=b6 Prod.fst e3;have e5:=b6 Prod.snd e3;exact .inr ⟨s,hs,h0,by rw[show s.beg=_ from e4];exact hb,e5⟩
theorem oy.min{arcs:List d5}{a b:aJ}{F:aJ->Int}{ks:List aJ}(h:oy arcs a b F ks):cO arcs a b (d_ arcs λx=>decide (x∈ks)):=h.mx.min
theorem lH{α:Type}{c:α->Bool}{f:α->Int}:∀{l:List α},((l.filter c).map f).sum=(l.map λx=>if c x=true then f x else 0).sum
 |[]=>rfl
 |x::l=>by
  rw[aF,bE,<-lH (l:=l)];cases h:c x with
  |true=>rw[gz h,aF,bE,bc rfl]
  |false=>rw[gA (by rw[h];exact aG),aM aG];omega
theorem j5{α:Type}{c:α->Bool}{l:List α}:((l.filter c).length:Int)=(l.map λx=>if c x=true then(1:Int)else 0).sum:=by
 rw[<-lH];generalize l.filter c=k;induction k with
 |nil=>rfl
 |cons x k ih=>rw[aF,bE,bT,<-ih];omega
theorem gs(A B:List d5)(p:aJ->Bool):d_ (A++B) p=d_ A p+d_ B p:=by
 unfold d_;rw[ah,iA]
theorem fN{α:Type}(f:α->d5)(l:List α)(p:aJ->Bool):d_ (l.map f) p=(l.map λx=>if p (f x).a=true/\p (f x).b=false then(f x).w else 0).sum:=by
 unfold d_;rw[bm];rfl
theorem i0(A B:List d5)(F:aJ->Int)(x:aJ):fP (A++B) F x=fP A F x+fP B F x:=by
 unfold fP Fv;rw[ah,ah,iA]
theorem iZ{α:Type}(f:α->d5)(l:List α)(F:aJ->Int)(x:aJ):fP (l.map f) F x=(l.map λy=>fc (f y,F (f y).nm) x).sum:=by
 unfold fP Fv;rw[bm,bm];rfl
theorem qQ{α:Type}{f:α->Int}{x:α}:∀{l:List α},(∀y∈l,0<=f y)->x∈l->f x<=(l.map f).sum
 |[],_,h=>nomatch h
 |y::l,h0,h=>by
  rw[aF,bE];have h1:=h0 y au;have h2:0<=(l.map f).sum:=by
   rw[<-gU (f:=λ_:α=>(0:Int)) (l:=l) λ_ _=>rfl];exact km λz hz=>h0 z (aq _ hz)
  rcases bd.mp h with rfl|h
  ·omega
  ·have:=qQ (λz hz=>h0 z (aq _ hz)) h;omega
theorem rG{pl:List Str}:∀{ks:List aJ},(∀k∈ks,∃x∈pl,k=.inl x)->∃ws:List Str,ks=ws.map Sum.inl/\∀x∈ws,x∈pl
 |[],_=>⟨[],rfl,λ_ h=>nomatch h⟩
 |k::ks,h=>by
  obtain⟨x,hx,e⟩:=h k au;obtain⟨ws,e2,h2⟩:=rG λy hy=>h y (aq _ hy);exact⟨x::ws,by rw[e,e2];rfl,λy hy=>by
   rcases bd.mp hy with rfl|hy
   ·exact hx
   ·exact h2 y hy⟩
theorem m5{ws:List Str}{x:Str}:(Sum.inl x:aJ)∈ws.map Sum.inl↔x∈ws:=⟨λh=>by
  obtain⟨y,hy,e⟩:=aj.mp h;exact Sum.inl.inj e▸hy,λh=>aj.mpr ⟨x,h,rfl⟩⟩
theorem EZ{ws:List Str}(h:(ws.map (Sum.inl:Str->aJ)).Nodup):ws.Nodup:=(eN.mp h).imp λh e=>h (by rw[e])
def aW(g:dw->Int)(S:NS):List d5:=S.ti.map λr=>⟨.inl r.nm,.inl r.a,.inl r.b,g r⟩
theorem F6{g:dw->Int}{S:NS}{a b:Str}{F:aJ->Int}{ks:List aJ}(okT:∀r∈S.ti,r.a∈S.pl/\r.b∈S.pl)(ha:a∈S.pl)(h:oy (aW g S) (.inl a) (.inl b) F ks):
  ∃ws:List Str,ks=ws.map Sum.inl/\ws.Nodup/\(∀x∈ws,x∈S.pl)/\a∈ws/\b∉ws/\cO (aW g S) (.inl a) (.inl b) (((nH S.ti ws).map g).sum):=by
 have hk:∀k∈ks,∃x∈S.pl,k=.inl x:=λk hk=>by
  rcases h.rch k hk with rfl|⟨s,hs,_,_,e⟩
  ·exact⟨a,ha,rfl⟩
  ·obtain⟨r,hr,e2⟩:=aj.mp hs;rw[<-e];unfold gF.en;rw[<-e2];split
   ·exact⟨r.b,(okT r hr).2,rfl⟩
   ·exact⟨r.a,(okT r hr).1,rfl⟩
 obtain⟨ws,e,hw⟩:=rG hk;have h1:=aK h.mx.ha;have h2:=gu h.mx.hb;have h3:=h.min;have h4:=h.nd;rw[e]at h1 h2 h4;simp only[e]at h3;refine⟨ws,e,EZ h4,hw,m5.mp h1,λz=>h2 (m5.mpr z),?_⟩;have:d_ (aW g S) (λx=>decide (x∈ws.map Sum.inl))=((nH S.ti ws).map g).sum:=by
  unfold aW nH;rw[fN,lH];refine gQ λr _=>?_;have e1:decide ((Sum.inl r.a:aJ)∈ws.map Sum.inl)=decide (r.a∈ws):=decide_eq_decide.mpr m5;have e2:decide ((Sum.inl r.b:aJ)∈ws.map Sum.inl)=decide (r.b∈ws):=decide_eq_decide.mpr m5;show(if decide ((Sum.inl r.a:aJ)∈ws.map Sum.inl)=true/\decide ((Sum.inl r.b:aJ)∈ws.map Sum.inl)=false then g r else 0)=_;rw[e1,e2];cases decide (r.a∈ws)<;>cases decide (r.b∈ws)<;>rfl
 rw[<-this];exact h3
end Net
namespace Net
open PySem L2
abbrev kI(x:Str):aJ:=.inr [x,"in"]
abbrev kO(x:Str):aJ:=.inr [x,"out"]
abbrev kP(x:Str):aJ:=.inr [x,"passed"]
abbrev kB(x:Str):aJ:=.inr [x,"begin"]
abbrev kE(x:Str):aJ:=.inr [x,"end"]
abbrev kF:aJ:=.inl "first"
abbrev kL:aJ:=.inl "last"
theorem jK{x y u v:Str}(h:(Sum.inr [x,u]:aJ)=Sum.inr [y,v]):x=y/\u=v:=by
 have:=Sum.inr.inj h;injection this with h1 h2
 injection h2 with h3
 exact⟨h1,h3⟩
theorem rH{x y:Str}:¬kI x=kO y:=λh=>absurd (jK h).2 Qk
theorem wH{x y:Str}:¬kO x=kI y:=λh=>absurd (jK h).2 Qk
theorem Gb{x y:Str}:¬kB x=kE y:=λh=>absurd (jK h).2 Qk
theorem wI{x y:Str}:¬kE x=kB y:=λh=>absurd (jK h).2 Qk
theorem BJ{x:Str}:¬kF=kB x:=λh=>nomatch h
theorem BH{x:Str}:¬kL=kB x:=λh=>nomatch h
theorem i5{q:d5×Int}{z:aJ}{c d:Prop}[Decidable c][Decidable d](h1:q.1.a=z↔c)(h2:q.1.b=z↔d):fc q z=(if c then q.2 else 0)-(if d then q.2 else 0):=by
 unfold fc;simp only[h1,h2]
theorem rK{p:Prop}(h:¬p):p↔False:=⟨h,False.elim⟩
theorem Gm{x y:Str}{v:Int}:fc (uO y,v) (kO x)=if y=x then-v else 0:=by
 rw[i5 (c:=False) (d:=y=x) (rK rH) ⟨λh=>(jK h).1,λh=>h▸rfl⟩];rw[aM (c:=False) (λh=>h)];split<;>simp
theorem Gn{x y:Str}{v:Int}:fc (uO y,v) (kI x)=if y=x then v else 0:=by
 rw[i5 (c:=y=x) (d:=False) ⟨λh=>(jK h).1,λh=>h▸rfl⟩ (rK wH)];rw[aM (c:=False) (λh=>h)];split<;>simp
theorem Gj{a b x:Str}{r:dw}{v:Int}:fc (oN a b r,v) (kO x)=if r.a=x then v else 0:=by
 rw[i5 (c:=r.a=x) (d:=False) ⟨λh=>(jK h).1,λh=>h▸rfl⟩ (rK rH)];rw[aM (c:=False) (λh=>h)];split<;>simp
theorem Gk{a b x:Str}{r:dw}{v:Int}:fc (oN a b r,v) (kI x)=if r.b=x then-v else 0:=by
 rw[i5 (c:=False) (d:=r.b=x) (rK wH) ⟨λh=>(jK h).1,λh=>h▸rfl⟩];rw[aM (c:=False) (λh=>h)];split<;>simp
section
variable{S:NS}{a b:Str}{F:aJ->Int}{ks:List aJ}
theorem E4{x:Str}(h:x∈S.pl):uO x∈aB S a b:=aw.mpr (.inl (aj.mpr ⟨x,h,rfl⟩))
theorem E3{r:dw}(h:r∈S.ti):oN a b r∈aB S a b:=aw.mpr (.inr (aj.mpr ⟨r,h,rfl⟩))
theorem F8(ndP:S.pl.Nodup)(okT:∀r∈S.ti,r.a∈S.pl/\r.b∈S.pl)(h:oy (aB S a b) (kO a) (kI b) F ks){r:dw}(hr:r∈S.ti)(ne:¬r.a=a):F (.inl r.nm)<=F (kP r.a):=by
 have bal:=h.mx.bal (kO r.a) (λz=>ne (jK z).1) wH;unfold aB at bal;rw[i0,iZ,iZ]at bal;have e1:(S.pl.map λy=>fc (uO y,F (uO y).nm) (kO r.a)).sum=-F (kP r.a):=by
  rw[nc (f:=λy=>fc (uO y,F (uO y).nm) (kO r.a)) ndP (okT r hr).1 λy _ hy=>by rw[Gm,aM hy],Gm,bc rfl];rfl
 have e2:=qQ (f:=λy=>fc (oN a b y,F (oN a b y).nm) (kO r.a)) (x:=r) (l:=S.ti) (λy hy=>by
  rw[Gj];split
  ·exact(h.mx.ok _ (E3 hy)).1
  ·exact dX 0) hr
 have e3:fc (oN a b r,F (oN a b r).nm) (kO r.a)=F (.inl r.nm):=by rw[Gj,bc rfl];rfl
 rw[e3]at e2;omega
theorem Hk(ndP:S.pl.Nodup)(okT:∀r∈S.ti,r.a∈S.pl/\r.b∈S.pl)(h:oy (aB S a b) (kO a) (kI b) F ks){r:dw}(hr:r∈S.ti)(ne:¬r.b=b):F (.inl r.nm)<=F (kP r.b):=by
 have bal:=h.mx.bal (kI r.b) rH (λz=>ne (jK z).1);unfold aB at bal;rw[i0,iZ,iZ]at bal;have e1:(S.pl.map λy=>fc (uO y,F (uO y).nm) (kI r.b)).sum=F (kP r.b):=by
  rw[nc (f:=λy=>fc (uO y,F (uO y).nm) (kI r.b)) ndP (okT r hr).2 λy _ hy=>by rw[Gn,aM hy],Gn,bc rfl];rfl
 have e2:=qQ (f:=λy=>-fc (oN a b y,F (oN a b y).nm) (kI r.b)) (x:=r) (l:=S.ti) (λy hy=>by
  rw[Gk];split
  ·have:=(h.mx.ok _ (E3 (a:=a) (b:=b) hy)).1;omega
  ·decide) hr
 have e3:fc (oN a b r,F (oN a b r).nm) (kI r.b)=-F (.inl r.nm):=by rw[Gk,bc rfl];rfl
 have e4:=sP (f:=λ_:dw=>(0:Int)) (g:=λy=>fc (oN a b y,F (oN a b y).nm) (kI r.b)) (l:=S.ti);rw[gU (f:=λ_:dw=>(0:Int)) λ_ _=>rfl]at e4;simp only[Int.zero_sub]at e4;rw[e3,e4]at e2;omega
theorem uD(ndP:S.pl.Nodup)(okT:∀r∈S.ti,r.a∈S.pl/\r.b∈S.pl)(h:oy (aB S a b) (kO a) (kI b) F ks){r:dw}(hr:r∈S.ti)(h1:kO r.a∈ks)(h2:kI r.b∉ks):r.a=a/\r.b=b:=by
 have hw:(oN a b r).w<=F (.inl r.nm):=Int.not_lt.mp λz=>h2 (aK (h.mx.cl ⟨oN a b r,true⟩ (E3 hr) (by show 0<(oN a b r).w -F (.inl r.nm);omega) (af h1)));by_cases hc:r.a=a/\r.b=b
 ·exact hc
 ·have e:(oN a b r).w=2:=aM hc;rw[e]at hw;by_cases ha:r.a=a
  ·have hb:¬r.b=b:=λz=>hc ⟨ha,z⟩;have h3:=Hk ndP okT h hr hb;have h4:F (kP r.b)<=1:=(h.mx.ok _ (E4 (okT r hr).2)).2;omega
  ·have h3:=F8 ndP okT h hr ha;have h4:F (kP r.a)<=1:=(h.mx.ok _ (E4 (okT r hr).1)).2;omega
theorem Hh(ndP:S.pl.Nodup)(okT:∀r∈S.ti,r.a∈S.pl/\r.b∈S.pl)(hab:¬a=b)(h:oy (aB S a b) (kO a) (kI b) F ks):kO b∉ks:=λhb=>by
 have nb:=gu h.mx.hb;rcases h.rch _ hb with e|⟨s,hs,h0,hbeg,e⟩
 ·exact hab (jK e).1.symm
 ·obtain⟨r0,fw⟩:=s;rcases aw.mp hs with hs|hs
  ·obtain⟨y,hy,rfl⟩:=aj.mp hs;cases fw with
   |true=>
    have:y=b:=(jK (show kO y=kO b from e)).1;subst this;exact nb hbeg
   |false=>exact rH (show kI y=kO b from e)
  ·obtain⟨r,hr,rfl⟩:=aj.mp hs;cases fw with
   |true=>exact rH (show kI r.b=kO b from e)
   |false=>
    have:r.a=b:=(jK (show kO r.a=kO b from e)).1;have h1:=F8 ndP okT h hr (λz=>hab (z.symm.trans this));have h2:0<F (.inl r.nm):=h0;rw[this]at h1;exact nb (aK (h.mx.cl ⟨uO b,false⟩ (E4 (this▸(okT r hr).1)) (by show 0<F (kP b);omega) (af hb)))
def dO(S:NS)(ks:List aJ):List Str:=S.pl.filter λx=>decide (kO x∈ks)
def gB(S:NS)(ks:List aJ):List Str:=S.pl.filter λx=>decide (kI x∈ks)&& !decide (x∈dO S ks)
theorem dS{x:Str}:x∈dO S ks↔x∈S.pl/\kO x∈ks:=by
 unfold dO;rw[bK];exact⟨λh=>⟨h.1,aK h.2⟩,λh=>⟨h.1,af h.2⟩⟩
theorem iJ{x:Str}:x∈gB S ks↔x∈S.pl/\kI x∈ks/\kO x∉ks:=by
 unfold gB;rw[bK,b7];refine⟨λh=>⟨h.1,aK h.2.1,λz=>?_⟩,λh=>⟨h.1,af h.2.1,?_⟩⟩
 ·have:=h.2.2;rw[af (dS.mpr ⟨h.1,z⟩)]at this;cases this
 ·rw[am λz=>h.2.2 (dS.mp z).2];rfl
theorem Hj(ndP:S.pl.Nodup)(okT:∀r∈S.ti,r.a∈S.pl/\r.b∈S.pl)(ha:a∈S.pl)(hab:¬a=b)(h:oy (aB S a b) (kO a) (kI b) F ks):∃v,shutB S a b (dO S ks) (gB S ks)=some v/\cO (aB S a b) (kO a) (kI b) v:=by
 have nb:=gu h.mx.hb;have pa:=aK h.mx.ha;have nob:=Hh ndP okT hab h;have hpast:∀r∈S.ti,(r.a∈dO S ks/\r.b∉dO S ks++gB S ks)↔kO r.a∈ks/\kI r.b∉ks:=λr hr=>by
  constructor
  ·intro⟨h1,h2⟩;refine⟨(dS.mp h1).2,λz=>h2 (aw.mpr ?_)⟩;by_cases ho:kO r.b∈ks
   ·exact .inl (dS.mpr ⟨(okT r hr).2,ho⟩)
   ·exact .inr (iJ.mpr ⟨(okT r hr).2,z,ho⟩)
  ·intro⟨h1,h2⟩;obtain⟨_,e⟩:=uD ndP okT h hr h1 h2;refine⟨dS.mpr ⟨(okT r hr).1,h1⟩,λz=>?_⟩;rw[e]at z;rcases aw.mp z with z|z
   ·exact nob (dS.mp z).2
   ·exact nb (iJ.mp z).2.1
 have hc:(dO S ks++gB S ks).Nodup/\a∈dO S ks/\¬b∈dO S ks++gB S ks/\((fD S.ti (dO S ks) (gB S ks)).all λr=>decide (r.a=a)&&decide (r.b=b))=true:=by
  refine⟨cS.mpr ⟨ndP.sublist dN,ndP.sublist dN,λx hx y hy e=>?_⟩,dS.mpr ⟨ha,pa⟩,λz=>?_,ce.mpr λr hr=>?_⟩
  ·subst e;exact(iJ.mp hy).2.2 (dS.mp hx).2
  ·rcases aw.mp z with z|z
   ·exact nob (dS.mp z).2
   ·exact nb (iJ.mp z).2.1
  ·obtain⟨hr,hc⟩:=bK.mp hr;rw[b7]at hc;have h2:r.b∉dO S ks++gB S ks:=λz=>by
    have:=hc.2;rw[af z]at this;cases this
   obtain⟨h3,h4⟩:=(hpast r hr).mp ⟨aK hc.1,h2⟩;obtain⟨e1,e2⟩:=uD ndP okT h hr h3 h4;rw[af e1,af e2];rfl
 refine⟨_,bc hc,?_⟩;have:d_ (aB S a b) (λx=>decide (x∈ks))=((gB S ks).length:Int)+((fD S.ti (dO S ks) (gB S ks)).length:Int):=by
  unfold aB;rw[gs,fN,fN];congr 1
  ·unfold gB;rw[j5];refine gQ λx hx=>?_;show(if decide (kI x∈ks)=true/\decide (kO x∈ks)=false then(1:Int)else 0)=_;have e:decide (x∈dO S ks)=decide (kO x∈ks):=decide_eq_decide.mpr ⟨λz=>(dS.mp z).2,λz=>dS.mpr ⟨hx,z⟩⟩;rw[e];cases decide (kI x∈ks)<;>cases decide (kO x∈ks)<;>rfl
  ·unfold fD;rw[j5];refine gQ λr hr=>?_;show(if decide (kO r.a∈ks)=true/\decide (kI r.b∈ks)=false then(oN a b r).w else 0)=_;by_cases hc:kO r.a∈ks/\kI r.b∉ks
   ·obtain⟨h3,h4⟩:=(hpast r hr).mpr hc;rw[af hc.1,am hc.2,af h3,am h4,bc ⟨rfl,rfl⟩];exact bc (uD ndP okT h hr hc.1 hc.2)
   ·rw[aM λz=>hc ⟨aK z.1,gu z.2⟩,aM λz=>?_];rw[b7]at z;refine hc ((hpast r hr).mp ⟨aK z.1,λy=>?_⟩);have:=z.2;rw[af y]at this;cases this
 rw[<-this];exact h.min
theorem Hn{bs es:List Str}{x:Str}(h:x∈bs):Cb x∈aP S bs es:=aw.mpr (.inl (aw.mpr (.inl (aj.mpr ⟨x,h,rfl⟩))))
theorem Gd{bs es:List Str}{r:dw}(h:r∈S.ti):zM r∈aP S bs es:=aw.mpr (.inl (aw.mpr (.inr (aj.mpr ⟨r,h,rfl⟩))))
theorem HX{x y:Str}{v:Int}:fc (Cb y,v) (kB x)=if y=x then-v else 0:=by
 rw[i5 (c:=False) (d:=y=x) (rK BJ) ⟨λh=>(jK h).1,λh=>h▸rfl⟩];rw[aM (c:=False) (λh=>h)];split<;>simp
theorem HW{x:Str}{r:dw}{v:Int}:fc (zM r,v) (kB x)=if r.a=x then v else 0:=by
 rw[i5 (c:=r.a=x) (d:=False) ⟨λh=>(jK h).1,λh=>h▸rfl⟩ (rK wI)];rw[aM (c:=False) (λh=>h)];split<;>simp
theorem Ij{x y:Str}{v:Int}:fc (Ej y,v) (kB x)=0:=by
 rw[i5 (c:=False) (d:=False) (rK wI) (rK BH)];simp
theorem BV(ndP:S.pl.Nodup)(okT:∀r∈S.ti,r.a∈S.pl/\r.b∈S.pl)(h:oy (aP S S.pl S.pl) kF kL F ks){r:dw}(hr:r∈S.ti)(h1:kB r.a∈ks):kE r.b∈ks:=by
 refine aK (h.mx.cl ⟨zM r,true⟩ (Gd hr) ?_ (af h1));show 0<2-F (.inl r.nm);have bal:=h.mx.bal (kB r.a) (λz=>nomatch z) (λz=>nomatch z);unfold aP at bal;rw[i0,i0,iZ,iZ,iZ]at bal;have e1:(S.pl.map λy=>fc (Cb y,F (Cb y).nm) (kB r.a)).sum=-F (kB r.a):=by
  rw[nc (f:=λy=>fc (Cb y,F (Cb y).nm) (kB r.a)) ndP (okT r hr).1 λy _ hy=>by rw[HX,aM hy],HX,bc rfl];rfl
 have e2:=qQ (f:=λy=>fc (zM y,F (zM y).nm) (kB r.a)) (x:=r) (l:=S.ti) (λy hy=>by
  rw[HW];split
  ·exact(h.mx.ok _ (Gd hy)).1
  ·exact dX 0) hr
 have e3:fc (zM r,F (zM r).nm) (kB r.a)=F (.inl r.nm):=by rw[HW,bc rfl];rfl
 have e4:(S.pl.map λy=>fc (Ej y,F (Ej y).nm) (kB r.a)).sum=0:=gU λy _=>Ij;have h4:F (kB r.a)<=1:=(h.mx.ok _ (Hn (okT r hr).1)).2;rw[e3]at e2;omega
def jI(S:NS)(ks:List aJ):List Str:=S.pl.filter λx=>!decide (kB x∈ks)
def hX(S:NS)(ks:List aJ):List Str:=S.pl.filter λx=>decide (kE x∈ks)
theorem Hi(ndP:S.pl.Nodup)(okT:∀r∈S.ti,r.a∈S.pl/\r.b∈S.pl)(h:oy (aP S S.pl S.pl) kF kL F ks):(∀r∈S.ti,r.a∈jI S ks\/r.b∈hX S ks)/\cO (aP S S.pl S.pl) kF kL (((jI S ks).length:Int)+(hX S ks).length):=by
 have nb:=h.mx.hb;have pa:=h.mx.ha;refine⟨λr hr=>?_,?_⟩
 ·by_cases h1:kB r.a∈ks
  ·exact .inr (bK.mpr ⟨(okT r hr).2,af (BV ndP okT h hr h1)⟩)
  ·exact .inl (bK.mpr ⟨(okT r hr).1,by rw[am h1];rfl⟩)
 ·have:d_ (aP S S.pl S.pl) (λx=>decide (x∈ks))=((jI S ks).length:Int)+(hX S ks).length:=by
   unfold aP;rw[gs,gs,fN,fN,fN];have e2:(S.ti.map λx=>if decide ((zM x).a ∈ks)=true/\decide ((zM x).b ∈ks)=false then(zM x).w else 0).sum=0:=gU λr hr=>aM λz=>by
    have:=BV ndP okT h hr (aK z.1);exact gu z.2 this
   have e1:(S.pl.map λx=>if decide ((Cb x).a ∈ks)=true/\decide ((Cb x).b ∈ks)=false then(Cb x).w else 0).sum=((jI S ks).length:Int):=by
    unfold jI;rw[j5];refine gQ λx _=>?_;show(if decide (kF∈ks)=true/\decide (kB x∈ks)=false then(1:Int)else 0)=_;rw[show decide (kF∈ks)=true from pa];cases decide (kB x∈ks)<;>rfl
   have e3:(S.pl.map λx=>if decide ((Ej x).a ∈ks)=true/\decide ((Ej x).b ∈ks)=false then(Ej x).w else 0).sum=((hX S ks).length:Int):=by
    unfold hX;rw[j5];refine gQ λx _=>?_;show(if decide (kE x∈ks)=true/\decide (kL∈ks)=false then(1:Int)else 0)=_;rw[show decide (kL∈ks)=false from nb];cases decide (kE x∈ks)<;>rfl
   rw[e1,e2,e3];omega
  rw[<-this];exact h.min
end
end Net
namespace Net
open PySem L2
theorem qd{l:List Str}(h:l.Nodup):(l.map (Sum.inl:Str->aJ)).Nodup:=eN.mpr (h.imp λh e=>h (Sum.inl.inj e))
theorem Ei{g:dw->Int}{S:NS}(nd:S.nms.Nodup):((aW g S).map (·.nm)).Nodup:=by
 unfold aW;rw[bm];have:=qd nd;unfold NS.nms at this;rw[bm]at this;exact this
theorem pH{G:List oA}:(fE G).map (·.1)=bD G:=by
 unfold fE bD;rw[bm];rfl
def pV(C:Addr)(w:Str)(g:dw->Int):Sp:=λvs H Q _=>∃(p ds dl tt:Addr)(S:NS)(a b:Str),vs=[.ref p,.ref tt,.bl true]/\fW C H p ds dl S/\qz H tt w a b/\a∈S.pl/\b∈S.pl/\¬a=b/\(∀r∈S.ti,0<=g r)/\
 ∀(l:Addr)(ws:List Str)(H':Hp),aU H H'->H' l=some (.lst (ws.map V.str))->ws.Nodup->(∀x∈ws,x∈S.pl)->a∈ws->b∉ws->cO (aW g S) (.inl a) (.inl b) (((nH S.ti ws).map g).sum)->Q (.ref l) H'
section
variable{P:Program}{w:World}{K:ag}{mg:Str->Option Value}{base:Heap}{C:Addr}
abbrev wU:List Str:=["net","term","above","arcs","loads"]
theorem lM:bG wU ["net","term","above"] (aA s_paper_of_flow):=⟨rfl,rfl,rfl,Qk,rfl,Qk,Qk⟩
theorem xR{f:Addr}{fd:FuncData}(F:fI K "paper_of_flow" "paper_of_flow" s_paper_of_flow f fd)(T:fo K mg C)(carcs_of_ties:dc P w K mg base 2 "arcs_of_ties" ["net"] (mS C aT))(cgreatest_flow:dc P w K mg base 4 "greatest_flow" ["arcs","a","b"] jB)(cfree_ways:dc P w K mg base 3 "free_ways" ["arcs","loads","a"] jX):FnOk P w K mg base fA 5 f fd ["net","term","above"] (pV C "flow" (·.w)):=by
 refine F.ok lM (λvs H Q E h=>?_) (λcdv A outer s H vs Q E hr h=>?_)
 ·obtain⟨p,ds,dl,tt,S,a,b,rfl,_⟩:=h;rfl
 ·obtain⟨p,ds,dl,tt,S,a,b,rfl,N,te,ha,hb,hab,okw,q⟩:=h;have r2:c_ 2 _:=hr.mono Qd;have r3:c_ 3 _:=hr.mono Qd;refine⟨_,(ax (bH (i:=3) lM.nd rfl (aN rfl) (ba carcs_of_ties r2 Qr (pa_cons (pv 0) pa_nil)))
   (ax (bH (i:=4) lM.nd rfl (iz rfl) (ba cgreatest_flow hr Qr (pa_cons (pv 3) (pa_cons (bw bV (pv 1) aD (λ_ _=>Qr)) (pa_cons (bw bV (pv 1) aD (λ_ _=>Qr)) pa_nil)))))
   (ax (b9 (cY (pv 2)) (aS (bC (fT (oo rfl) Qr T.list lV (pa_cons (ba cfree_ways r3 Qr (pa_cons (pv 3) (pa_cons (pv 4) (pa_cons (bw bV (pv 1) aD (λ_ _=>Qr)) pa_nil)))) pa_nil)))) bF)
   (aS eB)))),?_⟩
  have te':H tt=some (.tup [.str "flow",.str a,.str b]):=te;have okT:∀r∈S.ti,r.a∈S.pl/\r.b∈S.pl:=λr hr=>(N.okT r hr).2;have few:(aT S).length<=100:=by rw[show(aT S).length=S.ti.length from ae ..];exact ay N.few Qd
  refine⟨_,rfl,p,ds,dl,S,rfl,N,λal H1 s1⟨L,eal,RL⟩=>?_⟩;refine⟨_,rfl,_,rfl,tt,_,_,.str a,rfl,rfl,cG.of (s1 _ _ te'),rfl,_,rfl,tt,_,_,.str b,rfl,rfl,cG.of (s1 _ _ te'),rfl,al,.inl a,.inl b,.str a,.str b,L,aT S,rfl,eal,RL,few,Ei N.nd,lp (N.okP a ha),lp (N.okP b hb),?_,λz=>hab (Sum.inl.inj z),λld Fl H2 hld s2 eld ok bal sd=>?_⟩
  ·intro r hr;obtain⟨y,hy,rfl⟩:=aj.mp hr;exact okw y hy
  refine⟨_,rfl,_,rfl,dv ?_⟩;refine⟨_,rfl,_,rfl,_,rfl,tt,_,_,.str a,rfl,rfl,cG.of ((s1.trans s2) _ _ te'),rfl,al,ld,.inl a,.str a,L,aT S,Fl,rfl,s2 _ _ eal,RL.same s2,eld,few,lp (N.okP a ha),λd H3 T3 G _ s3 ft fd ha' cl _ _=>?_⟩;obtain⟨ws,ek,h1,h2,h3,h4,h5⟩:=F6 okT ha (mX ok bal sd ft fd ha' cl);refine⟨d,fE G,ws,rfl,.inl fd.ob,pH.trans ek,λl hl=>?_⟩;exact q l ws _ ((s1.trans s2).trans (s3.trans (aU.new hl))) ai h1 h2 h3 h4 h5
theorem ku:bG wU ["net","term","above"] (aA s_paper_of_apart):=⟨rfl,rfl,rfl,Qk,rfl,Qk,Qk⟩
theorem tH{f:Addr}{fd:FuncData}(F:fI K "paper_of_apart" "paper_of_apart" s_paper_of_apart f fd)(T:fo K mg C)(carcs_of_one:dc P w K mg base 2 "arcs_of_one" ["net"] (mS C aO))(cgreatest_flow:dc P w K mg base 4 "greatest_flow" ["arcs","a","b"] jB)(cfree_ways:dc P w K mg base 3 "free_ways" ["arcs","loads","a"] jX):FnOk P w K mg base fA 5 f fd ["net","term","above"] (pV C "apart" (λ_=>1)):=by
 refine F.ok ku (λvs H Q E h=>?_) (λcdv A outer s H vs Q E hr h=>?_)
 ·obtain⟨p,ds,dl,tt,S,a,b,rfl,_⟩:=h;rfl
 ·obtain⟨p,ds,dl,tt,S,a,b,rfl,N,te,ha,hb,hab,okw,q⟩:=h;have r2:c_ 2 _:=hr.mono Qd;have r3:c_ 3 _:=hr.mono Qd;refine⟨_,(ax (bH (i:=3) ku.nd rfl (aN rfl) (ba carcs_of_one r2 Qr (pa_cons (pv 0) pa_nil)))
   (ax (bH (i:=4) ku.nd rfl (aN rfl) (ba cgreatest_flow hr Qr (pa_cons (pv 3) (pa_cons (bw bV (pv 1) aD (λ_ _=>Qr)) (pa_cons (bw bV (pv 1) aD (λ_ _=>Qr)) pa_nil)))))
   (ax (b9 (cY (pv 2)) (aS (bC (fT (oo rfl) Qr T.list lV (pa_cons (ba cfree_ways r3 Qr (pa_cons (pv 3) (pa_cons (pv 4) (pa_cons (bw bV (pv 1) aD (λ_ _=>Qr)) pa_nil)))) pa_nil)))) bF)
   (aS eB)))),?_⟩
  have te':H tt=some (.tup [.str "apart",.str a,.str b]):=te;have okT:∀r∈S.ti,r.a∈S.pl/\r.b∈S.pl:=λr hr=>(N.okT r hr).2;have few:(aO S).length<=100:=by rw[show(aO S).length=S.ti.length from ae ..];exact ay N.few Qd
  refine⟨_,rfl,p,ds,dl,S,rfl,N,λal H1 s1⟨L,eal,RL⟩=>?_⟩;refine⟨_,rfl,_,rfl,tt,_,_,.str a,rfl,rfl,cG.of (s1 _ _ te'),rfl,_,rfl,tt,_,_,.str b,rfl,rfl,cG.of (s1 _ _ te'),rfl,al,.inl a,.inl b,.str a,.str b,L,aO S,rfl,eal,RL,few,Ei N.nd,lp (N.okP a ha),lp (N.okP b hb),?_,λz=>hab (Sum.inl.inj z),λld Fl H2 hld s2 eld ok bal sd=>?_⟩
  ·intro r hr;obtain⟨y,hy,rfl⟩:=aj.mp hr;exact okw y hy
  refine⟨_,rfl,_,rfl,dv ?_⟩;refine⟨_,rfl,_,rfl,_,rfl,tt,_,_,.str a,rfl,rfl,cG.of ((s1.trans s2) _ _ te'),rfl,al,ld,.inl a,.str a,L,aO S,Fl,rfl,s2 _ _ eal,RL.same s2,eld,few,lp (N.okP a ha),λd H3 T3 G _ s3 ft fd ha' cl _ _=>?_⟩;obtain⟨ws,ek,h1,h2,h3,h4,h5⟩:=F6 okT ha (mX ok bal sd ft fd ha' cl);refine⟨d,fE G,ws,rfl,.inl fd.ob,pH.trans ek,λl hl=>?_⟩;exact q l ws _ ((s1.trans s2).trans (s3.trans (aU.new hl))) ai h1 h2 h3 h4 h5
end
end Net
namespace Net
open PySem L2
theorem tM{u:Str}{l:List Str}(h:l.Nodup):(l.map λx=>(Sum.inr [x,u]:aJ)).Nodup:=eN.mpr (h.imp λh e=>h (jK e).1)
theorem Gy{S:NS}{a b:Str}(nd:S.nms.Nodup)(ndP:S.pl.Nodup):((aB S a b).map (·.nm)).Nodup:=by
 unfold aB;rw[ah,bm,bm];refine cS.mpr ⟨tM (u:="passed") ndP,?_,λx hx y hy e=>?_⟩
 ·have:=qd nd;unfold NS.nms at this;rw[bm]at this;exact this
 ·obtain⟨_,_,rfl⟩:=aj.mp hx;obtain⟨_,_,rfl⟩:=aj.mp hy;cases e
theorem Fe(S:NS)(a b:Str):(aB S a b).length=S.pl.length+S.ti.length:=by
 unfold aB;rw[aI,ae,ae]
def vE(C:Addr):Sp:=λvs H Q _=>∃(p ds dl tt:Addr)(S:NS)(w a b:Str),vs=[.ref p,.ref tt,.bl true]/\fW C H p ds dl S/\qz H tt w a b/\a∈S.pl/\b∈S.pl/\¬a=b/\
 ∀(l sl ul:Addr)(ws us:List Str)(v:Int)(H':Hp),aU H H'->H' l=some (.lst [.ref sl,.ref ul])->H' sl=some (.lst (ws.map V.str))->H' ul=some (.lst (us.map V.str))->ws.length<=20->us.length<=20->ws.Nodup->us.Nodup->(∀x∈ws,x∈S.pl)->(∀x∈us,x∈S.pl)->shutB S a b ws us=some v->cO (aB S a b) (kO a) (kI b) v->Q (.ref l) H'
section
variable{P:Program}{w:World}{K:ag}{mg:Str->Option Value}{base:Heap}{C:Addr}
abbrev DL:List Str:=["net","term","above","arcs","begin","loads","reached","side","stops"]
theorem gm:bG DL ["net","term","above"] (aA s_paper_of_bare):=⟨rfl,rfl,rfl,Qk,rfl,Qk,Qk⟩
theorem xS{f:Addr}{fd:FuncData}(F:fI K "paper_of_bare" "paper_of_bare" s_paper_of_bare f fd)(T:fo K mg C)(m_places:gt P w K mg base 1 C "places" ["self"] (g_ C))(carcs_through_places:dc P w K mg base 2 "arcs_through_places" ["net","a","b"] (vJ C))(cgreatest_flow:dc P w K mg base 4 "greatest_flow" ["arcs","a","b"] jB)(cfree_ways:dc P w K mg base 3 "free_ways" ["arcs","loads","a"] jX):FnOk P w K mg base fA 5 f fd ["net","term","above"] (vE C):=by
 refine F.ok gm (λvs H Q E h=>?_) (λcdv A outer s H vs Q E hr h=>?_)
 ·obtain⟨p,ds,dl,tt,S,w',a,b,rfl,_⟩:=h;rfl
 ·obtain⟨p,ds,dl,tt,S,w',a,b,rfl,N,te,ha,hb,hab,q⟩:=h;have hu:=iL hr;have r1:c_ 1 _:=hr.mono Qd;have r2:c_ 2 _:=hr.mono Qd;have r3:c_ 3 _:=hr.mono Qd;have nd_0:List.Nodup (["place","reached"]:List Str):=Qk;have nd_1:List.Nodup (["place","reached","side"]:List Str):=Qk;refine⟨_,(ax (bH (i:=3) gm.nd rfl (aN rfl) (ba carcs_through_places r2 Qr (pa_cons (pv 0) (pa_cons (bw bV (pv 1) aD (λ_ _=>Qr)) (pa_cons (bw bV (pv 1) aD (λ_ _=>Qr)) pa_nil)))))
   (ax (bH (i:=4) gm.nd rfl (aN rfl) (bX (pa_cons (bw bV (pv 1) aD (λ_ _=>Qr)) (pa_cons bQ pa_nil))))
   (ax (bH (i:=5) gm.nd rfl (aN rfl) (ba cgreatest_flow hr Qr (pa_cons (pv 3) (pa_cons (pv 4) (pa_cons (bX (pa_cons (bw bV (pv 1) aD (λ_ _=>Qr)) (pa_cons bQ pa_nil))) pa_nil)))))
   (ax (b9 (dB (cY (pv 2))) (aS eB) bF)
   (ax (bH (i:=6) gm.nd rfl (iz rfl) (ba cfree_ways r3 Qr (pa_cons (pv 3) (pa_cons (pv 5) (pa_cons (pv 4) pa_nil)))))
   (ax (bH (i:=7) gm.nd rfl (iz rfl) (cW (N:=["place","reached"]) (xs:=1) (js:=[6]) rfl (bt rfl) (bU (cB (pv 0) T.cl m_places r1)) (λ_ _ _ _=>be (i:=0) nd_0 rfl (aN rfl)) (λ_ _ _ _=>gb (gc (lO hu (bX (pa_cons (pv 0) (pa_cons bQ pa_nil))) (pv 1)) Qw)) (λ_ _ _ _=>pv 0)))
   (ax (gd (j:=8) (N:=["place","reached","side"]) (xs:=1) (js:=[6,7]) rfl gm.nd rfl rfl (bt rfl) (bU (cB (pv 0) T.cl m_places r1)) (λ_ _ _ _=>be (i:=0) nd_1 rfl (aN rfl)) (λ_ _ _ _=>gb (PW.pt (nz (gc (lO hu (bX (pa_cons (pv 0) (pa_cons bQ pa_nil))) (pv 1)) Qw) (kT (bJ (lP K Qr) (pv 0) (pv 2) Qw))))) (λ_ _ _ _=>pv 0) rfl)
   (aS (bC (dC (pa_cons (pv 7) (pa_cons (pv 8) pa_nil)))))))))))),?_⟩
  have te':H tt=some (.tup [.str w',.str a,.str b]):=te;have okT:∀r∈S.ti,r.a∈S.pl/\r.b∈S.pl:=λr hr=>(N.okT r hr).2;have fewP:=N.fewP;have few:(aB S a b).length<=100:=by have:=N.few;rw[Fe];omega
  refine⟨_,rfl,_,rfl,tt,_,_,.str a,rfl,rfl,cG.of te',rfl,_,rfl,tt,_,_,.str b,rfl,rfl,cG.of te',rfl,p,ds,dl,S,a,b,rfl,N,λal H1 s1⟨L,eal,RL⟩=>?_⟩;refine⟨_,rfl,tt,_,_,.str a,rfl,rfl,cG.of (s1 _ _ te'),rfl,(by show 2<=sizeLine;decide),λt1 k1=>?_⟩;have z1:=aU.new (o:=.tup [.str a,.str "out"]) k1;have f1:(upd H1 t1 (.tup [.str a,.str "out"])) t1=some (.tup [.str a,.str "out"]):=ai;generalize upd H1 t1 (.tup [.str a,.str "out"])=H2 at z1 f1;have s2:=s1.trans z1;refine⟨_,rfl,_,rfl,_,rfl,tt,_,_,.str b,rfl,rfl,cG.of (s2 _ _ te'),rfl,(by show 2<=sizeLine;decide),λt2 k2=>?_⟩;have z2:=aU.new (o:=.tup [.str b,.str "in"]) k2;have f2:(upd H2 t2 (.tup [.str b,.str "in"])) t2=some (.tup [.str b,.str "in"]):=ai;generalize upd H2 t2 (.tup [.str b,.str "in"])=H3 at z2 f2;have s3:=s2.trans z2;have z12:=z1.trans z2;have oka:=de (N.okP a ha);have okb:=de (N.okP b hb);refine⟨al,kO a,kI b,.ref t1,.ref t2,L,aB S a b,rfl,z12 _ _ eal,RL.same z12,few,Gy N.nd N.ndP,jo (z2 _ _ f1) oka Qk,jo f2 okb Qk,?_,wH,λld Fl H4 hld s4 eld ok bal sd=>?_⟩
  ·intro r hr;rcases aw.mp hr with hr|hr
   ·obtain⟨y,hy,rfl⟩:=aj.mp hr;show(0:Int)<=1;decide
   ·obtain⟨y,hy,rfl⟩:=aj.mp hr;show(0:Int)<=if y.a=a/\y.b=b then 1 else 2;split<;>decide
  refine⟨_,rfl,_,rfl,dz ?_⟩;have z34:=z12.trans s4;refine⟨_,rfl,_,rfl,_,rfl,al,ld,kO a,.ref t1,L,aB S a b,Fl,rfl,z34 _ _ eal,RL.same z34,eld,few,jo ((z2.trans s4) _ _ f1) oka Qk,λd H5 T3 G _ s5 ft fd ha' cl _ _=>?_⟩;have MX:=mX ok bal sd ft fd ha' cl;have ed:=fd.ob;have S5:=(s3.trans s4).trans s5;clear ft fd cl;have N5:=N.same S5;obtain⟨dx,h1⟩:=N5.net.ob;refine⟨_,rfl,p,dx,_,rfl,h1,df ds dl Qk Qk,p,ds,dl,S,rfl,N5.net,λpl hpl=>⟨pl,rfl,⟨_,SqL.of ai⟩,?_⟩⟩;have z6:=aU.new (o:=.lst (S.pl.map V.str)) hpl;have e6:(upd H5 pl (.lst (S.pl.map V.str))) pl=some (.lst (S.pl.map V.str)):=ai;have S6:=S5.trans z6;have ed6:=z6 _ _ ed;generalize upd H5 pl (.lst (S.pl.map V.str))=H6 at z6 e6 S6 ed6;refine bW (K:=K) (ys:=S.pl.map V.str) (λi acc σ' H'=>aU H6 H'/\acc=(((S.pl.take i).filter λx=>decide (kO x∈bD G)).map V.str)/\∃o,σ'=[o,some (.ref d)])
   ⟨aU.refl _,rfl,none,rfl⟩ (λi acc σ' H' h=>?_) ?_ (λi acc σ' H' _ h=>SqL.of (h.1 _ _ e6)) (λi x acc σ' H' hx h=>?_) (λacc σ' H' h sl hsl=>?_)
  ·rw[h.2.1,ae];exact ay (bu _ _) (by rw[aQ];omega)
  ·rw[ae];exact ay N.fewP Qd
  ·obtain⟨s7,rfl,o,rfl⟩:=h;rw[ap]at hx;cases eq:S.pl[i]? with
   |none=>rw[eq]at hx;cases hx
   |some y=>
    rw[eq]at hx;cases hx;have oky:=de (N.okP y (ao eq));refine⟨_,rfl,(by show 2<=sizeLine;decide),λt kt=>?_⟩;have z7:=s7.trans (aU.new (o:=.tup [.str y,.str "out"]) kt);refine⟨_,rfl,d,_,rfl,eh.m (k:=kO y) (z7 _ _ ed6) (jo ai oky Qk),_,rfl,?_⟩;rw[jL];by_cases hm:kO y∈bD G
    ·refine dH (af hm) ⟨_,rfl,z7,?_,_,rfl⟩;rw[dF (λx=>decide (kO x∈bD G)) eq (af hm),ah];rfl
    ·refine cq (am hm) ⟨z7,?_,_,rfl⟩;rw[dF (λx=>decide (kO x∈bD G)) eq (am hm),ah];exact(b_ _).symm
  obtain⟨s7,rfl,o,rfl⟩:=h;rw[ae,bf];rw[show(S.pl.filter λx=>decide (kO x∈bD G))=dO S (bD G)from rfl];have z8:=s7.trans (aU.new (o:=.lst ((dO S (bD G)).map V.str)) hsl);have e8:(upd H' sl (.lst ((dO S (bD G)).map V.str))) sl=some (.lst ((dO S (bD G)).map V.str)):=ai;generalize upd H' sl (.lst ((dO S (bD G)).map V.str))=H8 at z8 e8;have S8:=S6.trans z8;have ed8:=z8 _ _ ed6;have N8:=N.same S8;obtain⟨dx8,h8⟩:=N8.net.ob;refine⟨_,rfl,p,dx8,_,rfl,h8,df ds dl Qk Qk,p,ds,dl,S,rfl,N8.net,λpl2 hpl2=>⟨pl2,rfl,⟨_,SqL.of ai⟩,?_⟩⟩;have z9:=aU.new (o:=.lst (S.pl.map V.str)) hpl2;have e9:(upd H8 pl2 (.lst (S.pl.map V.str))) pl2=some (.lst (S.pl.map V.str)):=ai;have S9:=S8.trans z9;have ed9:=z9 _ _ ed8;have es9:=z9 _ _ e8;generalize upd H8 pl2 (.lst (S.pl.map V.str))=H9 at z9 e9 S9 ed9 es9;refine bW (K:=K) (ys:=S.pl.map V.str) (λi acc σ' H'=>aU H9 H'/\acc=(((S.pl.take i).filter λx=>decide (kI x∈bD G)&& !decide (x∈dO S (bD G))).map V.str)/\∃o,σ'=[o,some (.ref d),some (.ref sl)])
   ⟨aU.refl _,rfl,none,rfl⟩ (λi acc σ' H' h=>?_) ?_ (λi acc σ' H' _ h=>SqL.of (h.1 _ _ e9)) (λi x acc σ' H' hx h=>?_) (λacc σ' H' h ul hul=>?_)
  ·rw[h.2.1,ae];exact ay (bu _ _) (by rw[aQ];omega)
  ·rw[ae];exact ay N.fewP Qd
  ·obtain⟨s10,rfl,o,rfl⟩:=h;rw[ap]at hx;cases eq:S.pl[i]? with
   |none=>rw[eq]at hx;cases hx
   |some y=>
    rw[eq]at hx;cases hx;have oky:=de (N.okP y (ao eq));refine⟨_,rfl,(by show 2<=sizeLine;decide),λt kt=>?_⟩;have z7:=s10.trans (aU.new (o:=.tup [.str y,.str "in"]) kt);refine⟨_,rfl,d,_,rfl,eh.m (k:=kI y) (z7 _ _ ed9) (jo ai oky Qk),_,rfl,?_⟩;rw[jL];by_cases hm:kI y∈bD G
    ·refine dH (af hm) ⟨_,rfl,_,rfl,sl,_,rfl,.inl (SqL.of (z7 _ _ es9)),rfl,cH _,_,rfl,?_⟩;have ei:(if true=true then !jm (.str y) ((dO S (bD G)).map V.str)else jm (.str y) ((dO S (bD G)).map V.str))=!decide (y∈dO S (bD G)):=b6 (!·) (dD y _);show if(if true=true then !jm (.str y) ((dO S (bD G)).map V.str)else jm (.str y) ((dO S (bD G)).map V.str))=true then _ else _;rw[ei];by_cases hs:y∈dO S (bD G)
     ·refine cq (by rw[af hs];rfl) ⟨z7,?_,_,rfl⟩;rw[dF (λx=>decide (kI x∈bD G)&& !decide (x∈dO S (bD G))) eq (b:=false) (by rw[af hs,af hm];rfl),ah];exact(b_ _).symm
     ·refine dH (by rw[am hs];rfl) ⟨_,rfl,z7,?_,_,rfl⟩;rw[dF (λx=>decide (kI x∈bD G)&& !decide (x∈dO S (bD G))) eq (b:=true) (by rw[am hs,af hm];rfl),ah];rfl
    ·refine cq (am hm) ⟨z7,?_,_,rfl⟩;rw[dF (λx=>decide (kI x∈bD G)&& !decide (x∈dO S (bD G))) eq (b:=false) (by rw[am hm];rfl),ah];exact(b_ _).symm
  obtain⟨s10,rfl,o,rfl⟩:=h;rw[ae,bf];rw[show(S.pl.filter λx=>decide (kI x∈bD G)&& !decide (x∈dO S (bD G)))=gB S (bD G)from rfl];have z11:=s10.trans (aU.new (o:=.lst ((gB S (bD G)).map V.str)) hul);have e11:(upd H' ul (.lst ((gB S (bD G)).map V.str))) ul=some (.lst ((gB S (bD G)).map V.str)):=ai;generalize upd H' ul (.lst ((gB S (bD G)).map V.str))=H11 at z11 e11;refine⟨_,rfl,_,rfl,(by show 2<=sizeLine;decide),λl hl=>?_⟩;have z12':=aU.new (o:=.lst [.ref sl,.ref ul]) hl;obtain⟨v,hv,hm⟩:=Hj N.ndP okT ha hab MX;exact q l sl ul (dO S (bD G)) (gB S (bD G)) v _ ((S9.trans z11).trans z12') ai (z12' _ _ (z11 _ _ es9)) (z12' _ _ e11) (ay (bu _ _) fewP) (ay (bu _ _) fewP) (N.ndP.sublist dN) (N.ndP.sublist dN) (λx hx=>(dS.mp hx).1) (λx hx=>(iJ.mp hx).1) hv hm
end
end Net
namespace Net
open PySem L2
theorem Gx{S:NS}(nd:S.nms.Nodup)(ndP:S.pl.Nodup):((aP S S.pl S.pl).map (·.nm)).Nodup:=by
 unfold aP;rw[ah,ah,bm,bm,bm];refine cS.mpr ⟨cS.mpr ⟨tM (u:="begin") ndP,?_,λx hx y hy e=>?_⟩,tM (u:="end") ndP,λx hx y hy e=>?_⟩
 ·have:=qd nd;unfold NS.nms at this;rw[bm]at this;exact this
 ·obtain⟨_,_,rfl⟩:=aj.mp hx;obtain⟨_,_,rfl⟩:=aj.mp hy;cases e
 ·obtain⟨z,_,rfl⟩:=aj.mp hy;rcases aw.mp hx with hx|hx
  ·obtain⟨u,_,e2⟩:=aj.mp hx;exact Gb (x:=u) (y:=z) (e2.trans e)
  ·obtain⟨_,_,e2⟩:=aj.mp hx;rw[<-e2]at e;cases e
theorem Fc(S:NS):(aP S S.pl S.pl).length=S.pl.length+S.ti.length+S.pl.length:=by
 unfold aP;rw[aI,aI,ae,ae,ae]
def qV(C:Addr):Sp:=λvs H Q _=>∃(p ds dl tt:Addr)(S:NS),vs=[.ref p,.ref tt,.bl true]/\fW C H p ds dl S/\ly H tt .all .all /\
 ∀(l w1 w2 ll rl:Addr)(ls rs:List Str)(H':Hp),aU H H'->H' l=some (.lst [.ref w1,.ref w2,.ref ll,.ref rl])->H' w1=some (.lst (S.pl.map V.str))->H' w2=some (.lst (S.pl.map V.str))->H' ll=some (.lst (ls.map V.str))->H' rl=some (.lst (rs.map V.str))->ls.length<=20->rs.length<=20->ls.Nodup->rs.Nodup->(∀x∈ls,x∈S.pl)->(∀x∈rs,x∈S.pl)->(∀r∈S.ti,r.a∈ls\/r.b∈rs)->cO (aP S S.pl S.pl) kF kL ((ls.length:Int)+rs.length)->Q (.ref l) H'
section
variable{P:Program}{w:World}{K:ag}{mg:Str->Option Value}{base:Heap}{C:Addr}
abbrev DK:List Str:=["net","term","above","begins","ends","arcs","loads","reached","left","right"]
theorem fS:bG DK ["net","term","above"] (aA s_paper_of_pairs):=⟨rfl,rfl,rfl,Qk,rfl,Qk,Qk⟩
theorem xP{f:Addr}{fd:FuncData}(F:fI K "paper_of_pairs" "paper_of_pairs" s_paper_of_pairs f fd)(cmembers_of:dc P w K mg base 3 "members_of" ["net","kind"] (iE C))(cwithin_paper:dc P w K mg base 4 "within_paper" ["net","kind"] (iE C))(carcs_of_pairs:dc P w K mg base 2 "arcs_of_pairs" ["net","begins","ends"] (vI C))(cgreatest_flow:dc P w K mg base 4 "greatest_flow" ["arcs","a","b"] jB)(cfree_ways:dc P w K mg base 3 "free_ways" ["arcs","loads","a"] jX):FnOk P w K mg base fA 5 f fd ["net","term","above"] (qV C):=by
 refine F.ok fS (λvs H Q E h=>?_) (λcdv A outer s H vs Q E hr h=>?_)
 ·obtain⟨p,ds,dl,tt,S,rfl,_⟩:=h;rfl
 ·obtain⟨p,ds,dl,tt,S,rfl,N,⟨st,ut,ett,hks,hkt⟩,q⟩:=h;have hu:=iL hr;have r2:c_ 2 _:=hr.mono Qd;have r3:c_ 3 _:=hr.mono Qd;have nd_0:List.Nodup (["place","reached"]:List Str):=Qk;refine⟨_,(ax (bH (i:=3) fS.nd rfl (aN rfl) (ba cmembers_of r3 Qr (pa_cons (pv 0) (pa_cons (bw bV (pv 1) aD (λ_ _=>Qr)) pa_nil))))
   (ax (bH (i:=4) fS.nd rfl (aN rfl) (ba cmembers_of r3 Qr (pa_cons (pv 0) (pa_cons (bw bV (pv 1) aD (λ_ _=>Qr)) pa_nil))))
   (ax (bH (i:=5) fS.nd rfl (aN rfl) (ba carcs_of_pairs r2 Qr (pa_cons (pv 0) (pa_cons (pv 3) (pa_cons (pv 4) pa_nil)))))
   (ax (bH (i:=6) fS.nd rfl (aN rfl) (ba cgreatest_flow hr Qr (pa_cons (pv 5) (pa_cons bQ (pa_cons bQ pa_nil)))))
   (ax (b9 (dB (cY (pv 2))) (aS eB) bF)
   (ax (bH (i:=7) fS.nd rfl (iz rfl) (ba cfree_ways r3 Qr (pa_cons (pv 5) (pa_cons (pv 6) (pa_cons bQ pa_nil)))))
   (ax (gd (j:=8) (N:=["place","reached"]) (xs:=1) (js:=[7]) rfl fS.nd rfl rfl (bt rfl) (bU (pv 3)) (λ_ _ _ _=>be (i:=0) nd_0 rfl (aN rfl)) (λ_ _ _ _=>gb (gc (j4 hu (bX (pa_cons (pv 0) (pa_cons bQ pa_nil))) (pv 1)) Qw)) (λ_ _ _ _=>pv 0) rfl)
   (ax (gd (j:=9) (N:=["place","reached"]) (xs:=1) (js:=[7]) rfl fS.nd rfl rfl (bt rfl) (bU (pv 4)) (λ_ _ _ _=>be (i:=0) nd_0 rfl (aN rfl)) (λ_ _ _ _=>gb (gc (lO hu (bX (pa_cons (pv 0) (pa_cons bQ pa_nil))) (pv 1)) Qw)) (λ_ _ _ _=>pv 0) rfl)
   (aS (bC (dC (pa_cons (ba cwithin_paper hr Qr (pa_cons (pv 0) (pa_cons (bw bV (pv 1) aD (λ_ _=>Qr)) pa_nil))) (pa_cons (ba cwithin_paper hr Qr (pa_cons (pv 0) (pa_cons (bw bV (pv 1) aD (λ_ _=>Qr)) pa_nil))) (pa_cons (pv 8) (pa_cons (pv 9) pa_nil))))))))))))))),?_⟩
  have okT:∀r∈S.ti,r.a∈S.pl/\r.b∈S.pl:=λr hr=>(N.okT r hr).2;have fewP:=N.fewP;have few:(aP S S.pl S.pl).length<=100:=by have:=N.few;rw[Fc];omega
  refine⟨_,rfl,_,rfl,tt,_,_,.ref st,rfl,rfl,cG.of ett,rfl,p,ds,dl,st,S,.all,rfl,N,hks,True.intro,λbl H1 _ s1 e1=>?_⟩;rw[kY]at e1;refine⟨_,rfl,_,rfl,tt,_,_,.ref ut,rfl,rfl,cG.of (s1 _ _ ett),rfl,p,ds,dl,ut,S,.all,rfl,N.same s1,hkt.same s1,True.intro,λel H2 _ s2 e2=>?_⟩;rw[kY]at e2;have S2:=s1.trans s2;refine⟨_,rfl,_,rfl,_,rfl,p,ds,dl,bl,el,S,S.pl,S.pl,rfl,N.same S2,s2 _ _ e1,e2,fewP,fewP,N.okP,N.okP,λal H3 s3⟨L,eal,RL⟩=>?_⟩;have S3:=S2.trans s3;have okF:aJ.at_ H3 kF (.str "first"):=⟨rfl,Qk⟩;refine⟨_,rfl,al,kF,kL,.str "first",.str "last",L,aP S S.pl S.pl,rfl,eal,RL,few,Gx N.nd N.ndP,okF,⟨rfl,Qk⟩,?_,λz=>absurd (Sum.inl.inj z) Qk,λld Fl H4 hld s4 eld ok bal sd=>?_⟩
  ·intro r hr;rcases aw.mp hr with hr|hr
   ·rcases aw.mp hr with hr|hr
    ·obtain⟨y,hy,rfl⟩:=aj.mp hr;show(0:Int)<=1;decide
    ·obtain⟨y,hy,rfl⟩:=aj.mp hr;show(0:Int)<=2;decide
   ·obtain⟨y,hy,rfl⟩:=aj.mp hr;show(0:Int)<=1;decide
  refine⟨_,rfl,_,rfl,dz ?_⟩;refine⟨_,rfl,_,rfl,al,ld,kF,.str "first",L,aP S S.pl S.pl,Fl,rfl,s4 _ _ eal,RL.same s4,eld,few,⟨rfl,Qk⟩,λd H5 T3 G _ s5 ft fd ha' cl _ _=>?_⟩;have MX:=mX ok bal sd ft fd ha' cl;have ed:=fd.ob;have s35:=(s3.trans s4).trans s5;have S5:=S2.trans s35;clear ft fd cl;have e15:=s35 _ _ (s2 _ _ e1);have e25:=s35 _ _ e2;refine⟨_,rfl,bl,rfl,⟨_,SqL.of e15⟩,bW (K:=K) (ys:=S.pl.map V.str) (λi acc σ' H'=>aU H5 H'/\acc=(((S.pl.take i).filter λx=>!decide (kB x∈bD G)).map V.str)/\∃o,σ'=[o,some (.ref d)])
   ⟨aU.refl _,rfl,none,rfl⟩ (λi acc σ' H' h=>?_) ?_ (λi acc σ' H' _ h=>SqL.of (h.1 _ _ e15)) (λi x acc σ' H' hx h=>?_) (λacc σ' H' h ll hll=>?_)⟩
  ·rw[h.2.1,ae];exact ay (bu _ _) (by rw[aQ];omega)
  ·rw[ae];exact ay N.fewP Qd
  ·obtain⟨s7,rfl,o,rfl⟩:=h;rw[ap]at hx;cases eq:S.pl[i]? with
   |none=>rw[eq]at hx;cases hx
   |some y=>
    rw[eq]at hx;cases hx;have oky:=de (N.okP y (ao eq));refine⟨_,rfl,(by show 2<=sizeLine;decide),λt kt=>?_⟩;have z7:=s7.trans (aU.new (o:=.tup [.str y,.str "begin"]) kt);refine⟨_,rfl,d,_,rfl,eh.m (k:=kB y) (z7 _ _ ed) (jo ai oky Qk),_,rfl,?_⟩;rw[jL];by_cases hm:kB y∈bD G
    ·refine cq (by rw[af hm];rfl) ⟨z7,?_,_,rfl⟩;rw[dF (λx=>!decide (kB x∈bD G)) eq (b:=false) (by rw[af hm];rfl),ah];exact(b_ _).symm
    ·refine dH (by rw[am hm];rfl) ⟨_,rfl,z7,?_,_,rfl⟩;rw[dF (λx=>!decide (kB x∈bD G)) eq (b:=true) (by rw[am hm];rfl),ah];rfl
  obtain⟨s7,rfl,o,rfl⟩:=h;rw[ae,bf];rw[show(S.pl.filter λx=>!decide (kB x∈bD G))=jI S (bD G)from rfl];have z8:=s7.trans (aU.new (o:=.lst ((jI S (bD G)).map V.str)) hll);have e8:(upd H' ll (.lst ((jI S (bD G)).map V.str))) ll=some (.lst ((jI S (bD G)).map V.str)):=ai;generalize upd H' ll (.lst ((jI S (bD G)).map V.str))=H8 at z8 e8;have S8:=S5.trans z8;have ed8:=z8 _ _ ed;have e28:=z8 _ _ e25;refine⟨_,rfl,el,rfl,⟨_,SqL.of e28⟩,bW (K:=K) (ys:=S.pl.map V.str) (λi acc σ' H'=>aU H8 H'/\acc=(((S.pl.take i).filter λx=>decide (kE x∈bD G)).map V.str)/\∃o,σ'=[o,some (.ref d)])
   ⟨aU.refl _,rfl,none,rfl⟩ (λi acc σ' H' h=>?_) ?_ (λi acc σ' H' _ h=>SqL.of (h.1 _ _ e28)) (λi x acc σ' H' hx h=>?_) (λacc σ' H' h rl hrl=>?_)⟩
  ·rw[h.2.1,ae];exact ay (bu _ _) (by rw[aQ];omega)
  ·rw[ae];exact ay N.fewP Qd
  ·obtain⟨s10,rfl,o,rfl⟩:=h;rw[ap]at hx;cases eq:S.pl[i]? with
   |none=>rw[eq]at hx;cases hx
   |some y=>
    rw[eq]at hx;cases hx;have oky:=de (N.okP y (ao eq));refine⟨_,rfl,(by show 2<=sizeLine;decide),λt kt=>?_⟩;have z7:=s10.trans (aU.new (o:=.tup [.str y,.str "end"]) kt);refine⟨_,rfl,d,_,rfl,eh.m (k:=kE y) (z7 _ _ ed8) (jo ai oky Qk),_,rfl,?_⟩;rw[jL];by_cases hm:kE y∈bD G
    ·refine dH (af hm) ⟨_,rfl,z7,?_,_,rfl⟩;rw[dF (λx=>decide (kE x∈bD G)) eq (af hm),ah];rfl
    ·refine cq (am hm) ⟨z7,?_,_,rfl⟩;rw[dF (λx=>decide (kE x∈bD G)) eq (am hm),ah];exact(b_ _).symm
  obtain⟨s10,rfl,o,rfl⟩:=h;rw[ae,bf];rw[show(S.pl.filter λx=>decide (kE x∈bD G))=hX S (bD G)from rfl];have z11:=s10.trans (aU.new (o:=.lst ((hX S (bD G)).map V.str)) hrl);have e11:(upd H' rl (.lst ((hX S (bD G)).map V.str))) rl=some (.lst ((hX S (bD G)).map V.str)):=ai;generalize upd H' rl (.lst ((hX S (bD G)).map V.str))=H11 at z11 e11;have S11:=S8.trans z11;refine⟨_,rfl,_,rfl,tt,_,_,.ref st,rfl,rfl,cG.of (S11 _ _ ett),rfl,p,ds,dl,st,S,.all,rfl,N.same S11,hks.same S11,True.intro,λw1 Ha _ sa ea=>?_⟩;rw[kY]at ea;have Sa:=S11.trans sa;refine⟨_,rfl,_,rfl,tt,_,_,.ref ut,rfl,rfl,cG.of (Sa _ _ ett),rfl,p,ds,dl,ut,S,.all,rfl,N.same Sa,hkt.same Sa,True.intro,λw2 Hb _ sb eb=>?_⟩;rw[kY]at eb;refine⟨_,rfl,_,rfl,(by show 4<=sizeLine;decide),λl hl=>?_⟩;have zl:=aU.new (o:=.lst [.ref w1,.ref w2,.ref ll,.ref rl]) hl;have z8e:=(sa.trans sb).trans zl;obtain⟨cov,hm⟩:=Hi N.ndP okT MX;exact q l w1 w2 ll rl (jI S (bD G)) (hX S (bD G)) _ ((Sa.trans sb).trans zl) ai ((sb.trans zl) _ _ ea) (zl _ _ eb) (z8e _ _ (z11 _ _ e8)) (z8e _ _ e11) (ay (bu _ _) fewP) (ay (bu _ _) fewP) (N.ndP.sublist dN) (N.ndP.sublist dN) (λx hx=>(bK.mp hx).1) (λx hx=>(bK.mp hx).1) cov hm
end
end Net
namespace Net
open PySem L2
theorem mU{X:Cx}{e:Expr}:PE X e (λ_ _ _=>False):=λ_ _ _ _ _ _ h=>h.elim
inductive W3 where
 |flow
 |apart
 |bare
def W3.s:W3->Str
 |.flow =>"flow"
 |.apart =>"apart"
 |.bare =>"bare"
inductive T4 where
 |fl(w:W3)(a b:Str)
 |pr
def T4.at_(H:Hp)(tt:Addr):T4->Prop
 |.fl w a b=>qz H tt w.s a b
 |.pr=>ly H tt .all .all
theorem T4.at_.same{H H':Hp}{tt:Addr}:∀{t:T4},aU H H'->t.at_ H tt->t.at_ H' tt
 |.fl _ _ _,s,h=>s _ _ h
 |.pr,s,h=>ly.same s h
def T4.ok(S:NS):T4->Prop
 |.fl _ a b=>a∈S.pl/\b∈S.pl
 |.pr=>True
def W3.shD(S:NS)(a b:Str)(d:PyData):W3->Option Int
 |.flow=>(ji S a b d).map λL=>(L.map (·.w)).sum
 |.apart=>(ji S a b d).map λL=>(L.length:Int)
 |.bare=>mj S a b d
def T4.shD(S:NS)(d:PyData):T4->Option Int
 |.fl w a b=>if a=b then(if pE d then some 0 else none)else w.shD S a b d
 |.pr=>ja S .all .all d
def W3.min(S:NS)(a b:Str)(v:Int):W3->Prop
 |.flow=>cO (aW (·.w) S) (.inl a) (.inl b) v
 |.apart=>cO (aW (λ_=>1) S) (.inl a) (.inl b) v
 |.bare=>cO (aB S a b) (kO a) (kI b) v
def T4.min(S:NS)(v:Int):T4->Prop
 |.fl w a b=>if a=b then v=0 else w.min S a b v
 |.pr=>cO (aP S S.pl S.pl) kF kL v
theorem DZ(w:W3):decide (V.str w.s=V.str "number")=false:=by cases w<;>decide+kernel
theorem zR(w:W3):decide (V.str w.s=V.str "size")=false:=by cases w<;>decide+kernel
theorem uT(w:W3):decide (V.str w.s=V.str "pairs")=false:=by cases w<;>decide+kernel
theorem uR(w:W3):decide (V.str w.s=V.str "times")=false:=by cases w<;>decide+kernel
theorem uS(w:W3):jm (.str w.s) [.str "plus",.str "least",.str "most"]=false:=by cases w<;>decide+kernel
theorem Cy:decide (V.str "pairs"=V.str "times")=false:=Qk
theorem Cz:jm (.str "pairs") [.str "plus",.str "least",.str "most"]=false:=Qk
def GI(d:PyData):Prop:=HY d/\su 3 d
theorem uB{ws:List Str}(h:ws.length<=20):GI (.list (ws.map PyData.str)):=by
 refine⟨λds e=>?_,?_⟩
 ·cases e;refine⟨by rw[ae];omega,λx hx e z=>?_⟩;obtain⟨y,_,rfl⟩:=aj.mp hx;cases z
 ·refine⟨by rw[ae];omega,λx hx=>?_⟩;obtain⟨y,_,rfl⟩:=aj.mp hx;exact True.intro
theorem pI{L:List (List Str)}(hl:L.length<=20)(h:∀ws∈L,ws.length<=20):GI (.list (L.map λws=>.list (ws.map PyData.str))):=by
 refine⟨λds e=>?_,?_⟩
 ·cases e;refine⟨by rw[ae];omega,λx hx e z=>?_⟩;obtain⟨y,hy,rfl⟩:=aj.mp hx;cases z;rw[ae];exact ay (h y hy) Qd
 ·refine⟨by rw[ae];omega,λx hx=>?_⟩;obtain⟨y,hy,rfl⟩:=aj.mp hx;refine⟨by rw[ae];exact ay (h y hy) Qd,λx hx=>?_⟩;obtain⟨z,_,rfl⟩:=aj.mp hx;exact True.intro
theorem m8{pl ws:List Str}(nd:ws.Nodup)(h:∀x∈ws,x∈pl):bZ pl (.list (ws.map PyData.str))=true:=by
 rw[kQ];unfold fb;rw[af nd,ce.mpr λx hx=>af (h x hx)];rfl
theorem Bo(ws:List Str):dZ (.list (ws.map PyData.str))=some ws:=ff _
theorem qm:∀{ws pl:List Str},ws.Nodup->(∀x∈ws,x∈pl)->ws.length<=pl.length
 |[],_,_,_=>bO _
 |x::ws,pl,nd,h=>by
  have hx:=h x au;have:=qm (ws:=ws) (pl:=pl.erase x) (bM.mp nd).2 λy hy=>(DU (a:=y) (b:=x) λ(e:y=x)=>(bM.mp nd).1 (by rw[<-e];exact hy)).mpr (h y (aq _ hy));rw[zJ hx]at this;have:=Cm hx;rw[bT];omega
theorem An{S:NS}{a b:Str}{ws:List Str}(nd:ws.Nodup)(h:∀x∈ws,x∈S.pl)(ha:a∈ws)(hb:b∉ws):ji S a b (.list (ws.map PyData.str))=some (nH S.ti ws):=by
 rw[wF (m8 nd h),bc ⟨ha,hb⟩]
theorem C_(l:List dw):(l.map λ_=>(1:Int)).sum=l.length:=by
 induction l with
 |nil=>rfl
 |cons x l ih=>rw[aF,bE,ih,bT];omega
theorem CI{S:NS}{a b:Str}{ws us:List Str}(n1:ws.Nodup)(n2:us.Nodup)(h1:∀x∈ws,x∈S.pl)(h2:∀x∈us,x∈S.pl):mj S a b (.list [.list (ws.map PyData.str),.list (us.map PyData.str)])=shutB S a b ws us:=by
 show(if bZ S.pl (.list (ws.map PyData.str))=true/\bZ S.pl (.list (us.map PyData.str))=true then shutB S a b ((dZ (.list (ws.map PyData.str))).getD []) ((dZ (.list (us.map PyData.str))).getD [])else none)=_;rw[bc ⟨m8 n1 h1,m8 n2 h2⟩,Bo,Bo];rfl
theorem Ao{S:NS}{ls rs:List Str}(ndP:S.pl.Nodup)(n1:ls.Nodup)(n2:rs.Nodup)(h1:∀x∈ls,x∈S.pl)(h2:∀x∈rs,x∈S.pl)(hc:∀r∈S.ti,r.a∈ls\/r.b∈rs):ja S .all .all (.list [.list (S.pl.map PyData.str),.list (S.pl.map PyData.str),.list (ls.map PyData.str),.list (rs.map PyData.str)])=some ((ls.length:Int)+rs.length):=by
 have hw:e_ S .all (.list (S.pl.map PyData.str))=true:=by
  rw[kN];unfold ga withinK fb;rw[af ndP,ce.mpr λx hx=>af hx];rfl
 unfold ja vZ;simp only[Bo,Option.getD_some];rw[bc ⟨hw,hw,m8 n1 h1,m8 n2 h2,λr hr _ _=>hc r hr⟩]
def vD(C:Addr):Sp:=λvs H Q _=>∃(p ds dl tt:Addr)(S:NS)(t:T4),vs=[.ref p,.ref tt,.bl true]/\fW C H p ds dl S/\t.at_ H tt/\t.ok S/\(∀r∈S.ti,0<=r.w)/\
 ∀(l:Addr)(d:PyData)(n:Nat)(v:Int)(H':Hp),aU H H'->PD H' n (.ref l) d->n<=50->GI d->t.shD S d=some v->t.min S v->Q (.ref l) H'
def D3(C:Addr):Sp:=λvs H Q _=>∃(p ds dl tt:Addr)(S:NS)(t:T4)(x:V)(n:Nat)(d:PyData),vs=[.ref p,.ref tt,.bl true,x]/\fW C H p ds dl S/\t.at_ H tt/\PD H n x d/\n<=50/\GI d/\∀H',aU H H'->Q (oV (t.shD S d)) H'
def D7(C:Addr):Sp:=λvs H Q _=>∃(p ds dl tt:Addr)(S:NS)(w:W3)(a b:Str)(x:V)(n:Nat)(d:PyData),vs=[.ref p,.ref tt,.bl true,x]/\fW C H p ds dl S/\qz H tt w.s a b/\PD H n x d/\n<=50/\GI d/\∀H',aU H H'->Q (oV (w.shD S a b d)) H'
def vH(C:Addr):Sp:=λvs H Q _=>∃(p ds dl tt:Addr)(S:NS)(t:T4),vs=[.ref p,.ref tt,.bl true]/\fW C H p ds dl S/\t.at_ H tt/\t.ok S/\(∀r∈S.ti,0<=r.w)/\
 ∀(o l:Addr)(v:Int)(H':Hp),aU H H'->H' o=some (.tup [.int v,.ref l])->t.min S v->Q (.ref o) H'
def sQ(C:Addr):Sp:=λvs H Q _=>∃(p ds dl tt:Addr)(S:NS)(t:T4),vs=[.ref p,.ref tt]/\fW C H p ds dl S/\t.at_ H tt/\t.ok S/\(∀r∈S.ti,0<=r.w)/\∀(v:Int)(H':Hp),aU H H'->t.min S v->Q (.int v) H'
section
variable{P:Program}{w:World}{K:ag}{mg:Str->Option Value}{base:Heap}{C:Addr}
theorem Au:bG ["net","term","above"] ["net","term","above"] (aA s_paper_of_one):=⟨rfl,rfl,rfl,Qk,rfl,Qk,Qk⟩
theorem A6{f:Addr}{fd:FuncData}(F:fI K "paper_of_one" "paper_of_one" s_paper_of_one f fd)(cflow:dc P w K mg base 5 "paper_of_flow" ["net","term","above"] (pV C "flow" (·.w)))(capart:dc P w K mg base 5 "paper_of_apart" ["net","term","above"] (pV C "apart" (λ_=>1)))(cbare:dc P w K mg base 5 "paper_of_bare" ["net","term","above"] (vE C))(cpairs:dc P w K mg base 5 "paper_of_pairs" ["net","term","above"] (qV C)):FnOk P w K mg base fA 6 f fd ["net","term","above"] (vD C):=by
 refine F.ok Au (λvs H Q E h=>?_) (λcdv A outer s H vs Q E hr h=>?_)
 ·obtain⟨p,ds,dl,tt,S,t,rfl,_⟩:=h;rfl
 ·obtain⟨p,ds,dl,tt,S,t,rfl,N,te,hok,okw,q⟩:=h;refine⟨_,(ax (b9 (bJ d9 (bw bV (pv 1) aD (λ_ _=>Qr)) bQ (nomark _)) (aS eB) bF)
   (ax (b9 (bJ d9 (bw bV (pv 1) aD (λ_ _=>Qr)) bQ (nomark _)) (aS eB) bF)
   (ax (b9 (bJ d9 (bw bV (pv 1) aD (λ_ _=>Qr)) bQ (nomark _)) (aS (bC (ba cpairs hr Qr (pa_cons (pv 0) (pa_cons (pv 1) (pa_cons (pv 2) pa_nil)))))) bF)
   (ax (b9 (bJ d9 (bw bV (pv 1) aD (λ_ _=>Qr)) (bw bV (pv 1) aD (λ_ _=>Qr)) (nomark _)) (aS (bC (dC pa_nil))) bF)
   (ax (b9 (bJ d9 (bw bV (pv 1) aD (λ_ _=>Qr)) bQ (nomark _)) (aS (bC (ba cflow hr Qr (pa_cons (pv 0) (pa_cons (pv 1) (pa_cons (pv 2) pa_nil)))))) bF)
   (ax (b9 (bJ d9 (bw bV (pv 1) aD (λ_ _=>Qr)) bQ (nomark _)) (aS (bC (ba capart hr Qr (pa_cons (pv 0) (pa_cons (pv 1) (pa_cons (pv 2) pa_nil)))))) bF)
   (aS (bC (ba cbare hr Qr (pa_cons (pv 0) (pa_cons (pv 1) (pa_cons (pv 2) pa_nil)))))))))))),?_⟩
  cases t with
  |pr=>
   obtain⟨st,ut,ett,hks,hkt⟩:=id te;refine⟨_,rfl,tt,_,_,.str "pairs",rfl,rfl,cG.of ett,rfl,rfl,_,rfl,cq D9 ?_⟩;refine⟨_,rfl,tt,_,_,.str "pairs",rfl,rfl,cG.of ett,rfl,rfl,_,rfl,cq A0 ?_⟩;refine⟨_,rfl,tt,_,_,.str "pairs",rfl,rfl,cG.of ett,rfl,rfl,_,rfl,dH vW ?_⟩;refine⟨_,rfl,_,rfl,_,rfl,p,ds,dl,tt,S,rfl,N,te,λl w1 w2 ll rl ls rs H' s' el e1 e2 e3 e4 g1 g2 n1 n2 h1 h2 hc hm=>?_⟩;have oks:∀{ws:List Str},(∀x∈ws,x∈S.pl)->∀x∈ws,cE x=true:=λh x hx=>N.okP x (h x hx);refine q l (.list [.list (S.pl.map PyData.str),.list (S.pl.map PyData.str),.list (ls.map PyData.str),.list (rs.map PyData.str)]) 2 _ H' s' (.inl ⟨_,_,el,rfl,.cons (mq e1 N.okP) (.cons (mq e2 N.okP) (.cons (mq e3 (oks h1)) (.cons (mq e4 (oks h2)) .nil)))⟩) Qd (pI (L:=[S.pl,S.pl,ls,rs]) (by show 4<=20;decide) λws hw=>?_) (Ao N.ndP n1 n2 h1 h2 hc) hm;rcases bd.mp hw with rfl|hw
   ·exact N.fewP
   rcases bd.mp hw with rfl|hw
   ·exact N.fewP
   rcases bd.mp hw with rfl|hw
   ·exact g1
   rcases bd.mp hw with rfl|hw
   ·exact g2
   ·cases hw
  |fl w' a b=>
   have te':H tt=some (.tup [.str w'.s,.str a,.str b]):=te;have tw:qz H tt w'.s a b:=te;obtain⟨ha,hb⟩:=hok;refine⟨_,rfl,tt,_,_,.str w'.s,rfl,rfl,cG.of te',rfl,rfl,_,rfl,cq (DZ w') ?_⟩;refine⟨_,rfl,tt,_,_,.str w'.s,rfl,rfl,cG.of te',rfl,rfl,_,rfl,cq (zR w') ?_⟩;refine⟨_,rfl,tt,_,_,.str w'.s,rfl,rfl,cG.of te',rfl,rfl,_,rfl,cq (uT w') ?_⟩;refine⟨_,rfl,tt,_,_,.str a,rfl,rfl,cG.of te',rfl,_,rfl,tt,_,_,.str b,rfl,rfl,cG.of te',rfl,rfl,_,rfl,?_⟩;by_cases hab:a=b
   ·refine dH (by rw[hab];simp) ⟨Qd,λl hl=>?_⟩;exact q l (.list []) 1 0 _ (aU.new hl) (.inl ⟨[],[],ai,rfl,.nil⟩) Qd (uB (ws:=[]) Qd) (by show(if a=b then(if pE (.list [])then some 0 else none)else _)=some 0;rw[bc hab];rfl) (by show if a=b then(0:Int)=0 else _;rw[bc hab])
   ·refine cq (by simp[hab]) ⟨_,rfl,tt,_,_,.str w'.s,rfl,rfl,cG.of te',rfl,rfl,_,rfl,?_⟩;cases w' with
    |flow=>
     refine dH Qk ⟨_,rfl,_,rfl,_,rfl,p,ds,dl,tt,S,a,b,rfl,N,tw,ha,hb,hab,okw,λl ws H' s' el nd hs h1 h2 hm=>?_⟩;refine q l (.list (ws.map PyData.str)) 1 (((nH S.ti ws).map (·.w)).sum) H' s' (mq el λx hx=>N.okP x (hs x hx)) Qd (uB (ay (qm nd hs) N.fewP)) ?_ ?_
     ·show(if a=b then _ else(ji S a b (.list (ws.map PyData.str))).map λL=>(L.map (·.w)).sum)=_;rw[aM hab,An nd hs h1 h2];rfl
     ·show if a=b then _ else _;rw[aM hab];exact hm
    |apart=>
     refine cq Qk ⟨_,rfl,tt,_,_,.str "apart",rfl,rfl,cG.of te',rfl,rfl,_,rfl,dH Qk ?_⟩;refine⟨_,rfl,_,rfl,_,rfl,p,ds,dl,tt,S,a,b,rfl,N,tw,ha,hb,hab,λ_ _=>(by show(0:Int)<=1;decide),λl ws H' s' el nd hs h1 h2 hm=>?_⟩;refine q l (.list (ws.map PyData.str)) 1 ((nH S.ti ws).length:Int) H' s' (mq el λx hx=>N.okP x (hs x hx)) Qd (uB (ay (qm nd hs) N.fewP)) ?_ ?_
     ·show(if a=b then _ else(ji S a b (.list (ws.map PyData.str))).map λL=>(L.length:Int))=_;rw[aM hab,An nd hs h1 h2];rfl
     ·show if a=b then _ else _;rw[aM hab,<-C_];exact hm
    |bare=>
     refine cq Qk ⟨_,rfl,tt,_,_,.str "bare",rfl,rfl,cG.of te',rfl,rfl,_,rfl,cq Qk ?_⟩;refine⟨_,rfl,_,rfl,_,rfl,p,ds,dl,tt,S,"bare",a,b,rfl,N,tw,ha,hb,hab,λl sl ul ws us v H' s' el e1 e2 g1 g2 n1 n2 h1 h2 hv hm=>?_⟩;refine q l (.list [.list (ws.map PyData.str),.list (us.map PyData.str)]) 2 v H' s' (.inl ⟨_,_,el,rfl,.cons (mq e1 λx hx=>N.okP x (h1 x hx)) (.cons (mq e2 λx hx=>N.okP x (h2 x hx)) .nil)⟩) Qd (pI (L:=[ws,us]) (by show 2<=20;decide) λzs hz=>?_) ?_ ?_
     ·rcases bd.mp hz with rfl|hz
      ·exact g1
      rcases bd.mp hz with rfl|hz
      ·exact g2
      ·cases hz
     ·rw[<-hv,<-CI n1 n2 h1 h2];exact aM hab
     ·show if a=b then _ else _;rw[aM hab];exact hm
theorem EU{f:Addr}{fd:FuncData}(F:fI K "shown_across" "shown_across" s_shown_across f fd)(c1:dc P w K mg base 5 "flow_above" ["net","term","paper"] (jY C true))(c2:dc P w K mg base 5 "apart_above" ["net","term","paper"] (jY C false))(c3:dc P w K mg base 5 "bare_above" ["net","term","paper"] (qX C)):FnOk P w K mg base fA 6 f fd ["net","term","above","paper"] (D7 C):=by
 refine F.ok xI (λvs H Q E h=>?_) (λcdv A outer s H vs Q E hr h=>?_)
 ·obtain⟨p,ds,dl,tt,S,w',a,b,x,n,d,rfl,_⟩:=h;rfl
 ·obtain⟨p,ds,dl,tt,S,w',a,b,x,n,d,rfl,N,te,pd,n50,hd,q⟩:=h;refine⟨_,(ax (b9 (bJ d9 (bw bV (pv 1) aD (λ_ _=>Qr)) bQ (nomark _)) (aS (bC (gD (cY (pv 2)) (ba c1 hr Qr (pa_cons (pv 0) (pa_cons (pv 1) (pa_cons (pv 3) pa_nil)))) mU))) bF)
   (ax (b9 (bJ d9 (bw bV (pv 1) aD (λ_ _=>Qr)) bQ (nomark _)) (aS (bC (gD (cY (pv 2)) (ba c2 hr Qr (pa_cons (pv 0) (pa_cons (pv 1) (pa_cons (pv 3) pa_nil)))) mU))) bF)
   (aS (bC (gD (cY (pv 2)) (ba c3 hr Qr (pa_cons (pv 0) (pa_cons (pv 1) (pa_cons (pv 3) pa_nil)))) mU))))),?_⟩
  have te':H tt=some (.tup [.str w'.s,.str a,.str b]):=te;refine⟨_,rfl,tt,_,_,.str w'.s,rfl,rfl,cG.of te',rfl,rfl,_,rfl,?_⟩;cases w' with
  |flow=>exact dH Qk ⟨_,rfl,_,rfl,dv ⟨_,rfl,_,rfl,_,rfl,p,ds,dl,tt,S,_,a,b,x,n,d,rfl,N,te,pd,n50,(λe z=>ay (hd.1 e z).1 Qd),q⟩⟩
  |apart=>
   refine cq Qk ⟨_,rfl,tt,_,_,.str "apart",rfl,rfl,cG.of te',rfl,rfl,_,rfl,dH Qk ?_⟩;exact⟨_,rfl,_,rfl,dv ⟨_,rfl,_,rfl,_,rfl,p,ds,dl,tt,S,_,a,b,x,n,d,rfl,N,te,pd,n50,(λe z=>ay (hd.1 e z).1 Qd),q⟩⟩
  |bare=>
   refine cq Qk ⟨_,rfl,tt,_,_,.str "bare",rfl,rfl,cG.of te',rfl,rfl,_,rfl,cq Qk ?_⟩;exact⟨_,rfl,_,rfl,dv ⟨_,rfl,_,rfl,_,rfl,p,ds,dl,tt,S,_,a,b,x,n,d,rfl,N,te,pd,n50,hd.1,q⟩⟩
theorem EQ{f:Addr}{fd:FuncData}(F:fI K "shown_bound" "shown_bound" s_shown_bound f fd)(ca:dc P w K mg base 6 "shown_across" ["net","term","above","paper"] (D7 C))(cp:dc P w K mg base 7 "pairs_above" ["net","term","paper"] (vB C true)):FnOk P w K mg base fA 8 f fd ["net","term","above","paper"] (D3 C):=by
 refine F.ok At (λvs H Q E h=>?_) (λcdv A outer s H vs Q E hr h=>?_)
 ·obtain⟨p,ds,dl,tt,S,t,x,n,d,rfl,_⟩:=h;rfl
 ·obtain⟨p,ds,dl,tt,S,t,x,n,d,rfl,N,te,pd,n50,hd,q⟩:=h;have hU:=hr.units;have r6:c_ 6 _:=hr.mono Qd;refine⟨_,(ax (b9 (bJ d9 (bw bV (pv 1) aD (λ_ _=>Qr)) bQ (nomark _)) (aS eB) bF)
   (ax (b9 (bJ d9 (bw bV (pv 1) aD (λ_ _=>Qr)) bQ (nomark _)) (aS eB) bF)
   (ax (b9 (bJ d9 (bw bV (pv 1) aD (λ_ _=>Qr)) bQ (nomark _)) (aS (bC (gD (cY (pv 2)) (ba cp hr Qr (pa_cons (pv 0) (pa_cons (pv 1) (pa_cons (pv 3) pa_nil)))) mU))) bF)
   (ax (b9 (bJ d9 (bw bV (pv 1) aD (λ_ _=>Qr)) bQ (nomark _)) (aS eB) bF)
   (ax (b9 (bJ gZ (bw bV (pv 1) aD (λ_ _=>Qr)) (bX (pa_cons bQ (pa_cons bQ (pa_cons bQ pa_nil)))) Qw) (aS eB) bF)
   (ax (b9 (bJ d9 (bw bV (pv 1) aD (λ_ _=>Qr)) (bw bV (pv 1) aD (λ_ _=>Qr)) (nomark _)) (aS (bC (gD (bJ (qc hU) (pv 3) (dC pa_nil) (nomark _)) aD h_))) bF)
   (aS (bC (ba ca r6 Qr (pa_cons (pv 0) (pa_cons (pv 1) (pa_cons (pv 2) (pa_cons (pv 3) pa_nil))))))))))))),?_⟩
  cases t with
  |pr=>
   obtain⟨st,ut,ett,hks,hkt⟩:=id te;refine⟨_,rfl,tt,_,_,.str "pairs",rfl,rfl,cG.of ett,rfl,rfl,_,rfl,cq D9 ?_⟩;refine⟨_,rfl,tt,_,_,.str "pairs",rfl,rfl,cG.of ett,rfl,rfl,_,rfl,cq A0 ?_⟩;refine⟨_,rfl,tt,_,_,.str "pairs",rfl,rfl,cG.of ett,rfl,rfl,_,rfl,dH vW ?_⟩;exact⟨_,rfl,_,rfl,dv ⟨_,rfl,_,rfl,_,rfl,p,ds,dl,tt,S,.all,.all,x,n,d,rfl,N,te,True.intro,True.intro,pd,n50,hd.2,q⟩⟩
  |fl w' a b=>
   have te':H tt=some (.tup [.str w'.s,.str a,.str b]):=te;have tw:qz H tt w'.s a b:=te;refine⟨_,rfl,tt,_,_,.str w'.s,rfl,rfl,cG.of te',rfl,rfl,_,rfl,cq (DZ w') ?_⟩;refine⟨_,rfl,tt,_,_,.str w'.s,rfl,rfl,cG.of te',rfl,rfl,_,rfl,cq (zR w') ?_⟩;refine⟨_,rfl,tt,_,_,.str w'.s,rfl,rfl,cG.of te',rfl,rfl,_,rfl,cq (uT w') ?_⟩;refine⟨_,rfl,tt,_,_,.str w'.s,rfl,rfl,cG.of te',rfl,rfl,_,rfl,cq (uR w') ?_⟩;refine⟨_,rfl,tt,_,_,.str w'.s,rfl,rfl,cG.of te',rfl,(by show 3<=sizeLine;decide),λt3 ht3=>?_⟩;have z:=aU.new (o:=.tup [.str "plus",.str "least",.str "most"]) ht3;refine⟨t3,_,rfl,.inr (cG.of ai),rfl,rfl,_,rfl,?_⟩;generalize upd H t3 (.tup [.str "plus",.str "least",.str "most"])=H1 at z;show if(if false=true then _ else jm (.str w'.s) [.str "plus",.str "least",.str "most"])=true then _ else _;rw[aM aG,uS w'];refine dz ⟨_,rfl,tt,_,_,.str a,rfl,rfl,cG.of (z _ _ te'),rfl,_,rfl,tt,_,_,.str b,rfl,rfl,cG.of (z _ _ te'),rfl,rfl,_,rfl,?_⟩;by_cases hab:a=b
   ·refine dH (by rw[hab];simp) ⟨_,rfl,Qd,λee hee=>⟨n+2,_,_,Qo,((pd.same (z.upd hee)).mono 2).rd,CU ai,_,rfl,?_⟩⟩;have z2:=z.upd (o:=.lst []) hee;generalize upd H1 ee (.lst [])=H2 at z2;show if(if false=true then _ else PyData.eqv d (.list []))=true then _ else _;rw[aM aG,yP];have h2:Q (oV (if a=b then(if pE d then some 0 else none)else w'.shD S a b d)) H2:=q H2 z2;rw[bc hab]at h2;cases en:pE d with
    |true=>
     rw[en]at h2;exact dv h2
    |false=>
     rw[en]at h2;exact dz h2
   ·refine cq (by simp[hab]) ⟨_,rfl,_,rfl,_,rfl,_,rfl,p,ds,dl,tt,S,w',a,b,x,n,d,rfl,N.same z,z _ _ tw,pd.same z,n50,hd,λH2 s2=>?_⟩;have h2:Q (oV (if a=b then(if pE d then some 0 else none)else w'.shD S a b d)) H2:=q H2 (z.trans s2);rw[aM hab]at h2;exact h2
abbrev Fq:List Str:=["net","term","above","within","paper"]
theorem qZ:bG Fq ["net","term","above"] (aA s_find_bound):=⟨rfl,rfl,rfl,Qk,rfl,Qk,Qk⟩
theorem Be{f:Addr}{fd:FuncData}(F:fI K "find_bound" "find_bound" s_find_bound f fd)(cone:dc P w K mg base 6 "paper_of_one" ["net","term","above"] (vD C))(csh:dc P w K mg base 8 "shown_bound" ["net","term","above","paper"] (D3 C)):FnOk P w K mg base fA 9 f fd ["net","term","above"] (vH C):=by
 refine F.ok qZ (λvs H Q E h=>?_) (λcdv A outer s H vs Q E hr h=>?_)
 ·obtain⟨p,ds,dl,tt,S,t,rfl,_⟩:=h;rfl
 ·obtain⟨p,ds,dl,tt,S,t,rfl,N,te,hok,okw,q⟩:=h;have r6:c_ 6 _:=hr.mono Qd;refine⟨_,(ax (b9 (bJ d9 (bw bV (pv 1) aD (λ_ _=>Qr)) bQ (nomark _)) (ax eB
   (aS eB)) bF)
   (ax (b9 (bJ gZ (bw bV (pv 1) aD (λ_ _=>Qr)) (bX (pa_cons bQ (pa_cons bQ (pa_cons bQ pa_nil)))) Qw) (aS eB) bF)
   (ax (bH (i:=4) qZ.nd rfl (aN rfl) (ba cone r6 Qr (pa_cons (pv 0) (pa_cons (pv 1) (pa_cons (pv 2) pa_nil)))))
   (aS (bC (bX (pa_cons (ba csh hr Qr (pa_cons (pv 0) (pa_cons (pv 1) (pa_cons (pv 2) (pa_cons (pv 4) pa_nil))))) (pa_cons (pv 4) pa_nil)))))))),?_⟩
  obtain⟨ws,y1,y2,ett,et,e3⟩:∃(x:Str)(y1 y2:V),H tt=some (.tup [.str x,y1,y2])/\decide (V.str x=V.str "times")=false/\jm (.str x) [.str "plus",.str "least",.str "most"]=false:=by
   cases t with
   |pr=>
    obtain⟨st,ut,ett,_,_⟩:=id te;exact⟨_,_,_,ett,Cy,Cz⟩
   |fl w' a b=>exact⟨w'.s,_,_,te,uR w',uS w'⟩
  refine⟨_,rfl,tt,_,_,.str ws,rfl,rfl,cG.of ett,rfl,rfl,_,rfl,cq et ?_⟩;refine⟨_,rfl,tt,_,_,.str ws,rfl,rfl,cG.of ett,rfl,(by show 3<=sizeLine;decide),λt3 ht3=>?_⟩;have z:=aU.new (o:=.tup [.str "plus",.str "least",.str "most"]) ht3;refine⟨t3,_,rfl,.inr (cG.of ai),rfl,rfl,_,rfl,?_⟩;generalize upd H t3 (.tup [.str "plus",.str "least",.str "most"])=H1 at z;show if(if false=true then _ else jm (.str ws) [.str "plus",.str "least",.str "most"])=true then _ else _;rw[aM aG,e3];refine dz ⟨_,rfl,_,rfl,_,rfl,p,ds,dl,tt,S,t,rfl,N.same z,te.same z,hok,okw,λl d n v H2 s2 pd n50 hd hv hm=>?_⟩;have z2:=z.trans s2;refine⟨_,rfl,_,rfl,_,rfl,_,rfl,p,ds,dl,tt,S,t,.ref l,n,d,rfl,N.same z2,te.same z2,pd,n50,hd,λH3 s3=>?_⟩;rw[hv];refine⟨_,rfl,(by show 2<=sizeLine;decide),λo ho=>?_⟩;exact q o l v _ ((z2.trans s3).trans (aU.new ho)) ai hm
theorem CL:bG ["net","term"] ["net","term"] (aA s_value_of):=⟨rfl,rfl,rfl,Qk,rfl,Qk,Qk⟩
theorem Da{f:Addr}{fd:FuncData}(F:fI K "value_of" "value_of" s_value_of f fd)(cf:dc P w K mg base 9 "find_bound" ["net","term","above"] (vH C)):FnOk P w K mg base fA 10 f fd ["net","term"] (sQ C):=by
 refine F.ok CL (λvs H Q E h=>?_) (λcdv A outer s H vs Q E hr h=>?_)
 ·obtain⟨p,ds,dl,tt,S,t,rfl,_⟩:=h;rfl
 ·obtain⟨p,ds,dl,tt,S,t,rfl,N,te,hok,okw,q⟩:=h;refine⟨_,(aS (bC (bw bV (ba cf hr Qr (pa_cons (pv 0) (pa_cons (pv 1) (pa_cons jh pa_nil)))) aD (λ_ _=>Qr)))),?_⟩;refine⟨_,rfl,_,rfl,p,ds,dl,tt,S,t,rfl,N,te,hok,okw,λo l v H1 s1 eo hm=>?_⟩;exact⟨o,_,_,.int v,rfl,rfl,cG.of eo,rfl,q v H1 s1 hm⟩
end
end Net
namespace Net
open PySem L2
theorem iw{A B:List d5}{a b a' b':aJ}{v v' c:Int}(h:cO A a b v)(h':cO B a' b' v')(f:∀p':aJ->Bool,p' a'=true->p' b'=false->∃p:aJ->Bool,p a=true/\p b=false/\d_ A p<=d_ B p'+c):v<=v'+c:=by
 obtain⟨⟨p',e1,e2,e3⟩,_⟩:=h';obtain⟨p,h1,h2,h3⟩:=f p' e1 e2;have:=h.2 p h1 h2;omega
theorem qh{A B:List d5}{a b a' b':aJ}{v v':Int}(h:cO A a b v)(h':cO B a' b' v')(f:∀p':aJ->Bool,p' a'=true->p' b'=false->∃p:aJ->Bool,p a=true/\p b=false/\d_ A p=d_ B p')(g:∀p:aJ->Bool,p a=true->p b=false->∃p':aJ->Bool,p' a'=true/\p' b'=false/\d_ B p'=d_ A p):v=v':=by
 have h1:=iw (c:=0) h h' λp' e1 e2=>let⟨p,x,y,z⟩:=f p' e1 e2;⟨p,x,y,Qo⟩;have h2:=iw (c:=0) h' h λp e1 e2=>let⟨p',x,y,z⟩:=g p e1 e2;⟨p',x,y,Qo⟩;omega
theorem sO{α:Type}{f:α->Int}:∀{l:List α},(∀x∈l,0<=f x)->0<=(l.map f).sum
 |[],_=>dX 0
 |x::l,h=>by
  rw[aF,bE];have:=h x au;have:=sO λy hy=>h y (aq _ hy);omega
theorem uE{A:List d5}{p:aJ->Bool}(h:∀r∈A,0<=r.w):0<=d_ A p:=by
 unfold d_;refine sO λr hr=>?_;split
 ·exact h r hr
 ·exact dX 0
theorem tU{A:List d5}{a b:aJ}{v:Int}(h:cO A a b v)(hw:∀r∈A,0<=r.w):0<=v:=by
 obtain⟨⟨p,_,_,e⟩,_⟩:=h;rw[<-e];exact uE hw
theorem oj(g:dw->Int)(S:NS)(p:aJ->Bool):d_ (aW g S) p=(S.ti.map λr=>if p (.inl r.a)=true/\p (.inl r.b)=false then g r else 0).sum:=by
 unfold aW;rw[fN]
theorem om(S:NS)(a b:Str)(p:aJ->Bool):d_ (aB S a b) p=(S.pl.map λx=>if p (kI x)=true/\p (kO x)=false then(1:Int)else 0).sum +(S.ti.map λr=>if p (kO r.a)=true/\p (kI r.b)=false then(if r.a=a/\r.b=b then(1:Int)else 2)else 0).sum:=by
 unfold aB;rw[gs,fN,fN];rfl
theorem Hw{S:NS}{a b:Str}:∀r∈aB S a b,0<=r.w:=λr hr=>by
 rcases aw.mp hr with hr|hr
 ·obtain⟨y,hy,rfl⟩:=aj.mp hr;show(0:Int)<=1;decide
 ·obtain⟨y,hy,rfl⟩:=aj.mp hr;show(0:Int)<=if y.a=a/\y.b=b then 1 else 2;split<;>decide
theorem uN{S:NS}{a b:aJ}{v v':Int}(hw:∀r∈S.ti,1<=r.w)(h:cO (aW (λ_=>1) S) a b v)(h':cO (aW (·.w) S) a b v'):v<=v':=by
 have:=iw (c:=0) h h' λp h1 h2=>⟨p,h1,h2,by
  rw[oj,oj,iQ];refine km λr hr=>?_;split
  ·exact hw r hr
  ·exact dX 0⟩
 omega
theorem qP{α β:Type}{f:α->β->Int}:∀{l:List α}{m:List β},(l.map λx=>(m.map λy=>f x y).sum).sum=(m.map λy=>(l.map λx=>f x y).sum).sum
 |[],m=>by
  show(0:Int)=(m.map λ_=>(0:Int)).sum;rw[gU λ_ _=>rfl]
 |x::l,m=>by
  rw[aF,bE,qP (l:=l),<-ng];exact gQ λy _=>by rw[aF,bE]
def qB(o i:Str->Bool):aJ->Bool
 |.inr [x,u]=>if u="out"then o x else i x
 |_=>false
theorem j_{o i:Str->Bool}{x:Str}:qB o i (kO x)=o x:=by
 show(if("out":Str)="out"then o x else i x)=o x;exact bc rfl
theorem ka{o i:Str->Bool}{x:Str}:qB o i (kI x)=i x:=by
 show(if("in":Str)="out"then o x else i x)=i x;exact aM Qk
def jk(S:NS)(a b:Str)(p:aJ->Bool)(x:Str):Bool:=p (.inl x)&& !decide (x=a)&&S.ti.any λr=>decide (r.a=x)&&decide (r.b=b)
def zV(S:NS)(b:Str)(p:aJ->Bool)(x:Str):Bool:=!p (.inl x)&& !decide (x=b)&&S.ti.any λr=>decide (r.b=x)&&p (.inl r.a)
def Cq(a b:Str)(r:dw):Option Str:=if r.b=b then(if r.a=a then none else some r.a)else some r.b
theorem uJ{S:NS}{a b:Str}{v v':Int}(ndP:S.pl.Nodup)(h:cO (aB S a b) (kO a) (kI b) v)(h':cO (aW (λ_=>1) S) (.inl a) (.inl b) v'):v<=v':=by
 have key:=iw (c:=0) h h' λp h1 h2=>⟨qB (λx=>p (.inl x)&& !jk S a b p x) (λx=>p (.inl x)||zV S b p x),by
  rw[j_];have:jk S a b p a=false:=by unfold jk;rw[af (rfl:a=a)];simp
  rw[this,h1];rfl,by
  rw[ka,h2];show zV S b p b=false;unfold zV;rw[af (rfl:b=b)];simp,by
  rw[om,oj,iQ];simp only[j_,ka];have e1:(S.pl.map λx=>if(p (.inl x)||zV S b p x)=true/\(p (.inl x)&& !jk S a b p x)=false then(1:Int)else 0).sum<=(S.pl.map λx=>(S.ti.map λr=>if(p (.inl r.a)=true/\p (.inl r.b)=false)/\Cq a b r=some x then(1:Int)else 0).sum).sum:=by
   refine km λx _=>?_;have nn:∀r∈S.ti,0<=(if(p (.inl r.a)=true/\p (.inl r.b)=false)/\Cq a b r=some x then(1:Int)else 0):=λr _=>by split<;>decide
   split
   ·rename_i hc;have:∃r∈S.ti,(p (.inl r.a)=true/\p (.inl r.b)=false)/\Cq a b r=some x:=by
     cases hp:p (.inl x)with
     |true=>
      have hd:jk S a b p x=true:=by
       have:=hc.2;rw[hp]at this;cases hh:jk S a b p x with
       |true=>rfl
       |false=>rw[hh]at this;cases this
      unfold jk at hd;rw[b7,b7]at hd;obtain⟨⟨_,hx⟩,ha⟩:=hd;obtain⟨r,hr,e⟩:=cD.mp ha;rw[b7]at e;have ea:r.a=x:=aK e.1;have eb:r.b=b:=aK e.2;have hxa:¬x=a:=λz=>by rw[af z]at hx;cases hx
      refine⟨r,hr,⟨by rw[ea];exact hp,by rw[eb];exact h2⟩,?_⟩;unfold Cq;rw[bc eb,aM (by rw[ea];exact hxa),ea]
     |false=>
      have hd:zV S b p x=true:=by
       have:=hc.1;rw[hp]at this;exact this
      unfold zV at hd;rw[b7,b7]at hd;obtain⟨⟨_,hx⟩,ha⟩:=hd;obtain⟨r,hr,e⟩:=cD.mp ha;rw[b7]at e;have eb:r.b=x:=aK e.1;have hxb:¬x=b:=λz=>by rw[af z]at hx;cases hx
      refine⟨r,hr,⟨e.2,by rw[eb];exact hp⟩,?_⟩;unfold Cq;rw[aM (by rw[eb];exact hxb),eb]
    obtain⟨r,hr,hc2⟩:=this;have:=qQ nn hr;rw[bc hc2]at this;exact this
   ·exact sO nn
  rw[qP]at e1;have e2:(S.ti.map λr=>(S.pl.map λx=>if(p (.inl r.a)=true/\p (.inl r.b)=false)/\Cq a b r=some x then(1:Int)else 0).sum +(if(p (.inl r.a)&& !jk S a b p r.a)=true/\(p (.inl r.b)||zV S b p r.b)=false then(if r.a=a/\r.b=b then(1:Int)else 2)else 0)).sum<=(S.ti.map λr=>if p (.inl r.a)=true/\p (.inl r.b)=false then(1:Int)else 0).sum:=by
   refine km λr hr=>?_;by_cases hc:p (.inl r.a)=true/\p (.inl r.b)=false
   ·rw[bc hc];cases eg:Cq a b r with
    |none=>
     have hab:r.a=a/\r.b=b:=by
      unfold Cq at eg;by_cases hb:r.b=b
      ·rw[bc hb]at eg;by_cases ha:r.a=a
       ·exact⟨ha,hb⟩
       ·rw[aM ha]at eg;cases eg
      ·rw[aM hb]at eg;cases eg
     have z:(S.pl.map λx=>if(p (.inl r.a)=true/\p (.inl r.b)=false)/\(none:Option Str)=some x then(1:Int)else 0).sum=0:=gU λx _=>aM λz=>nomatch z.2;rw[z,bc hab];split<;>decide
    |some y=>
     have z:(S.pl.map λx=>if(p (.inl r.a)=true/\p (.inl r.b)=false)/\(some y:Option Str)=some x then(1:Int)else 0).sum<=1:=by
      have e:(S.pl.map λx=>if(p (.inl r.a)=true/\p (.inl r.b)=false)/\(some y:Option Str)=some x then(1:Int)else 0).sum=(S.pl.map λx=>if y=x then(1:Int)else 0).sum:=gQ λx _=>by
       by_cases hy:y=x
       ·rw[bc hy,bc ⟨hc,by rw[hy]⟩]
       ·rw[aM hy,aM λz=>hy (Option.some.inj z.2)]
      rw[e];rcases jW (t:=1) (y:=y) ndP with⟨e,_⟩|⟨e,_⟩<;>rw[e]<;>decide
     have z2:¬((p (.inl r.a)&& !jk S a b p r.a)=true/\(p (.inl r.b)||zV S b p r.b)=false):=λ⟨k1,k2⟩=>by
      by_cases hb:r.b=b
      ·by_cases ha:r.a=a
       ·unfold Cq at eg;rw[bc hb,bc ha]at eg;cases eg
       ·have:jk S a b p r.a=true:=by
         unfold jk;rw[hc.1,am ha,cD.mpr ⟨r,hr,by rw[af (rfl:r.a=r.a),af hb];rfl⟩];rfl
        rw[this,hc.1]at k1;cases k1
      ·have:zV S b p r.b=true:=by
        unfold zV;rw[hc.2,am hb,cD.mpr ⟨r,hr,by rw[af (rfl:r.b=r.b),hc.1];rfl⟩];rfl
       rw[this,hc.2]at k2;cases k2
     rw[aM z2];omega
   ·rw[aM hc];have z:(S.pl.map λx=>if(p (.inl r.a)=true/\p (.inl r.b)=false)/\Cq a b r=some x then(1:Int)else 0).sum=0:=gU λx _=>aM λz=>hc z.1;have z2:¬((p (.inl r.a)&& !jk S a b p r.a)=true/\(p (.inl r.b)||zV S b p r.b)=false):=λ⟨k1,k2⟩=>hc ⟨(dj.mp k1).1,(DY.mp k2).1⟩;rw[z,aM z2];decide
  rw[ng]at e2;omega⟩
 omega
def jx(r:dw):dw:={r with a:=r.b,b:=r.a}
theorem qN{g:dw->Int}{S S':NS}{a b:aJ}{v v':Int}(hg:∀r,g (jx r)=g r)(ht:S'.ti=S.ti.map jx)(h:cO (aW g S) a b v)(h':cO (aW g S') b a v'):v=v':=by
 have e:∀p:aJ->Bool,d_ (aW g S') p=d_ (aW g S) λk=>!p k:=λp=>by
  rw[oj,oj,ht,bm];refine gQ λr _=>?_;show(if p (.inl r.b)=true/\p (.inl r.a)=false then g (jx r)else 0)=if(!p (.inl r.a))=true/\(!p (.inl r.b))=false then g r else 0;rw[hg];cases p (.inl r.a)<;>cases p (.inl r.b)<;>rfl
 refine qh h h' (λp' h1 h2=>⟨λk=>!p' k,by show(!p' a)=true;rw[h2];rfl,by show(!p' b)=false;rw[h1];rfl,(e p').symm⟩) λp h1 h2=>⟨λk=>!p k,by show(!p b)=true;rw[h2];rfl,by show(!p a)=false;rw[h1];rfl,?_⟩;rw[e];simp only[Cp]
theorem w_{S S':NS}{a b:Str}{v v':Int}(hp:S'.pl=S.pl)(ht:S'.ti=S.ti.map jx)(h:cO (aB S a b) (kO a) (kI b) v)(h':cO (aB S' b a) (kO b) (kI a) v'):v=v':=by
 have e:∀p p':aJ->Bool,(∀x,p (kO x)=!p' (kI x))->(∀x,p (kI x)=!p' (kO x))->d_ (aB S a b) p=d_ (aB S' b a) p':=λp p' ho hi=>by
  rw[om,om,hp,ht,bm];congr 1
  ·refine gQ λx _=>?_;rw[ho,hi];cases p' (kO x)<;>cases p' (kI x)<;>rfl
  ·refine gQ λr _=>?_;show(if p (kO r.a)=true/\p (kI r.b)=false then(if r.a=a/\r.b=b then(1:Int)else 2)else 0)=if p' (kO r.b)=true/\p' (kI r.a)=false then(if r.b=b/\r.a=a then(1:Int)else 2)else 0;rw[ho,hi];have:(if r.a=a/\r.b=b then(1:Int)else 2)=if r.b=b/\r.a=a then(1:Int)else 2:=by
    by_cases hc:r.a=a/\r.b=b
    ·rw[bc hc,bc ⟨hc.2,hc.1⟩]
    ·rw[aM hc,aM λz=>hc ⟨z.2,z.1⟩]
   rw[this];cases p' (kI r.a)<;>cases p' (kO r.b)<;>rfl
 refine qh h h' (λp' h1 h2=>⟨qB (λx=>!p' (kI x)) (λx=>!p' (kO x)),by rw[j_,h2];rfl,by rw[ka,h1];rfl,e _ _ (λ_=>j_) λ_=>ka⟩) λp h1 h2=>⟨qB (λx=>!p (kI x)) (λx=>!p (kO x)),by rw[j_,h2];rfl,by rw[ka,h1];rfl,(e _ _ (λx=>?_) λx=>?_).symm⟩
 ·rw[ka,Cp]
 ·rw[j_,Cp]
def md(k:Int)(r:dw):dw:={r with w:=r.w*k}
theorem wW{k:Int}{S S':NS}{a b:aJ}{v v':Int}(hk:0<=k)(ht:S'.ti=S.ti.map (md k))(h:cO (aW (·.w) S) a b v)(h':cO (aW (·.w) S') a b v'):v'=v*k:=by
 have e:∀p:aJ->Bool,d_ (aW (·.w) S') p=d_ (aW (·.w) S) p*k:=λp=>by
  rw[oj,oj,ht,bm];generalize S.ti=l;induction l with
  |nil=>show(0:Int)=0*k;rw[Co]
  |cons r l ih=>
   rw[aF,aF,bE,bE,ih,Int.add_mul];congr 1;show(if p (.inl r.a)=true/\p (.inl r.b)=false then r.w*k else 0)=(if p (.inl r.a)=true/\p (.inl r.b)=false then r.w else 0)*k;split
   ·rfl
   ·rw[Co]
 refine h'.one ⟨?_,λp h1 h2=>?_⟩
 ·obtain⟨⟨p,h1,h2,h3⟩,_⟩:=h;exact⟨p,h1,h2,by rw[e,h3]⟩
 ·rw[e];exact Int.mul_le_mul_of_nonneg_right (h.2 p h1 h2) hk
theorem zS{k:Int}{S S':NS}(ht:S'.ti=S.ti.map (md k)):aW (λ_=>1) S'=aW (λ_=>1) S:=by
 unfold aW;rw[ht,bm];rfl
theorem wX{k:Int}{S S':NS}{a b:Str}(hp:S'.pl=S.pl)(ht:S'.ti=S.ti.map (md k)):aB S' a b=aB S a b:=by
 unfold aB;rw[hp,ht,bm];rfl
end Net
namespace Net
open PySem L2
structure sn(S S':NS)(told:Str->Str):Prop where
 inj:∀x∈S.pl,∀y∈S.pl,told x=told y->x=y
 tis:∀f:Str->Str->Int->Int,(S'.ti.map λr=>f r.a r.b r.w).sum=(S.ti.map λr=>f (told r.a) (told r.b) r.w).sum
 pls:∀f:Str->Int,(S'.pl.map f).sum=(S.pl.map λx=>f (told x)).sum
def mz(S:NS)(told:Str->Str)(y:Str):Str:=(S.pl.find? λx=>decide (told x=y)).getD ""
theorem sn.back{S S':NS}{told:Str->Str}(h:sn S S' told){x:Str}(hx:x∈S.pl):mz S told (told x)=x:=by
 unfold mz;cases e:S.pl.find? λz=>decide (told z=told x)with
 |none=>exact absurd (af rfl) (gv.mp e x hx)
 |some z=>
  have hz:=List.find?_some (p:=λz=>decide (told z=told x)) e;exact h.inj z (wV e) x hx (aK hz)
def qT(o:Str->Bool):aJ->Bool
 |.inl x=>o x
 |.inr _=>false
theorem vO{g:Int->Int}{S S':NS}{told:Str->Str}{a b:Str}{v v':Int}(R:sn S S' told)(okT:∀r∈S.ti,r.a∈S.pl/\r.b∈S.pl)(ha:a∈S.pl)(hb:b∈S.pl)(h:cO (aW (λr=>g r.w) S) (.inl a) (.inl b) v)(h':cO (aW (λr=>g r.w) S') (.inl (told a)) (.inl (told b)) v'):v=v':=by
 have e:∀p p':aJ->Bool,(∀x∈S.pl,p (.inl x)=p' (.inl (told x)))->d_ (aW (λr=>g r.w) S) p=d_ (aW (λr=>g r.w) S') p':=λp p' hp=>by
  rw[oj,oj,R.tis λx y w=>if p' (.inl x)=true/\p' (.inl y)=false then g w else 0];exact gQ λr hr=>by rw[hp _ (okT r hr).1,hp _ (okT r hr).2]
 refine qh h h' (λp' h1 h2=>⟨qT λx=>p' (.inl (told x)),h1,h2,e _ _ λ_ _=>rfl⟩) λp h1 h2=>⟨qT λy=>p (.inl (mz S told y)),?_,?_,(e _ _ λx hx=>?_).symm⟩
 ·show p (.inl (mz S told (told a)))=true;rw[R.back ha];exact h1
 ·show p (.inl (mz S told (told b)))=false;rw[R.back hb];exact h2
 ·show _=p (.inl (mz S told (told x)));rw[R.back hx]
theorem AG{S S':NS}{told:Str->Str}{a b:Str}{v v':Int}(R:sn S S' told)(okT:∀r∈S.ti,r.a∈S.pl/\r.b∈S.pl)(ha:a∈S.pl)(hb:b∈S.pl)(h:cO (aB S a b) (kO a) (kI b) v)(h':cO (aB S' (told a) (told b)) (kO (told a)) (kI (told b)) v'):v=v':=by
 have e:∀p p':aJ->Bool,(∀x∈S.pl,p (kO x)=p' (kO (told x)))->(∀x∈S.pl,p (kI x)=p' (kI (told x)))->d_ (aB S a b) p=d_ (aB S' (told a) (told b)) p':=λp p' ho hi=>by
  rw[om,om,R.tis λx y _=>if p' (kO x)=true/\p' (kI y)=false then(if x=told a/\y=told b then(1:Int)else 2)else 0,R.pls λx=>if p' (kI x)=true/\p' (kO x)=false then(1:Int)else 0];congr 1
  ·exact gQ λx hx=>by rw[ho x hx,hi x hx]
  ·refine gQ λr hr=>?_;obtain⟨h1,h2⟩:=okT r hr;have:(if r.a=a/\r.b=b then(1:Int)else 2)=if told r.a=told a/\told r.b=told b then(1:Int)else 2:=by
    by_cases hc:r.a=a/\r.b=b
    ·rw[bc hc,bc ⟨by rw[hc.1],by rw[hc.2]⟩]
    ·rw[aM hc,aM λz=>hc ⟨R.inj _ h1 _ ha z.1,R.inj _ h2 _ hb z.2⟩]
   rw[ho _ h1,hi _ h2,this]
 refine qh h h' (λp' h1 h2=>⟨qB (λx=>p' (kO (told x))) (λx=>p' (kI (told x))),by rw[j_];exact h1,by rw[ka];exact h2,e _ _ (λ_ _=>j_) λ_ _=>ka⟩) λp h1 h2=>⟨qB (λy=>p (kO (mz S told y))) (λy=>p (kI (mz S told y))),?_,?_,(e _ _ (λx hx=>?_) λx hx=>?_).symm⟩
 ·rw[j_,R.back ha];exact h1
 ·rw[ka,R.back hb];exact h2
 ·rw[j_,R.back hx]
 ·rw[ka,R.back hx]
theorem rn{g:dw->Int}{S S':NS}{r0:dw}{a b:aJ}{v v':Int}(ht:S'.ti=S.ti++[r0])(h0:0<=g r0)(h:cO (aW g S) a b v)(h':cO (aW g S') a b v'):v<=v'/\v'<=v+g r0:=by
 have e:∀p:aJ->Bool,d_ (aW g S') p=d_ (aW g S) p+if p (.inl r0.a)=true/\p (.inl r0.b)=false then g r0 else 0:=λp=>by
  rw[oj,oj,ht,ah,iA];congr 1;exact iQ _
 have h1:=iw (c:=0) h h' λp k1 k2=>⟨p,k1,k2,by rw[e];split<;>omega⟩;have h2:=iw (c:=g r0) h' h λp k1 k2=>⟨p,k1,k2,by rw[e];split<;>omega⟩;omega
theorem pT{f f':Str->Int}{y:Str}{pl:List Str}(nd:pl.Nodup)(h:∀x∈pl,f' x<=f x+if y=x then 1 else 0):(pl.map f').sum<=(pl.map f).sum +1:=by
 have h1:=km h;rw[ng]at h1;rcases jW (t:=1) (y:=y) nd with⟨e,_⟩|⟨e,_⟩<;>rw[e]at h1<;>omega
theorem x_{S S':NS}{r0:dw}{a b:Str}{v v':Int}(ndP:S.pl.Nodup)(hp:S'.pl=S.pl)(ht:S'.ti=S.ti++[r0])(h:cO (aB S a b) (kO a) (kI b) v)(h':cO (aB S' a b) (kO a) (kI b) v'):v<=v'/\v'<=v+1:=by
 have e:∀p:aJ->Bool,d_ (aB S' a b) p=d_ (aB S a b) p+if p (kO r0.a)=true/\p (kI r0.b)=false then(if r0.a=a/\r0.b=b then(1:Int)else 2)else 0:=λp=>by
  rw[om,om,hp,ht,ah,iA,<-Int.add_assoc];congr 1;exact iQ _
 have h1:=iw (c:=0) h h' λp k1 k2=>⟨p,k1,k2,by
  rw[e];split
  ·split<;>omega
  ·omega⟩
 have h2:=iw (c:=1) h' h λp k1 k2=>by
  by_cases hc:p (kO r0.a)=true/\p (kI r0.b)=false
  ·by_cases hab:r0.a=a/\r0.b=b
   ·exact⟨p,k1,k2,by rw[e,bc hc,bc hab];omega⟩
   ·by_cases ha:r0.a=a
    ·have hb:¬b=r0.b:=λz=>hab ⟨ha,z.symm⟩;refine⟨qB (λx=>p (kO x)) (λx=>p (kI x)||decide (x=r0.b)),by rw[j_];exact k1,by rw[ka,k2,am hb];rfl,?_⟩;rw[e,j_,ka,af (rfl:r0.b=r0.b),Bool.or_true,aM (λz=>nomatch z.2),om,om];simp only[j_,ka];have s1:(S.pl.map λx=>if(p (kI x)||decide (x=r0.b))=true/\p (kO x)=false then(1:Int)else 0).sum<=(S.pl.map λx=>if p (kI x)=true/\p (kO x)=false then(1:Int)else 0).sum +1:=pT (y:=r0.b) ndP λx _=>by
      by_cases hx:r0.b=x
      ·rw[bc hx];split<;>split<;>decide
      ·rw[aM hx,am (λz=>hx z.symm),Bool.or_false];omega
     have s2:(S.ti.map λr=>if p (kO r.a)=true/\(p (kI r.b)||decide (r.b=r0.b))=false then(if r.a=a/\r.b=b then(1:Int)else 2)else 0).sum<=(S.ti.map λr=>if p (kO r.a)=true/\p (kI r.b)=false then(if r.a=a/\r.b=b then(1:Int)else 2)else 0).sum:=km λr _=>by
      by_cases hz:p (kO r.a)=true/\(p (kI r.b)||decide (r.b=r0.b))=false
      ·have hz':p (kO r.a)=true/\p (kI r.b)=false:=⟨hz.1,(DY.mp hz.2).1⟩;rw[bc hz,bc hz'];exact dX _
      ·rw[aM hz];split
       ·split<;>decide
       ·decide
     omega
    ·have ha':¬a=r0.a:=λz=>ha z.symm;refine⟨qB (λx=>p (kO x)&& !decide (x=r0.a)) (λx=>p (kI x)),by rw[j_,k1,am ha'];rfl,by rw[ka];exact k2,?_⟩;rw[e,j_,ka,af (rfl:r0.a=r0.a),jU,l_,aM (λz=>nomatch z.1),om,om];simp only[j_,ka];have s1:(S.pl.map λx=>if p (kI x)=true/\(p (kO x)&& !decide (x=r0.a))=false then(1:Int)else 0).sum<=(S.pl.map λx=>if p (kI x)=true/\p (kO x)=false then(1:Int)else 0).sum +1:=pT (y:=r0.a) ndP λx _=>by
      by_cases hx:r0.a=x
      ·rw[bc hx];split<;>split<;>decide
      ·rw[aM hx,am (λz=>hx z.symm),Bool.not_false,zL];omega
     have s2:(S.ti.map λr=>if(p (kO r.a)&& !decide (r.a=r0.a))=true/\p (kI r.b)=false then(if r.a=a/\r.b=b then(1:Int)else 2)else 0).sum<=(S.ti.map λr=>if p (kO r.a)=true/\p (kI r.b)=false then(if r.a=a/\r.b=b then(1:Int)else 2)else 0).sum:=km λr _=>by
      by_cases hz:(p (kO r.a)&& !decide (r.a=r0.a))=true/\p (kI r.b)=false
      ·have hz':p (kO r.a)=true/\p (kI r.b)=false:=⟨(dj.mp hz.1).1,hz.2⟩;rw[bc hz,bc hz'];exact dX _
      ·rw[aM hz];split
       ·split<;>decide
       ·decide
     omega
  ·exact⟨p,k1,k2,by rw[e,aM hc];omega⟩
 omega
theorem DF(S:NS)(p:aJ->Bool):d_ (aP S S.pl S.pl) p=(S.pl.map λx=>if p kF=true/\p (kB x)=false then(1:Int)else 0).sum +(S.ti.map λr=>if p (kB r.a)=true/\p (kE r.b)=false then(2:Int)else 0).sum +(S.pl.map λx=>if p (kE x)=true/\p kL=false then(1:Int)else 0).sum:=by
 unfold aP;rw[gs,gs,fN,fN,fN];rfl
theorem tS{S S':NS}{r0:dw}{v v':Int}(ndP:S.pl.Nodup)(hp:S'.pl=S.pl)(ht:S'.ti=S.ti++[r0])(h:cO (aP S S.pl S.pl) kF kL v)(h':cO (aP S' S'.pl S'.pl) kF kL v'):v<=v'/\v'<=v+1:=by
 have e:∀p:aJ->Bool,d_ (aP S' S'.pl S'.pl) p=d_ (aP S S.pl S.pl) p+if p (kB r0.a)=true/\p (kE r0.b)=false then 2 else 0:=λp=>by
  rw[DF,DF,hp,ht,ah,iA];have:([r0].map λr=>if p (kB r.a)=true/\p (kE r.b)=false then(2:Int)else 0).sum=if p (kB r0.a)=true/\p (kE r0.b)=false then 2 else 0:=iQ _;rw[this];omega
 have h1:=iw (c:=0) h h' λp k1 k2=>⟨p,k1,k2,by rw[e];split<;>omega⟩;have h2:=iw (c:=1) h' h λp k1 k2=>by
  by_cases hc:p (kB r0.a)=true/\p (kE r0.b)=false
  ·have qk:∀k:aJ,¬k=kB r0.a->(p k&& !decide (k=kB r0.a))=p k:=λk hk=>by rw[am hk,Bool.not_false,zL]
   refine⟨λk=>p k&& !decide (k=kB r0.a),(qk _ BJ).trans k1,(qk _ BH).trans k2,?_⟩;rw[e];have z:¬((p (kB r0.a)&& !decide (kB r0.a=kB r0.a))=true/\(p (kE r0.b)&& !decide (kE r0.b=kB r0.a))=false):=λz=>by
    have:=z.1;rw[af (rfl:kB r0.a=kB r0.a),jU,l_]at this;cases this
   rw[aM z,DF,DF];have s1:(S.pl.map λx=>if(p kF&& !decide (kF=kB r0.a))=true/\(p (kB x)&& !decide (kB x=kB r0.a))=false then(1:Int)else 0).sum<=(S.pl.map λx=>if p kF=true/\p (kB x)=false then(1:Int)else 0).sum +1:=pT (y:=r0.a) ndP λx _=>by
    by_cases hx:r0.a=x
    ·rw[bc hx];split<;>split<;>decide
    ·rw[aM hx,qk _ BJ,qk _ λz=>hx (jK z).1.symm];by_cases hq:p kF=true/\p (kB x)=false
     ·rw[bc hq];decide
     ·rw[aM hq];decide
   have s2:(S.ti.map λr=>if(p (kB r.a)&& !decide (kB r.a=kB r0.a))=true/\(p (kE r.b)&& !decide (kE r.b=kB r0.a))=false then(2:Int)else 0).sum<=(S.ti.map λr=>if p (kB r.a)=true/\p (kE r.b)=false then(2:Int)else 0).sum:=km λr _=>by
    rw[qk _ wI];by_cases hz:(p (kB r.a)&& !decide (kB r.a=kB r0.a))=true/\p (kE r.b)=false
    ·rw[bc hz,bc ⟨(dj.mp hz.1).1,hz.2⟩];exact dX _
    ·rw[aM hz];split<;>decide
   have s3:(S.pl.map λx=>if(p (kE x)&& !decide (kE x=kB r0.a))=true/\(p kL&& !decide (kL=kB r0.a))=false then(1:Int)else 0).sum=(S.pl.map λx=>if p (kE x)=true/\p kL=false then(1:Int)else 0).sum:=gQ λx _=>by rw[qk _ wI,qk _ BH]
   rw[iQ];exact iP (Int.add_le_add (Int.add_le_add s1 s2) (Int.le_of_eq s3)) Qo
  ·exact⟨p,k1,k2,by rw[e,aM hc];omega⟩
 omega
end Net
namespace Net
open PySem L2
def Ai:Sp:=λvs H Q _=>∃x v y:Int,vs=[.int x,.int v,.int y]/\Q (.bl (decide (x<=v)&&decide (v<=y))) H
def w3:Nat->W3
 |0=>.flow
 |1=>.apart
 |_=>.bare
def gf(S:NS)(a b:Str)(v0 v1 v2:Int):Prop:=(T4.fl .flow a b).min S v0/\(T4.fl .apart a b).min S v1/\(T4.fl .bare a b).min S v2
def uZ(C:Addr):Sp:=λvs H Q _=>∃(p ds dl:Addr)(S:NS)(a b:Str),vs=[.ref p,.str a,.str b]/\fW C H p ds dl S/\a∈S.pl/\b∈S.pl/\(∀r∈S.ti,0<=r.w)/\
 ∀(l:Addr)(v0 v1 v2:Int)(H':Hp),aU H H'->H' l=some (.lst [.int v0,.int v1,.int v2])->gf S a b v0 v1 v2->Q (.ref l) H'
section
variable{P:Program}{w:World}{K:ag}{mg:Str->Option Value}{base:Heap}{C:Addr}
theorem Ax:bG ["_law_least","_law_value","_law_most"] ["_law_least","_law_value","_law_most"] (aA s_l_between):=⟨rfl,rfl,rfl,Qk,rfl,Qk,Qk⟩
theorem Bg{f:Addr}{fd:FuncData}(F:fI K "_law_between" "_law_between" s_l_between f fd)(T:fo K mg C):FnOk P w K mg base fA 1 f fd ["_law_least","_law_value","_law_most"] Ai:=by
 refine F.ok Ax (λvs H Q E h=>?_) (λcdv A outer s H vs Q E hr h=>?_)
 ·obtain⟨x,v,y,rfl,_⟩:=h;rfl
 ·obtain⟨x,v,y,rfl,q⟩:=h;refine⟨_,(aS (bC (iV (pe_callB fj Qr T.isi ou (pa_cons (pv 1) (pa_cons (nE T.int Qr Eh) pa_nil))) (iV (AQ (pe_callB fj Qr T.isi ou (pa_cons (pv 1) (pa_cons (nE T.bool Qr B7) pa_nil)))) (iV (dJ vY (pv 0) (pv 1) (nomark _)) (iU (dJ vY (pv 1) (pv 2) (nomark _)))))))),?_⟩;refine⟨_,rfl,_,"int",_,true,rfl,.int v,rfl,true,rfl,dv ⟨_,rfl,_,"bool",_,false,rfl,.int v,T.kIB,false,rfl,true,rfl,dv ⟨_,rfl,_,rfl,_,_,rfl,rfl,_,rfl,?_⟩⟩⟩;by_cases h1:x<=v
  ·rw[af h1]at q;refine dH (af h1) ⟨_,rfl,_,rfl,_,_,rfl,rfl,?_⟩;rw[jT]at q;exact q
  ·rw[am h1,lZ]at q;exact cq (am h1) q
theorem sU:bG ["_law_net_here","_law_a","_law_b"] ["_law_net_here","_law_a","_law_b"] (aA s_l_three):=⟨rfl,rfl,rfl,Qk,rfl,Qk,Qk⟩
theorem tE{f:Addr}{fd:FuncData}(F:fI K "_law_three" "_law_three" s_l_three f fd)(cv:dc P w K mg base 10 "value_of" ["net","term"] (sQ C)):FnOk P w K mg base fA 11 f fd ["_law_net_here","_law_a","_law_b"] (uZ C):=by
 refine F.ok sU (λvs H Q E h=>?_) (λcdv A outer s H vs Q E hr h=>?_)
 ·obtain⟨p,ds,dl,S,a,b,rfl,_⟩:=h;rfl
 ·obtain⟨p,ds,dl,S,a,b,rfl,N,ha,hb,okw,q⟩:=h;have nd_0:List.Nodup (["_law_word","_law_a","_law_b","_law_net_here"]:List Str):=Qk;refine⟨_,(aS (bC (cW (N:=["_law_word","_law_a","_law_b","_law_net_here"]) (xs:=1) (js:=[1,2,0]) rfl (bt rfl) (bU (dC (pa_cons bQ (pa_cons bQ (pa_cons bQ pa_nil))))) (λ_ _ _ _=>be (i:=0) nd_0 rfl (aN rfl)) (λ_ _ _ _=>cV) (λ_ _ _ _=>ba cv hr Qr (pa_cons (pv 3) (pa_cons (bX (pa_cons (pv 0) (pa_cons (pv 1) (pa_cons (pv 2) pa_nil)))) pa_nil)))))),?_⟩;refine⟨(by show 3<=sizeLine;decide),λwl hwl=>?_⟩;have s1:=aU.new (o:=.lst [.str "flow",.str "apart",.str "bare"]) hwl;have e1:(upd H wl (.lst [.str "flow",.str "apart",.str "bare"])) wl=some (.lst [.str "flow",.str "apart",.str "bare"]):=ai;generalize upd H wl (.lst [.str "flow",.str "apart",.str "bare"])=H1 at s1 e1;refine⟨wl,rfl,⟨_,SqL.of e1⟩,bW (K:=K) (ys:=[.str "flow",.str "apart",.str "bare"]) (λi acc σ' H'=>aU H1 H'/\(∃vs:List Int,acc=vs.map V.int/\vs.length=i/\∀j v,vs[j]?=some v->(T4.fl (w3 j) a b).min S v)/\∃o,σ'=[o,some (.str a),some (.str b),some (.ref p)])
   ⟨aU.refl _,⟨[],rfl,rfl,λj v h=>nomatch h⟩,none,rfl⟩ (λi acc σ' H' h=>?_) (by show 3<=sizeLine;decide) (λi acc σ' H' _ h=>SqL.of (h.1 _ _ e1)) (λi x acc σ' H' hx h=>?_) (λacc σ' H' h l hl=>?_)⟩
  ·obtain⟨_,⟨vs,rfl,e,_⟩,_⟩:=h;rw[ae,e];exact aY _
  ·obtain⟨s2,⟨vs,rfl,ev,hv⟩,o,rfl⟩:=h;have hi:x=.str (w3 i).s:=by
    match i,hx with
    |0,hx=>exact(Option.some.inj hx).symm
    |1,hx=>exact(Option.some.inj hx).symm
    |2,hx=>exact(Option.some.inj hx).symm
    |n+3,hx=>exact absurd hx Qs
   subst hi;refine⟨_,rfl,_,rfl,_,rfl,_,rfl,(by show 3<=sizeLine;decide),λt ht=>?_⟩;have z:=s2.trans (aU.new (o:=.tup [.str (w3 i).s,.str a,.str b]) ht);refine⟨p,ds,dl,t,S,.fl (w3 i) a b,rfl,N.same (s1.trans z),ai,⟨ha,hb⟩,okw,λv H2 s3 hm=>?_⟩;refine⟨z.trans s3,⟨vs++[v],by rw[ah];rfl,by rw[aI,ev];rfl,λj v' hj=>?_⟩,_,rfl⟩;by_cases hlt:j<vs.length
   ·rw[jp hlt]at hj;exact hv j v' hj
   ·rw[fR Qo]at hj;cases hk:j-vs.length with
    |zero=>
     rw[hk]at hj;have:j=i:=Qo;rw[this];cases hj;exact hm
    |succ k=>rw[hk]at hj;cases hj
  ·obtain⟨s2,⟨vs,rfl,ev,hv⟩,o,rfl⟩:=h;have z:=s2.trans (aU.new (o:=.lst (vs.map V.int)) hl)
   match vs,ev with
   |[v0,v1,v2],_=>exact q l v0 v1 v2 _ (s1.trans z) ai ⟨hv 0 v0 rfl,hv 1 v1 rfl,hv 2 v2 rfl⟩
end
end Net
namespace Net
open PySem L2
theorem vT{α:Type}{f:α->Int}{l m:List α}(h:l.Perm m):(l.map f).sum=(m.map f).sum:=by
 induction h with
 |nil=>rfl
 |cons x _ ih=>rw[aF,aF,bE,bE,ih]
 |swap x y l=>rw[aF,aF,aF,aF,bE,bE,bE,bE];omega
 |trans _ _ h1 h2=>rw[h1,h2]
theorem Bs:∀{l m:List Str},l.Nodup->m.Nodup->(∀x,x∈l↔x∈m)->l.Perm m
 |[],m,_,_,h=>by
  cases m with
  |nil=>exact .nil
  |cons y m=>exact absurd ((h y).mpr au) (λz=>nomatch z)
 |x::l,m,nl,nm,h=>by
  have hx:x∈m:=(h x).mp au;refine .trans (.cons x (Bs (m:=m.erase x) (bM.mp nl).2 (nm.sublist List.erase_sublist) λy=>?_)) (List.perm_cons_erase hx).symm;rw[nm.mem_erase_iff];constructor
  ·intro hy;exact⟨λe=>(bM.mp nl).1 (by rw[<-e];exact hy),(h y).mp (aq _ hy)⟩
  ·intro⟨h1,h2⟩;rcases bd.mp ((h y).mpr h2)with e|e
   ·exact absurd e h1
   ·exact e
def zN:List Str:=["zq","zww","zqqq","zwwww","zqqqqq","zwwwwww"]
def tN:List Str:=["t","tt","ttt","tttt","ttttt","tttttt","ttttttt","tttttttt","ttttttttt","tttttttttt"]
theorem zQ:zN.Nodup:=Qk
theorem FH:tN.Nodup:=Qk
theorem Fy:∀x∈zN,cE x=true:=Qk
theorem FG:∀x∈tN,cE x=true:=Qk
def iR(n:Nat)(t:Int)(k:Nat):Nat:=(((k:Int)+t)%(n:Int)).toNat
theorem p7{n:Nat}(h:1<=n)(t:Int)(k:Nat):iR n t k<n:=by
 unfold iR;have h1:=cK ((k:Int)+t) (by omega:(n:Int)≠0);have h2:=dh ((k:Int)+t) (by omega:(0:Int)<n);omega
theorem CT{n:Nat}(h:n<=6){t:Int}{k j:Nat}(hk:k<n)(hj:j<n)(e:iR n t k=iR n t j):k=j:=by
 unfold iR at e;have hn:n=1\/n=2\/n=3\/n=4\/n=5\/n=6:=Qo;rcases hn with rfl|rfl|rfl|rfl|rfl|rfl<;>omega
theorem AE{n:Nat}(h:n<=6)(t:Int){i:Nat}(hi:i<n):∃k,k<n/\iR n t k=i:=by
 have hn:n=1\/n=2\/n=3\/n=4\/n=5\/n=6:=Qo;refine⟨(((i:Int)-t)%(n:Int)).toNat,?_,?_⟩
 ·rcases hn with rfl|rfl|rfl|rfl|rfl|rfl<;>omega
 ·unfold iR;rcases hn with rfl|rfl|rfl|rfl|rfl|rfl<;>omega
def gO(S:NS)(t:Int):List (Str×Str):=S.pl.zipIdx.map λq=>(q.1,zN.getD (iR S.pl.length t q.2) "")
def told(S:NS)(t:Int)(x:Str):Str:=(((gO S t).find? λq=>decide (q.1=x)).map (·.2)).getD ""
theorem mQ{S:NS}{t:Int}(nd:S.pl.Nodup){k:Nat}{x:Str}(h:S.pl[k]?=some x):told S t x=zN.getD (iR S.pl.length t k) "":=by
 have hm:(x,zN.getD (iR S.pl.length t k) "")∈gO S t:=aj.mpr ⟨(x,k),List.mk_mem_zipIdx_iff_getElem?.mpr h,rfl⟩;unfold told;cases e:(gO S t).find? λq=>decide (q.1=x)with
 |none=>exact absurd (af rfl) (gv.mp e _ hm)
 |some q=>
  have hq:=List.find?_some (p:=λq:Str×Str=>decide (q.1=x)) e;have hq1:q.1=x:=aK hq;obtain⟨⟨y,j⟩,hj,e2⟩:=aj.mp (wV e);have hj':S.pl[j]?=some y:=List.mk_mem_zipIdx_iff_getElem?.mp hj;have ey:y=x:=by rw[<-hq1,<-e2]
  have ek:j=k:=by
   rw[ey]at hj';have l1:=(bj.mp hj').1;have l2:=(bj.mp h).1;exact(oX l1 nd).mp (hj'.trans h.symm)
  show q.2=_;rw[<-e2,<-ek]
theorem Et{i j:Nat}(hi:i<6)(hj:j<6)(e:zN.getD i ""=zN.getD j ""):i=j:=by
 have hi':i<zN.length:=hi;have hj':j<zN.length:=hj;rw[cz,cz,a_ hi',a_ hj']at e;exact(oX hi' zQ).mp (by rw[a_ hi',a_ hj'];exact b6 some e)
theorem m9{S:NS}{t:Int}(nd:S.pl.Nodup)(h6:S.pl.length<=6):∀x∈S.pl,∀y∈S.pl,told S t x=told S t y->x=y:=λx hx y hy e=>by
 obtain⟨k,hk⟩:=eO hx;obtain⟨j,hj⟩:=eO hy;have lk:=(bj.mp hk).1;have lj:=(bj.mp hj).1;rw[mQ nd hk,mQ nd hj]at e;have r1:=p7 (n:=S.pl.length) Qo t k;have r2:=p7 (n:=S.pl.length) Qo t j;have:=CT h6 lk lj (Et Qo Qo e);rw[this,hj]at hk;exact(Option.some.inj hk).symm
theorem xA{S:NS}{t:Int}(nd:S.pl.Nodup)(h6:S.pl.length<=6):(zN.take S.pl.length).Perm (S.pl.map (told S t)):=by
 refine Bs (zQ.sublist (gH _ _)) ?_ λz=>?_
 ·rw[List.nodup_iff_pairwise_ne,eN];have:S.pl.Pairwise λa b=>a∈S.pl/\b∈S.pl/\a≠b:=List.Pairwise.and_mem.mp nd;exact this.imp λ⟨ha,hb,hne⟩e=>hne (m9 nd h6 _ ha _ hb e)
 ·have hz6:zN.length=6:=rfl;constructor
  ·intro hz;obtain⟨i,hi⟩:=eO hz;have li:=(bj.mp hi).1;rw[aQ,hz6]at li;obtain⟨k,hk,ek⟩:=AE h6 t (i:=i) Qo;refine aj.mpr ⟨S.pl[k],kj hk,?_⟩;rw[mQ nd (a_ hk),ek];rw[eR Qo]at hi;rw[cz,hi];rfl
  ·intro hz;obtain⟨x,hx,rfl⟩:=aj.mp hz;obtain⟨k,hk⟩:=eO hx;have lk:=(bj.mp hk).1;have r1:=p7 (n:=S.pl.length) Qo t k;rw[mQ nd hk];have l1:iR S.pl.length t k<zN.length:=Qo;rw[cz,a_ l1];refine ao (i:=iR S.pl.length t k) ?_;rw[eR r1,a_ l1];rfl
def AH(S:NS)(t:Int)(q:dw×Nat):dw:=⟨tN.getD q.2 "",told S t q.1.a,told S t q.1.b,q.1.w,q.1.c⟩
def xJ(S:NS)(t:Int):List dw:=S.ti.reverse.zipIdx.map (AH S t)
theorem AF{S S':NS}{t:Int}(g:iO S)(hp:S'.pl.Perm (zN.take S.pl.length))(ht:S'.ti=xJ S t):iO S'/\sn S S' (told S t)/\∀x∈S.pl,told S t x∈S'.pl:=by
 have P:=hp.trans (xA (t:=t) g.ndP g.lenP);have h6:=g.lenP;have h10:=g.lenT;have hlen:S'.pl.length=S.pl.length:=by rw[P.length_eq,ae]
 have hin:∀x∈S.pl,told S t x∈S'.pl:=λx hx=>P.mem_iff.mpr (aj.mpr ⟨x,hx,rfl⟩);have hrow:∀r'∈S'.ti,∃r∈S.ti,∃i,i<S.ti.length/\r'=AH S t (r,i):=λr' hr=>by
  rw[ht]at hr;obtain⟨⟨r,i⟩,hq,e⟩:=aj.mp hr;have hq':=List.mk_mem_zipIdx_iff_getElem?.mp hq;have li:=(bj.mp hq').1;rw[dL]at li;exact⟨r,qH.mp (ao hq'),i,li,e.symm⟩
 have lT:S'.ti.length=S.ti.length:=by rw[ht];unfold xJ;rw[ae,jf,dL]
 have hn:S'.nms=tN.take S.ti.length:=by
  unfold NS.nms;rw[ht];unfold xJ;refine List.ext_getElem? λi=>?_;rw[bm,ap,lY,Cj];by_cases hi:i<S.ti.length
  ·have l1:i<S.ti.reverse.length:=by rw[dL];exact hi
   have l2:i<tN.length:=by have:tN.length=10:=rfl;omega
   rw[a_ l1,eR hi,a_ l2];show some (tN.getD i "")=_;rw[cz,a_ l2];rfl
  ·rw[lG (by rw[dL];omega),lG (by rw[aQ];omega)];rfl
 refine⟨⟨?_,Qo,by have:=g.neP;omega,λx hx=>?_,?_,Qo,λr' hr=>?_,λr' hr=>?_,λr' hr=>?_⟩,⟨m9 g.ndP g.lenP,λf=>?_,λf=>?_⟩,hin⟩
 ·exact hp.nodup_iff.mpr (zQ.sublist (gH _ _))
 ·exact Fy x (ik (hp.mem_iff.mp hx))
 ·rw[hn];exact FH.sublist (gH _ _)
 ·obtain⟨r,h1,i,hi,rfl⟩:=hrow r' hr;have l2:i<tN.length:=by have:tN.length=10:=rfl;omega
  refine⟨?_,hin _ (g.okT r h1).2.1,hin _ (g.okT r h1).2.2⟩;show cE (tN.getD i "")=true;rw[cz,a_ l2];exact FG _ (kj l2)
 ·obtain⟨r,h1,i,hi,rfl⟩:=hrow r' hr;exact⟨λe=>(g.neT r h1).1 (m9 g.ndP g.lenP _ (g.okT r h1).2.1 _ (g.okT r h1).2.2 e),(g.neT r h1).2⟩
 ·obtain⟨r,h1,i,hi,rfl⟩:=hrow r' hr;exact g.okC r h1
 ·rw[ht];unfold xJ;rw[bm,<-vT (f:=λr:dw=>f (told S t r.a) (told S t r.b) r.w) S.ti.reverse_perm];have:(S.ti.reverse.zipIdx.map ((λr:dw=>f r.a r.b r.w)∘AH S t))=(S.ti.reverse.zipIdx.map (·.1)).map λr:dw=>f (told S t r.a) (told S t r.b) r.w:=by rw[bm];rfl
  rw[this,Eo]
 ·rw[vT P,bm];rfl
end Net
namespace L2
open PySem PySem.Spec PyProof.Rows
section
variable{X:Cx}
theorem vX:kK X (binaryOp .Mult) (λx y H Q=>∃z n,x=.str z/\y=.int n/\MulOk z n/\Q (.str (PySem.Txt.mul z n)) H):=by
 intro pins s σ H x y v u Q I rx ry h;obtain⟨z,n,rfl,rfl,hok,q⟩:=h;obtain⟨t,rfl⟩:=rx;obtain⟨t',rfl⟩:=ry;exact PySem.SB.mul hok λt' k=>⟨.str _,H,I.tok _,⟨t',rfl⟩,q⟩
end
end L2
namespace Net
open PySem L2 PyProof.Rows
def qw(i:Nat):Nat:=if i%2=0 then 113 else 119
theorem F0(i:Nat):wS ("qw":Str).cps.toList (((0:Int)+i)%2)=some (qw i):=by
 have h:(((0:Int)+i)%2)=((i%2:Nat):Int):=Qo;rw[h];unfold qw;rcases Nat.mod_two_eq_zero_or_one i with e|e<;>rw[e]
 ·rw[bc rfl];decide+kernel
 ·rw[aM Qd];decide+kernel
theorem Bv{x:Str}{n:Int}(h1:x.length=1)(hn:1<=n)(hm:n<=100):MulOk x n:=by
 refine⟨?_,λ_ _=>?_,λ_ _=>?_⟩
 ·rw[am Qo,am Qo];rfl
 ·rw[h1];have:(100:Int)<=(2^63-1)/n:=by
   refine(Int.le_ediv_iff_mul_le Qo).mpr ?_;omega
  omega
 ·rw[h1,Nat.one_mul];refine am ?_;have:n.toNat<=100:=Qo;have h2:(100:Nat)<=sizeLine:=Qd;omega
theorem Er:∀i:Nat,i<6->("z":Str)++PySem.Txt.mul ⟨#[qw i]⟩ (1+((0:Int)+i))=zN.getD i ""
 |0,_=>Qk
 |1,_=>Qk
 |2,_=>Qk
 |3,_=>Qk
 |4,_=>Qk
 |5,_=>Qk
 |n+6,h=>absurd h Qo
theorem Ew:∀i:Nat,i<10->PySem.Txt.mul ("t":Str) (1+(i:Int))=tN.getD i ""
 |0,_=>Qk
 |1,_=>Qk
 |2,_=>Qk
 |3,_=>Qk
 |4,_=>Qk
 |5,_=>Qk
 |6,_=>Qk
 |7,_=>Qk
 |8,_=>Qk
 |9,_=>Qk
 |n+10,h=>absurd h Qo
def tK(q:Str×Str):dU×V:=(.inr q.1,.str q.2)
def qO(S:NS)(t:Int):List (dU×V):=(gO S t).map tK
theorem jV{S:NS}{t:Int}{x:Str}(hx:x∈S.pl):valV (qO S t) (.inr x)=some (.str (told S t x)):=by
 obtain⟨k,hk⟩:=eO hx;have hm:(x,zN.getD (iR S.pl.length t k) "")∈gO S t:=aj.mpr ⟨(x,k),List.mk_mem_zipIdx_iff_getElem?.mpr hk,rfl⟩;have gen:∀l:List (Str×Str),valV (l.map tK) (Sum.inr x:dU)=(l.find? λq=>decide (q.1=x)).map λq=>V.str q.2:=λl=>by
  induction l with
  |nil=>rfl
  |cons q l ih=>
   unfold valV at ih⊢;rw[aF];by_cases e:q.1=x
   ·rw[kG (by show decide ((Sum.inr q.1:dU)=Sum.inr x)=true;rw[e];exact af rfl),kG (p:=λq:Str×Str=>decide (q.1=x)) (af e)];rfl
   ·rw[gK (by show¬decide ((Sum.inr q.1:dU)=Sum.inr x)=true;exactλz=>e (Sum.inr.inj (aK z))),gK (p:=λq:Str×Str=>decide (q.1=x)) (λz=>e (aK z))];exact ih
 unfold qO told;rw[gen];cases e:(gO S t).find? λq=>decide (q.1=x)with
 |none=>exact absurd (af rfl) (gv.mp e _ hm)
 |some q=>rfl
theorem pb(S:NS)(t:Int):(gO S t).length=S.pl.length:=by unfold gO;rw[ae,jf]
theorem zZ{S:NS}{t:Int}{i:Nat}{y:Str}(h:S.pl[i]?=some y):(gO S t)[i]?=some (y,zN.getD (iR S.pl.length t i) ""):=by
 unfold gO;rw[ap,lY,h,Cj];rfl
theorem sM(S:NS)(t:Int):(gO S t).map (·.1)=S.pl:=by
 unfold gO;rw[bm];exact Eo 0 S.pl
theorem xB{S:NS}{t:Int}(nd:S.pl.Nodup){i:Nat}{y:Str}(h:S.pl[i]?=some y):fM (((gO S t).take i).map tK) (Sum.inr y:dU) (V.str (zN.getD (iR S.pl.length t i) ""))=((gO S t).take (i+1)).map tK:=by
 rw[bi,zZ h,ah];refine gC _ ?_;unfold valV;rw[gv.mpr λkv hkv z=>?_]
 ·rfl
 obtain⟨q,hq,rfl⟩:=aj.mp hkv;have e:q.1=y:=Sum.inr.inj (aK z);have:q.1∈S.pl.take i:=by
  rw[<-sM S t,<-zI];exact aj.mpr ⟨q,hq,rfl⟩
 rw[e]at this;exact m_ nd h this
end Net
namespace Net
open PySem L2
theorem uK:bootBuiltins "sorted"=some (.builtin "sorted"):=Qk
theorem Es:∀i:Nat,i<6->("z":Str).length +(PySem.Txt.mul ⟨#[qw i]⟩ (1+((0:Int)+i))).length<=sizeLine
 |0,_=>Qk
 |1,_=>Qk
 |2,_=>Qk
 |3,_=>Qk
 |4,_=>Qk
 |5,_=>Qk
 |n+6,h=>absurd h Qo
def D4:Sp:=λvs H Q _=>∃(pa ta:Addr)(S:NS)(t:Int),vs=[.ref pa,.ref ta,.int t]/\ir H pa ta S/\iO S/\
 ∀(r td nl fl:Addr)(S':NS)(H':Hp),aU H H'->H' r=some (.tup [.ref td,.ref nl,.ref fl])->H' td=some (.dK (qO S t))->ir H' nl fl S'->iO S'->sn S S' (told S t)->(∀x∈S.pl,told S t x∈S'.pl)->Q (.ref r) H'
section
variable{P:Program}{w:World}{K:ag}{mg:Str->Option Value}{base:Heap}{C:Addr}
abbrev HB:List Str:=["_law_places","_law_ties","_law_turn","_law_names","_law_told","_law_k","_law_place","_law_found","_law_name_here","_law_a","_law_b","_law_width","_law_cost"]
theorem gG:bG HB ["_law_places","_law_ties","_law_turn"] (aA s_l_renamed):=⟨rfl,rfl,rfl,Qk,rfl,Qk,Qk⟩
theorem ER{f:Addr}{fd:FuncData}(F:fI K "_law_renamed" "_law_renamed" s_l_renamed f fd)(T:fo K mg C)(TM:Fh mg)(hrev:mg "reversed"=none)(hso:mg "sorted"=none):FnOk P w K mg base fA 1 f fd ["_law_places","_law_ties","_law_turn"] D4:=by
 refine F.ok gG (λvs H Q E h=>?_) (λcdv A outer s H vs Q E hr h=>?_)
 ·obtain⟨pa,ta,S,t,rfl,_⟩:=h;rfl
 ·obtain⟨pa,ta,S,t,rfl,PA,g,q⟩:=h;have hu:=iL hr;have nd_0:List.Nodup (["_law_k"]:List Str):=Qk;refine⟨_,(ax (gd (j:=3) (N:=["_law_k"]) (xs:=1) (js:=[]) rfl gG.nd rfl rfl (bt rfl) (j3 rfl T.range (pa_cons (pe_callB call_len_seq Qr T.len b_len (pa_cons (pv 0) pa_nil)) pa_nil)) (λ_ _ _ _=>be (i:=0) nd_0 rfl (aN rfl)) (λ_ _ _ _=>cV) (λ_ _ _ _=>bP iX bQ (bP vX (bw tY bQ (bP dP (pv 0) aD) (λ_ _=>Qr)) (bP dG aD (pv 0)))) rfl)
   (ax (bH (i:=4) gG.nd rfl (aN rfl) kW)
   (ax (fg PassesOwn.never rfl (vR rfl TM.enum (pa_cons (pv 0) pa_nil)) (ge rfl (bq (be (i:=5) gG.nd rfl (aN rfl)) (bq (be (i:=6) gG.nd rfl (aN rfl)) dI)))
     (aS (j2 hu (pv 4) (pv 6) (bw cP (pv 3) (bP dP (bP dG (pv 5) (pv 2)) (pe_callB call_len_seq Qr T.len b_len (pa_cons (pv 0) pa_nil))) (λ_ _=>Qr)) rfl)))
   (ax (bH (i:=7) gG.nd rfl (aN rfl) (dC pa_nil))
   (ax (fg PassesOwn.never rfl (AO rfl TM.enum rfl hrev (pa_cons (pv 1) pa_nil)) (ge rfl (bq (be (i:=5) gG.nd rfl (aN rfl)) (bq (ge rfl (bq (be (i:=8) gG.nd rfl (aN rfl)) (bq (be (i:=9) gG.nd rfl (aN rfl)) (bq (be (i:=10) gG.nd rfl (aN rfl)) (bq (be (i:=11) gG.nd rfl (aN rfl)) (bq (be (i:=12) gG.nd rfl (aN rfl)) dI)))))) dI)))
     (aS (du (iH bN ck cj fu (pv 7) (pa_cons (bX (pa_cons (bP vX bQ (bP dG aD (pv 5))) (pa_cons (gx hu (pv 4) (pv 9) (λ_ _=>rfl)) (pa_cons (gx hu (pv 4) (pv 10) (λ_ _=>rfl)) (pa_cons (pv 11) (pa_cons (pv 12) pa_nil)))))) pa_nil)))))
   (aS (bC (bX (pa_cons (pv 4) (pa_cons (pe_callB uF Qr hso uK (pa_cons (pv 3) pa_nil)) (pa_cons (pv 7) pa_nil))))))))))),?_⟩
  have h6:=g.lenP;have h1:=g.neP;have h10:=g.lenT;obtain⟨L,RL,eta⟩:=PA.ti;have hlp:(S.pl.map V.str).length=S.pl.length:=ae ..;have z6:zN.length=6:=rfl;refine⟨_,rfl,pa,_,rfl,.inl (SqL.of PA.pl),_,rfl,Qo,by rw[hlp];omega,?_⟩;rw[hlp,jw];refine oe (n:=S.pl.length) (λi acc σ' H'=>i<=S.pl.length/\H'=H/\acc=(zN.take i).map V.str/\∃o,σ'=[o])
   ⟨bO _,rfl,rfl,none,rfl⟩ (λi acc σ' H' h=>?_) (ay h6 Qd) (λi acc σ' H' hi h=>?_) (λacc σ' H0 h nl hnl=>?_)
  ·obtain⟨_,_,rfl,_⟩:=h;rw[ae,aQ];omega
  ·obtain⟨h0,rfl,rfl,o,rfl⟩:=h;refine⟨_,rfl,_,_,rfl,rfl,(by show(0:Int)<2;decide),_,_,qw i,rfl,rfl,Qk,F0 i,_,rfl,_,_,rfl,rfl,_,_,rfl,rfl,Bv rfl Qo Qo,_,_,rfl,rfl,?_,Qo,rfl,?_,_,rfl⟩
   ·exact Es i Qo
   ·rw[Er i Qo,bi,ah];have l1:i<zN.length:=Qo;rw[a_ l1,cz,a_ l1];rfl
  obtain⟨h0,rfl,rfl,o,rfl⟩:=h;have s1:=aU.new (o:=.lst ((zN.take S.pl.length).map V.str)) hnl;have enl:(upd H0 nl (.lst ((zN.take S.pl.length).map V.str))) nl=some (.lst ((zN.take S.pl.length).map V.str)):=ai;generalize upd H0 nl (.lst ((zN.take S.pl.length).map V.str))=H1 at s1 enl;intro td htd;have s2:=aU.new (o:=.dK []) htd;have etd:(upd H1 td (.dK [])) td=some (.dK []):=ai;have hld0:H0 td=none:=s1.free htd;generalize upd H1 td (.dK [])=H2 at s2 etd;have PA2:=PA.same (s1.trans s2);have enl2:=s2 _ _ enl;have npa:pa≠td:=cU PA2.pl etd (λz=>by cases z);have nnl:nl≠td:=cU enl2 etd (λz=>by cases z);refine⟨_,rfl,pa,rfl,⟨_,SqL.of PA2.pl⟩,rQ (K:=K) (a:=pa) (xs:=S.pl.map V.str) (λi σ' H'=>(∃o5 o6,σ'=[some (.ref pa),some (.ref ta),some (.int t),some (.ref nl),some (.ref td),o5,o6,none,none,none,none,none,none])/\(∀c ob,H2 c=some ob->c≠td->H' c=some ob)/\H' td=some (.dK (((gO S t).take i).map tK)))
   ⟨⟨_,_,rfl⟩,λ_ _ e _=>e,etd⟩ (λi σ' H' _ h=>SqL.of (h.2.1 _ _ PA2.pl npa)) (λi x σ' H' tt hx h htt=>?_) (λσ' H' h=>?_)⟩
  ·obtain⟨⟨o5,o6,rfl⟩,kp,etd'⟩:=h;rw[ap]at hx;cases ey:S.pl[i]? with
   |none=>rw[ey]at hx;cases hx
   |some y=>
    rw[ey]at hx;cases hx;have li:=(bj.mp ey).1;have zt:=aU.new (o:=.tup [.int i,.str y]) htt;have ett:(upd H' tt (.tup [.int i,.str y])) tt=some (.tup [.int i,.str y]):=ai;have ntt:tt≠td:=λz=>by rw[z,etd']at htt;cases htt
    generalize upd H' tt (.tup [.int i,.str y])=H3 at zt ett;refine⟨tt,_,rfl,cG.of ett,rfl,_,_,rfl,_,_,rfl,rfl,?_⟩;have r1:=p7 (n:=S.pl.length) h1 t i;have er:(((i:Int)+t)%((S.pl.map V.str).length:Int))=((iR S.pl.length t i:Nat):Int):=by
     rw[hlp];unfold iR;have:=cK ((i:Int)+t) (by omega:(S.pl.length:Int)≠0);omega
    have l1:iR S.pl.length t i<zN.length:=Qo;refine⟨_,rfl,_,rfl,_,rfl,_,_,rfl,rfl,_,rfl,pa,_,rfl,.inl (SqL.of (zt _ _ (kp _ _ PA2.pl npa))),_,_,rfl,rfl,(by rw[hlp];omega),nl,_,_,.str (zN.getD (iR S.pl.length t i) ""),rfl,rfl,SqL.of (zt _ _ (kp _ _ enl2 nnl)),?_,_,rfl,_,rfl,td,_,rfl,lB.k (k:=Sum.inr y) (zt _ _ etd') ?_,⟨_,_,rfl⟩,λc ob e hc=>?_,?_⟩
    ·rw[er];refine fz ?_;rw[ap,eR r1,a_ l1,cz,a_ l1];rfl
    ·rw[ae,aQ,pb];exact d7 (Nat.min_le_right ..) (d7 h6 Qd)
    ·rw[aV hc];exact zt _ _ (kp c ob e hc)
    ·rw[ai,xB g.ndP ey]
  obtain⟨⟨o5,o6,rfl⟩,kp,etd3⟩:=h;rw[hlp,<-pb S t,bf]at etd3;rw[show((gO S t).map tK)=qO S t from rfl]at etd3;obtain⟨L',RL',eta2⟩:=PA2.ti;have nta:ta≠td:=cU eta2 etd (λz=>by cases z);have eta3:=kp _ _ eta2 nta;have enl3:=kp _ _ enl2 nnl;have rl3:∀q∈L',H' q.2=some (.tup q.1.tup):=λq hq=>kp _ _ (RL'.2 q hq) (cU (RL'.2 q hq) etd (λz=>by cases z));have s03:∀c ob,H0 c=some ob->H' c=some ob:=λc ob e=>kp c ob ((s1.trans s2) _ _ e) (aZ e hld0);refine⟨Qd,λfl hfl=>?_⟩;have s4:=aU.new (o:=.lst []) hfl;have efl:(upd H' fl (.lst [])) fl=some (.lst []):=ai;generalize upd H' fl (.lst [])=H4 at s4 efl;have hfl0:H0 fl=none:=by
   cases e:H0 fl with
   |none=>rfl
   |some ob=>rw[s03 _ _ e]at hfl;cases hfl
  have etd4:=s4 _ _ etd3;have eta4:=s4 _ _ eta3;have enl4:=s4 _ _ enl3;have ntd:td≠fl:=λz=>by rw[z,hfl]at etd3;cases etd3
  have nta4:ta≠fl:=λz=>by rw[z,hfl]at eta3;cases eta3
  have nnl4:nl≠fl:=λz=>by rw[z,hfl]at enl3;cases enl3
  have eL:L'.length=S.ti.length:=by rw[<-RL'.1,ae]
  refine⟨_,rfl,ta,_,rfl,SqL.of eta4,yO (K:=K) (a:=ta) (xs:=L'.map λq=>V.ref q.2) (λi σ' H'=>(∃o5 o6 o8 o9 o10 o11 o12,σ'=[some (.ref pa),some (.ref ta),some (.int t),some (.ref nl),some (.ref td),o5,o6,some (.ref fl),o8,o9,o10,o11,o12])/\(∀c ob,H4 c=some ob->c≠fl->H' c=some ob)/\∃L2:List (dw×Addr),Rows H' L2 ((S.ti.reverse.zipIdx.take i).map (AH S t))/\H' fl=some (.lst (L2.map λq=>V.ref q.2)))
   ⟨⟨_,_,_,_,_,_,_,rfl⟩,λ_ _ e _=>e,[],⟨rfl,λ_ h=>nomatch h⟩,efl⟩ (λi σ' H' _ h=>SqL.of (h.2.1 _ _ eta4 nta4)) (λi x σ' H' tt hx h htt=>?_) (λσ' H' h=>?_)⟩
  ·obtain⟨⟨o5,o6,o8,o9,o10,o11,o12,rfl⟩,kp2,L2,R2,efl2⟩:=h;rw[<-List.map_reverse,ap]at hx;cases eq:L'.reverse[i]? with
   |none=>rw[eq]at hx;cases hx
   |some qq=>
    rw[eq]at hx;cases hx;have hqm:qq∈L':=qH.mp (ao eq);have erow:S.ti.reverse[i]?=some qq.1:=by rw[<-RL'.1,<-List.map_reverse,ap,eq];rfl
    have hri:qq.1∈S.ti:=qH.mp (ao erow);have li:=(bj.mp erow).1;rw[dL]at li;have hq4:=s4 _ _ (rl3 qq hqm);have hqt:=kp2 _ _ hq4 (cU hq4 efl (λz=>by cases z));obtain⟨r,qa⟩:=qq;have zt:=aU.new (o:=.tup [.int i,.ref qa]) htt;have ett:(upd H' tt (.tup [.int i,.ref qa])) tt=some (.tup [.int i,.ref qa]):=ai;generalize upd H' tt (.tup [.int i,.ref qa])=H5 at zt ett;have etd5:=zt _ _ (kp2 _ _ etd4 ntd);have efl5:=zt _ _ efl2;have okr:=g.okT r hri;refine⟨tt,_,rfl,cG.of ett,rfl,_,_,rfl,_,_,rfl,qa,_,rfl,cG.of (zt _ _ hqt),rfl,_,_,rfl,_,_,rfl,_,_,rfl,_,_,rfl,_,_,rfl,rfl,rfl,?_⟩;refine⟨_,rfl,.inl ⟨rfl,_,SqL.of efl5⟩,_,rfl,_,_,rfl,rfl,_,_,rfl,rfl,Bv Qk Qo Qo,_,rfl,_,rfl,td,.str (told S t r.a),rfl,by rw[<-jV okr.2.1];exact eh.k (k:=Sum.inr r.a) etd5,_,rfl,_,rfl,td,.str (told S t r.b),rfl,by rw[<-jV okr.2.2];exact eh.k (k:=Sum.inr r.b) etd5,_,rfl,_,rfl,(by show 5<=sizeLine;decide),λt2 ht2=>?_⟩;have e0:(V.str (PySem.Txt.mul "t" (1+(i:Int))))=.str (tN.getD i ""):=by rw[Ew i Qo]
    rw[e0];have z2:=aU.new (o:=.tup [.str (tN.getD i ""),.str (told S t r.a),.str (told S t r.b),.int r.w,.int r.c]) ht2;have e2:(upd H5 t2 (.tup [.str (tN.getD i ""),.str (told S t r.a),.str (told S t r.b),.int r.w,.int r.c])) t2=some (.tup [.str (tN.getD i ""),.str (told S t r.a),.str (told S t r.b),.int r.w,.int r.c]):=ai;generalize upd H5 t2 (.tup [.str (tN.getD i ""),.str (told S t r.a),.str (told S t r.b),.int r.w,.int r.c])=H6 at z2 e2;have efl6:=z2 _ _ efl5;have lL2:L2.length<=10:=by
     have:=b6 List.length R2.1;rw[ae,ae,aQ,jf,dL]at this;omega
    refine⟨fl,_,_,rfl,rfl,efl6,cT (by rw[ae];omega),⟨_,_,_,_,_,_,_,rfl⟩,λc ob e hc=>?_,L2++[(AH S t (r,i),t2)],⟨?_,λq hq=>?_⟩,?_⟩
    ·rw[aV hc];exact(zt.trans z2) _ _ (kp2 c ob e hc)
    ·rw[ah,R2.1,bi,lY,erow,Cj,ah];rfl
    ·rcases aw.mp hq with hq|hq
     ·have h9:=(zt.trans z2) _ _ (R2.2 q hq);rw[aV (cU h9 efl6 (λz=>by cases z))];exact h9
     ·rw[ar.mp hq];show upd H6 fl _ t2=_;rw[aV (cU e2 efl6 (λz=>by cases z))];exact e2
    ·rw[ai,ah];rfl
  obtain⟨⟨o5',o6',o8,o9,o10,o11,o12,rfl⟩,kp2,L2,R2,efl2⟩:=h;have lz:(L'.map λq=>V.ref q.2).length=S.ti.reverse.zipIdx.length:=by rw[ae,eL,jf,dL]
  rw[lz,bf]at R2;refine⟨_,rfl,_,rfl,nl,zN.take S.pl.length,rfl,SqL.of (kp2 _ _ enl4 nnl4),(by rw[aQ];omega),λsl ws' hsl hp=>⟨_,rfl,(by show 3<=sizeLine;decide),λr hr=>?_⟩⟩;have zs:=aU.new (o:=.lst (ws'.map V.str)) hsl;have es:(upd H' sl (.lst (ws'.map V.str))) sl=some (.lst (ws'.map V.str)):=ai;generalize upd H' sl (.lst (ws'.map V.str))=H7 at zs es hr;have zr:=aU.new (o:=.tup [.ref td,.ref sl,.ref fl]) hr;have z7:=zs.trans zr;obtain⟨g',ren,hin⟩:=AF (S':=⟨ws',xJ S t⟩) (t:=t) g hp rfl;refine q r td sl fl ⟨ws',xJ S t⟩ _ (λc ob e=>z7 _ _ (kp2 c ob (s4 _ _ (s03 c ob e)) (aZ e hfl0))) ai (z7 _ _ (kp2 _ _ etd4 ntd)) ⟨zr _ _ es,L2,R2.same z7,z7 _ _ efl2⟩ g' ren hin
end
end Net
namespace Net
open PySem L2
theorem gf.eq{S:NS}{a b:Str}{v0 v1 v2:Int}(h:gf S a b v0 v1 v2)(e:a=b):v0=0/\v1=0/\v2=0:=by
 obtain⟨h0,h1,h2⟩:=h;have k0:if a=b then v0=0 else W3.min S a b v0 .flow:=h0;have k1:if a=b then v1=0 else W3.min S a b v1 .apart:=h1;have k2:if a=b then v2=0 else W3.min S a b v2 .bare:=h2;rw[bc e]at k0 k1 k2;exact⟨k0,k1,k2⟩
theorem gf.ne{S:NS}{a b:Str}{v0 v1 v2:Int}(h:gf S a b v0 v1 v2)(e:¬a=b):cO (aW (·.w) S) (.inl a) (.inl b) v0/\cO (aW (λ_=>1) S) (.inl a) (.inl b) v1/\cO (aB S a b) (kO a) (kI b) v2:=by
 obtain⟨h0,h1,h2⟩:=h;have k0:if a=b then v0=0 else W3.min S a b v0 .flow:=h0;have k1:if a=b then v1=0 else W3.min S a b v1 .apart:=h1;have k2:if a=b then v2=0 else W3.min S a b v2 .bare:=h2;rw[aM e]at k0 k1 k2;exact⟨k0,k1,k2⟩
theorem gf.le{S:NS}{a b:Str}{v0 v1 v2:Int}(ndP:S.pl.Nodup)(hw:∀r∈S.ti,1<=r.w)(h:gf S a b v0 v1 v2):0<=v2/\v2<=v1/\v1<=v0:=by
 by_cases e:a=b
 ·obtain⟨rfl,rfl,rfl⟩:=h.eq e;decide
 ·obtain⟨h0,h1,h2⟩:=h.ne e;exact⟨tU h2 Hw,uJ ndP h2 h1,uN hw h1 h0⟩
theorem gf.turn{S S':NS}{a b:Str}{v0 v1 v2 u0 u1 u2:Int}(hp:S'.pl=S.pl)(ht:S'.ti=S.ti.map jx)(h:gf S a b v0 v1 v2)(h':gf S' b a u0 u1 u2):u0=v0/\u1=v1/\u2=v2:=by
 by_cases e:a=b
 ·obtain⟨rfl,rfl,rfl⟩:=h.eq e;exact h'.eq e.symm
 ·obtain⟨h0,h1,h2⟩:=h.ne e;obtain⟨k0,k1,k2⟩:=h'.ne λz=>e z.symm;exact⟨(qN (λ_=>rfl) ht h0 k0).symm,(qN (λ_=>rfl) ht h1 k1).symm,(w_ hp ht h2 k2).symm⟩
theorem gf.ren{S S':NS}{f:Str->Str}{a b:Str}{v0 v1 v2 u0 u1 u2:Int}(R:sn S S' f)(okT:∀r∈S.ti,r.a∈S.pl/\r.b∈S.pl)(ha:a∈S.pl)(hb:b∈S.pl)(h:gf S a b v0 v1 v2)(h':gf S' (f a) (f b) u0 u1 u2):u0=v0/\u1=v1/\u2=v2:=by
 by_cases e:a=b
 ·obtain⟨rfl,rfl,rfl⟩:=h.eq e;exact h'.eq (by rw[e])
 ·obtain⟨h0,h1,h2⟩:=h.ne e;obtain⟨k0,k1,k2⟩:=h'.ne λz=>e (R.inj a ha b hb z);exact⟨(vO (g:=λx=>x) R okT ha hb h0 k0).symm,(vO (g:=λ_=>1) R okT ha hb h1 k1).symm,(AG R okT ha hb h2 k2).symm⟩
theorem gf.wide{S S':NS}{k:Int}{a b:Str}{v0 v1 v2 u0 u1 u2:Int}(hk:0<=k)(hp:S'.pl=S.pl)(ht:S'.ti=S.ti.map (md k))(h:gf S a b v0 v1 v2)(h':gf S' a b u0 u1 u2):u0=v0*k/\u1=v1/\u2=v2:=by
 by_cases e:a=b
 ·obtain⟨rfl,rfl,rfl⟩:=h.eq e;obtain⟨rfl,rfl,rfl⟩:=h'.eq e;exact⟨(Co k).symm,rfl,rfl⟩
 ·obtain⟨h0,h1,h2⟩:=h.ne e;obtain⟨k0,k1,k2⟩:=h'.ne e;rw[zS ht]at k1;rw[wX hp ht]at k2;exact⟨wW hk ht h0 k0,k1.one h1,k2.one h2⟩
theorem gf.more{S S':NS}{r0:dw}{a b:Str}{v0 v1 v2 u0 u1 u2:Int}(ndP:S.pl.Nodup)(hp:S'.pl=S.pl)(ht:S'.ti=S.ti++[r0])(hw:0<=r0.w)(h:gf S a b v0 v1 v2)(h':gf S' a b u0 u1 u2):(v0<=u0/\u0<=v0+r0.w)/\(v1<=u1/\u1<=v1+1)/\(v2<=u2/\u2<=v2+1):=by
 by_cases e:a=b
 ·obtain⟨rfl,rfl,rfl⟩:=h.eq e;obtain⟨rfl,rfl,rfl⟩:=h'.eq e;omega
 ·obtain⟨h0,h1,h2⟩:=h.ne e;obtain⟨k0,k1,k2⟩:=h'.ne e;exact⟨rn (g:=(·.w)) ht hw h0 k0,rn (g:=λ_=>1) ht Qd h1 k1,x_ ndP hp ht h2 k2⟩
end Net
namespace Net
open PySem L2
theorem mm{K:ag}{H:Hp}{l:Addr}{x y z:Int}(h:H l=some (.lst [.int x,.int y,.int z])):mH K H 2 (.ref l) (.list [.int x,.int y,.int z]):=.inl ⟨_,_,SqL.of h,rfl,.cons rfl (.cons rfl (.cons rfl .nil))⟩
theorem BQ(x y z:Int):PyData.eqv (.list [.int x,.int y,.int z]) (.list [.int x,.int y,.int z])=true:=by simp[PyData.eqv,PyData.eqvAll]
theorem Br(x y z:Int):(if true=true then !PyData.eqv (.list [.int x,.int y,.int z]) (.list [.int x,.int y,.int z])else PyData.eqv (.list [.int x,.int y,.int z]) (.list [.int x,.int y,.int z]))=false:=by rw[bc rfl,BQ];rfl
structure GA(C:Addr)(H:Hp)(S:NS)(p1 p2 td p3:Addr)(by_:Int)(mv:V)(wd:Int):Prop where
 tu:∃ds dl S1,fW C H p1 ds dl S1/\S1.pl=S.pl/\S1.ti=S.ti.map jx
 re:∃ds dl S2 t,fW C H p2 ds dl S2/\sn S S2 (told S t)/\(∀x∈S.pl,told S t x∈S2.pl)/\(∀r∈S2.ti,0<=r.w)/\H td=some (.dK (qO S t))
 wi:∃ds dl S3,fW C H p3 ds dl S3/\S3.pl=S.pl/\S3.ti=S.ti.map (md by_)
 by1:1<=by_
 by2:by_<=10^9
 mo:mv=.non \/∃p4 ds dl S4 r0,mv=.ref p4/\fW C H p4 ds dl S4/\S4.pl=S.pl/\S4.ti=S.ti++[r0]/\0<=r0.w/\r0.w=wd
theorem GA.same{C:Addr}{H H':Hp}{S:NS}{p1 p2 td p3:Addr}{by_:Int}{mv:V}{wd:Int}(s:aU H H')(h:GA C H S p1 p2 td p3 by_ mv wd):GA C H' S p1 p2 td p3 by_ mv wd where
 tu:=let⟨a,b,c,d,e⟩:=h.tu;⟨a,b,c,d.same s,e⟩
 re:=let⟨a,b,c,t,d,e1,e2,e3,e4⟩:=h.re;⟨a,b,c,t,d.same s,e1,e2,e3,s _ _ e4⟩
 wi:=let⟨a,b,c,d,e⟩:=h.wi;⟨a,b,c,d.same s,e⟩
 by1:=h.by1
 by2:=h.by2
 mo:=h.mo.imp id λ⟨p4,a,b,c,r0,e,d,f⟩=>⟨p4,a,b,c,r0,e,d.same s,f⟩
def vF(C:Addr):Sp:=λvs H Q _=>∃(p ds dl pa oa p1 p2 td p3:Addr)(ta mv:V)(S:NS)(c by_ wd:Int),vs=[.ref p,.ref pa,ta,.int c,.ref oa]/\fW C H p ds dl S/\H pa=some (.lst (S.pl.map V.str))/\iO S/\
 H oa=some (.tup [.ref p1,.ref p2,.ref td,.ref p3,.int by_,mv,.int wd])/\GA C H S p1 p2 td p3 by_ mv wd/\∀H',aU H H'->Q (.bl true) H'
section
variable{P:Program}{w:World}{K:ag}{mg:Str->Option Value}{base:Heap}{C:Addr}
abbrev Fm:List Str:=["_law_net_here","_law_places","_law_ties","_law_cell","_law_others","_law_a","_law_b","_law_values","_law_turned","_law_renamed_here","_law_told","_law_wide","_law_by","_law_more","_law_width","_law_after","_law_k"]
theorem ez:bG Fm ["_law_net_here","_law_places","_law_ties","_law_cell","_law_others"] (aA s_l_one):=⟨rfl,rfl,rfl,Qk,rfl,Qk,Qk⟩
theorem A_{f:Addr}{fd:FuncData}(F:fI K "_law_one" "_law_one" s_l_one f fd)(T:fo K mg C)(c3:dc P w K mg base 11 "_law_three" ["_law_net_here","_law_a","_law_b"] (uZ C))(cb:dc P w K mg base 1 "_law_between" ["_law_least","_law_value","_law_most"] Ai):FnOk P w K mg base fA 12 f fd ["_law_net_here","_law_places","_law_ties","_law_cell","_law_others"] (vF C):=by
 refine F.ok ez (λvs H Q E h=>?_) (λcdv A outer s H vs Q E hr h=>?_)
 ·obtain⟨p,ds,dl,pa,oa,p1,p2,td,p3,ta,mv,S,c,by_,wd,rfl,_⟩:=h;rfl
 ·obtain⟨p,ds,dl,pa,oa,p1,p2,td,p3,ta,mv,S,c,by_,wd,rfl,N,PA,g,eo,O,q⟩:=h;have hU:=hr.units;have hu:=iL hr;have r1:c_ 1 _:=hr.mono Qd;refine⟨_,(ax (bH (i:=5) ez.nd rfl (aN rfl) (bw cP (pv 1) (bP dP (pv 3) (pe_callB call_len_seq Qr T.len b_len (pa_cons (pv 1) pa_nil))) (λ_ _=>Qr)))
   (ax (bH (i:=6) ez.nd rfl (aN rfl) (bw cP (pv 1) (bP dP (bP fq (pv 3) aD) (pe_callB call_len_seq Qr T.len b_len (pa_cons (pv 1) pa_nil))) (λ_ _=>Qr)))
   (ax (bH (i:=7) ez.nd rfl (aN rfl) (ba c3 hr Qr (pa_cons (pv 0) (pa_cons (pv 5) (pa_cons (pv 6) pa_nil)))))
   (ax (b9 (PW.pt (jg (dB (cY (ba cb r1 Qr (pa_cons aD (pa_cons (bw cP (pv 7) aD (λ_ _=>Qr)) (pa_cons (bw cP (pv 7) aD (λ_ _=>Qr)) pa_nil)))))) (iS (dB (cY (ba cb r1 Qr (pa_cons (bw cP (pv 7) aD (λ_ _=>Qr)) (pa_cons (bw cP (pv 7) aD (λ_ _=>Qr)) (pa_cons (bw cP (pv 7) aD (λ_ _=>Qr)) pa_nil))))))))) (aS (bC jh)) bF)
   (dA (tj (pv 4) (ge rfl (bq (be (i:=8) ez.nd rfl (aN rfl)) (bq (be (i:=9) ez.nd rfl (aN rfl)) (bq (be (i:=10) ez.nd rfl (aN rfl)) (bq (be (i:=11) ez.nd rfl (aN rfl)) (bq (be (i:=12) ez.nd rfl (aN rfl)) (bq (be (i:=13) ez.nd rfl (aN rfl)) (bq (be (i:=14) ez.nd rfl (aN rfl)) dI)))))))))
   (ax (b9 (PW.pt (jg (bJ (nI hU) (ba c3 hr Qr (pa_cons (pv 8) (pa_cons (pv 6) (pa_cons (pv 5) pa_nil)))) (pv 7) (nomark _)) (iS (bJ (nI hU) (ba c3 hr Qr (pa_cons (pv 9) (pa_cons (gx hu (pv 10) (pv 5) (λ_ _=>rfl)) (pa_cons (gx hu (pv 10) (pv 6) (λ_ _=>rfl)) pa_nil)))) (pv 7) (nomark _))))) (aS (bC jh)) bF)
   (ax (b9 (bJ (nI hU) (ba c3 hr Qr (pa_cons (pv 11) (pa_cons (pv 5) (pa_cons (pv 6) pa_nil)))) (bP nK (dC (pa_cons (bP nJ (bw cP (pv 7) aD (λ_ _=>Qr)) (pv 12)) pa_nil)) (jC p5 (pv 7) (iT aD) p_)) (nomark _)) (aS (bC jh)) bF)
   (dA (b9 (gc (vU (pv 13))) (ax (bH (i:=15) ez.nd rfl (aN rfl) (ba c3 hr Qr (pa_cons (pv 13) (pa_cons (pv 5) (pa_cons (pv 6) pa_nil)))))
   (aS (fg PassesOwn.never rfl (j3 rfl T.range (pa_cons aD pa_nil)) (be (i:=16) ez.nd rfl (aN rfl))
      (aS (b9 (dB (cY (ba cb r1 Qr (pa_cons (bw cP (pv 7) (pv 16) (λ_ _=>Qr)) (pa_cons (bw cP (pv 15) (pv 16) (λ_ _=>Qr)) (pa_cons (bP dG (bw cP (pv 7) (pv 16) (λ_ _=>Qr)) (bw cP (dC (pa_cons (pv 14) (pa_cons aD (pa_cons aD pa_nil)))) (pv 16) (λ_ _=>Qr))) pa_nil)))))) (aS (bC jh)) bF))))) bF)
   (aS (bC (D8 (dJ A2 (pv 5) (pv 6) (nomark _)) (iU (dJ (qc hU) (pv 7) (dC (pa_cons aD (pa_cons aD (pa_cons aD pa_nil)))) (nomark _)))))))))))))),?_⟩
  have hpl:(S.pl.map V.str).length=S.pl.length:=ae ..;have hlp:(0:Int)<((S.pl.map V.str).length:Int):=by
   rw[hpl];have:=g.neP;omega
  have w1:∀r∈S.ti,1<=r.w:=λr hr=>(g.neT r hr).2;have w0:∀r∈S.ti,0<=r.w:=λr hr=>iP Qd (w1 r hr);obtain⟨a,ha,ea⟩:=mT g.neP c;obtain⟨b,hb,eb⟩:=mT g.neP (c/6);refine⟨_,rfl,_,rfl,_,rfl,pa,_,rfl,.inl (SqL.of PA),_,_,rfl,rfl,hlp,pa,_,_,.str a,rfl,rfl,SqL.of PA,ea,?_⟩;refine⟨_,rfl,_,rfl,_,_,rfl,rfl,⟨Qd,Qd⟩,_,rfl,pa,_,rfl,.inl (SqL.of PA),_,_,rfl,rfl,hlp,pa,_,_,.str b,rfl,rfl,SqL.of PA,eb,?_⟩;refine⟨_,rfl,_,rfl,_,rfl,p,ds,dl,S,a,b,rfl,N,ha,hb,w0,λl v0 v1 v2 H1 s1 e1 h3=>?_⟩;obtain⟨le0,le1,le2⟩:=h3.le g.ndP w1;refine⟨_,rfl,l,_,_,.int v2,rfl,rfl,SqL.of e1,rfl,_,rfl,l,_,_,.int v1,rfl,rfl,SqL.of e1,rfl,0,v2,v1,rfl,_,rfl,?_⟩;refine cq (by rw[af le0,af le1];rfl) ⟨_,rfl,l,_,_,.int v1,rfl,rfl,SqL.of e1,rfl,_,rfl,l,_,_,.int v0,rfl,rfl,SqL.of e1,rfl,_,rfl,l,_,_,.int v0,rfl,rfl,SqL.of e1,rfl,v1,v0,v0,rfl,_,rfl,?_⟩;refine cq (by rw[af le2,af (dX v0)];rfl) ?_;refine⟨λσ' H'=>σ'=[some (.ref p),some (.ref pa),some ta,some (.int c),some (.ref oa),some (.str a),some (.str b),some (.ref l),some (.ref p1),some (.ref p2),some (.ref td),some (.ref p3),some (.int by_),some mv,some (.int wd),none,none]/\H'=H1,?_,?_⟩
  ·exact⟨_,rfl,oa,_,rfl,cG.of (s1 _ _ eo),rfl,_,_,rfl,_,_,rfl,_,_,rfl,_,_,rfl,_,_,rfl,_,_,rfl,_,_,rfl,rfl,rfl,rfl⟩
  rintro σ1 H1'⟨rfl,rfl⟩;have O1:=O.same s1;obtain⟨d1,l1,S1,N1,hp1,ht1⟩:=O1.tu;have w10:∀r∈S1.ti,0<=r.w:=λr hr=>by
   rw[ht1]at hr;obtain⟨r0,h0,rfl⟩:=aj.mp hr;exact w0 r0 h0
  refine⟨_,rfl,_,rfl,_,rfl,p1,d1,l1,S1,b,a,rfl,N1,hp1▸hb,hp1▸ha,w10,λm1 u0 u1 u2 H2 s2 f2 k3=>?_⟩;obtain⟨q0,q1,q2⟩:=h3.turn hp1 ht1 k3;rw[q0,q1,q2]at f2;refine⟨_,rfl,2,_,_,Qd,mm f2,mm (s2 _ _ e1),_,rfl,?_⟩;refine cq (Br _ _ _) ?_;obtain⟨d2,l2,S2,t2,N2,R2,in2,w20,et2⟩:=(O1.same s2).re;refine⟨_,rfl,_,rfl,_,rfl,td,.str (told S t2 a),rfl,by rw[<-jV ha];exact eh.k (k:=Sum.inr a) et2,_,rfl,_,rfl,td,.str (told S t2 b),rfl,by rw[<-jV hb];exact eh.k (k:=Sum.inr b) et2,?_⟩;refine⟨p2,d2,l2,S2,_,_,rfl,N2,in2 a ha,in2 b hb,w20,λm2 u0 u1 u2 H3 s3 f3 k3=>?_⟩;obtain⟨q0,q1,q2⟩:=h3.ren R2 (λr hr=>(g.okT r hr).2) ha hb k3;rw[q0,q1,q2]at f3;have s13:=s2.trans s3;refine⟨_,rfl,2,_,_,Qd,mm f3,mm (s13 _ _ e1),_,rfl,?_⟩;refine cq (Br _ _ _) ?_;obtain⟨d3,l3,S3,N3,hp3,ht3⟩:=(O1.same s13).wi;have by1:=O1.by1;have by2:=O1.by2;have w30:∀r∈S3.ti,0<=r.w:=λr hr=>by
   rw[ht3]at hr;obtain⟨r0,h0,rfl⟩:=aj.mp hr;exact Int.mul_nonneg (w0 r0 h0) Qo
  refine⟨_,rfl,_,rfl,_,rfl,p3,d3,l3,S3,a,b,rfl,N3,hp3▸ha,hp3▸hb,w30,λm3 u0 u1 u2 H4 s4 f4 k3=>?_⟩;obtain⟨q0,q1,q2⟩:=h3.wide Qo hp3 ht3 k3;rw[q0,q1,q2]at f4;have s14:=s13.trans s4;have e4:=s14 _ _ e1;refine⟨_,rfl,l,_,_,.int v0,rfl,rfl,SqL.of e4,rfl,_,rfl,_,_,rfl,rfl,.inr ⟨Qo,Qo⟩,(by show 1<=sizeLine;decide),λq1 hq1=>?_⟩;have z5:=aU.new (o:=.lst [.int (v0*by_)]) hq1;have f5:(upd H4 q1 (.lst [.int (v0*by_)])) q1=some (.lst [.int (v0*by_)]):=ai;generalize upd H4 q1 (.lst [.int (v0*by_)])=H5 at z5 f5;refine⟨_,rfl,_,rfl,l,_,rfl,SqL.of (z5 _ _ e4),λq2 hq2=>?_⟩;have ecut:jP [.int v0,.int v1,.int v2] (some 1) none=[.int v1,.int v2]:=rfl;rw[ecut];have z6:=aU.new (o:=.lst [.int v1,.int v2]) hq2;have f6:(upd H5 q2 (.lst [.int v1,.int v2])) q2=some (.lst [.int v1,.int v2]):=ai;generalize upd H5 q2 (.lst [.int v1,.int v2])=H6 at z6 f6;refine⟨q1,q2,_,_,rfl,rfl,z6 _ _ f5,f6,(by show 3<=sizeLine;decide),λq3 hq3=>?_⟩;have z7:=aU.new (o:=.lst ([.int (v0*by_)]++[.int v1,.int v2])) hq3;have s47:=z5.trans (z6.trans z7);refine⟨2,_,_,Qd,mm (s47 _ _ f4),mm ai,_,rfl,?_⟩;have s17:=s14.trans s47;generalize upd H6 q3 _=H7 at s17;refine cq (Br _ _ _) ?_;clear N3 N2 N1 f4 f3 f2 f5 f6 R2;have e7:=s17 _ _ e1;refine⟨λσ' H'=>(∃o1 o2,σ'=[some (.ref p),some (.ref pa),some ta,some (.int c),some (.ref oa),some (.str a),some (.str b),some (.ref l),some (.ref p1),some (.ref p2),some (.ref td),some (.ref p3),some (.int by_),some mv,some (.int wd),o1,o2])/\aU H7 H',?_,?_⟩
  ·rcases(O1.same s17).mo with rfl|⟨p4,d4,l4,S4,r0,rfl,N4,hp4,ht4,hw4,rfl⟩
   ·exact⟨_,rfl,_,rfl,dz ⟨⟨_,_,rfl⟩,aU.refl _⟩⟩
   ·have w40:∀r∈S4.ti,0<=r.w:=λr hr=>by
     rw[ht4]at hr;rcases aw.mp hr with hr|hr
     ·exact w0 r hr
     ·rw[ar.mp hr];exact hw4
    refine⟨_,rfl,_,rfl,dv ⟨_,rfl,_,rfl,_,rfl,p4,d4,l4,S4,a,b,rfl,N4,hp4▸ha,hp4▸hb,w40,λm4 u0 u1 u2 H8 s8 f8 k3=>?_⟩⟩;have hm:=h3.more g.ndP hp4 ht4 hw4 k3;refine⟨3,rfl,Qd,Qd,?_⟩;refine pG (n:=3) (λi σ' H'=>(∃o2,σ'=[some (.ref p),some (.ref pa),some ta,some (.int c),some (.ref oa),some (.str a),some (.str b),some (.ref l),some (.ref p1),some (.ref p2),some (.ref td),some (.ref p3),some (.int by_),some (.ref p4),some (.int r0.w),some (.ref m4),o2])/\aU H8 H')
     ⟨⟨_,rfl⟩,aU.refl _⟩ (λi σ' H' hi h=>?_) (λσ' H' h=>?_)
    ·obtain⟨⟨o2,rfl⟩,t8⟩:=h;have f9:=t8 _ _ f8;have e9:=(s8.trans t8) _ _ e7;obtain⟨x,y,d,ex,ey,ed,l1,l2⟩:∃x y d:Int,wS [V.int v0,.int v1,.int v2] (0+(i:Int))=some (.int x)/\wS [V.int u0,.int u1,.int u2] (0+(i:Int))=some (.int y)/\wS [V.int r0.w,.int 1,.int 1] (0+(i:Int))=some (.int d)/\x<=y/\y<=x+d:=by
      match i,hi with
      |0,_=>exact⟨v0,u0,r0.w,rfl,rfl,rfl,hm.1⟩
      |1,_=>exact⟨v1,u1,1,rfl,rfl,rfl,hm.2.1⟩
      |2,_=>exact⟨v2,u2,1,rfl,rfl,rfl,hm.2.2⟩
      |n+3,hi=>exact absurd hi Qo
     refine⟨_,rfl,_,rfl,l,_,_,.int x,rfl,rfl,SqL.of e9,ex,_,rfl,_,rfl,m4,_,_,.int y,rfl,rfl,SqL.of f9,ey,_,rfl,_,rfl,l,_,_,.int x,rfl,rfl,SqL.of e9,ex,_,rfl,(by show 3<=sizeLine;decide),λq4 hq4=>⟨_,rfl,q4,_,_,.int d,rfl,rfl,SqL.of ai,ed,_,_,rfl,rfl,x,y,x+d,rfl,_,rfl,?_⟩⟩;refine cq (by rw[af l1,af l2];rfl) ⟨⟨_,rfl⟩,t8.trans (aU.new hq4)⟩
    ·obtain⟨⟨o2,rfl⟩,t8⟩:=h;exact⟨⟨_,_,rfl⟩,s8.trans t8⟩
  rintro σ1 H8⟨⟨o1,o2,rfl⟩,s8⟩;refine⟨_,rfl,_,rfl,rfl,_,rfl,?_⟩;have s08:=s1.trans (s17.trans s8);by_cases hab:a=b
  ·obtain⟨q0,q1,q2⟩:=h3.eq hab;rw[q0,q1,q2]at e7;refine cq (by rw[af (b6 V.str hab)];rfl) ⟨_,rfl,(by show 3<=sizeLine;decide),λq4 hq4=>⟨2,_,_,Qd,mm ((s8.trans (aU.new hq4)) _ _ e7),mm ai,?_⟩⟩;rw[aM aG,BQ];exact q _ (s08.trans (aU.new hq4))
  ·have hne:¬V.str a=V.str b:=λz=>hab (V.str.inj z);rw[am hne];exact dv (q _ s08)
end
end Net
namespace Net
open PySem L2
theorem pF{S:NS}(g:iO S):iO ⟨S.pl,S.ti.map jx⟩:=by
 refine⟨g.ndP,g.lenP,g.neP,g.okP,?_,by show(S.ti.map jx).length<=10;rw[ae];exact g.lenT,λr hr=>?_,λr hr=>?_,λr hr=>?_⟩
 ·show((S.ti.map jx).map (·.nm)).Nodup;rw[bm];exact g.ndT
 ·obtain⟨r0,h0,rfl⟩:=aj.mp hr;obtain⟨a,b,c⟩:=g.okT r0 h0;exact⟨a,c,b⟩
 ·obtain⟨r0,h0,rfl⟩:=aj.mp hr;exact⟨λz=>(g.neT r0 h0).1 z.symm,(g.neT r0 h0).2⟩
 ·obtain⟨r0,h0,rfl⟩:=aj.mp hr;exact g.okC r0 h0
def q_(f:Int->Int)(r:dw):dw:={r with w:=f r.w}
theorem lR{S:NS}(g:iO S){f:Int->Int}(hf:∀r∈S.ti,1<=f r.w):iO ⟨S.pl,S.ti.map (q_ f)⟩:=by
 refine⟨g.ndP,g.lenP,g.neP,g.okP,?_,by show(S.ti.map (q_ f)).length<=10;rw[ae];exact g.lenT,λr hr=>?_,λr hr=>?_,λr hr=>?_⟩
 ·show((S.ti.map (q_ f)).map (·.nm)).Nodup;rw[bm];exact g.ndT
 ·obtain⟨q,hq,rfl⟩:=aj.mp hr;exact g.okT q hq
 ·obtain⟨q,hq,rfl⟩:=aj.mp hr;exact⟨(g.neT q hq).1,hf q hq⟩
 ·obtain⟨q,hq,rfl⟩:=aj.mp hr;exact g.okC q hq
theorem lS{K:ag}{js:List Nat}{gg:TG}{tt:TT}{te:TE}{σ:St}{Q:VK}{H:Hp}{ta:Addr}{L:List (dw×Addr)}{ti:List dw}(RL:Rows H L ti)(eta:H ta=some (.lst (L.map λq=>V.ref q.2)))(hlen:ti.length<=10)(φ:dw->dw)
  (hs:∀(qq:dw×Addr)(o0 o1 o2 o3 o4:Option V)(H':Hp)(R:V->St->Hp->Prop)(R0:St->Hp->Prop),qq.1∈ti->H' qq.2=some (.tup qq.1.tup)->(∀t o0 o1 o2 o3 o4,H' t=none->R (.ref t) ([o0,o1,o2,o3,o4]++iq σ js) (upd H' t (.tup (φ qq.1).tup)))->
   gg (.ref qq.2) ([o0,o1,o2,o3,o4]++iq σ js) H' λσ2 H2=>tt σ2 H2 λb H3=>if b=true then te σ2 H3 λy H4=>R y σ2 H4 else R0 σ2 H3)
  (hd:∀(tb:Addr)(L':List (dw×Addr))(H':Hp),aU H H'->Rows H' L' (ti.map φ)->H' tb=some (.lst (L'.map λq=>V.ref q.2))->Q (.ref tb) H'):gh 5 js gg tt te σ Q (El K ta) H:=by
 have hL:L.length=ti.length:=by rw[<-RL.1,ae]
 refine bW (K:=K) (ys:=L.map λq=>V.ref q.2) (λi acc σ' H'=>aU H H'/\(∃L':List (dw×Addr),acc=L'.map (λq=>V.ref q.2)/\L'.length=i/\Rows H' L' ((ti.take i).map φ))/\∃o0 o1 o2 o3 o4,σ'=[o0,o1,o2,o3,o4]++iq σ js)
  ⟨aU.refl H,⟨[],rfl,rfl,⟨rfl,λ_ h=>(nomatch h)⟩⟩,none,none,none,none,none,rfl⟩ (λi acc σ' H' h=>?_) ?_ (λi acc σ' H' _ h=>SqL.of (h.1 _ _ eta)) (λi x acc σ' H' hx h=>?_) (λacc σ' H' h tb htb=>?_)
 ·obtain⟨_,⟨L',rfl,hl,_⟩,_⟩:=h;rw[ae,hl];exact aY _
 ·rw[ae,hL];exact ay hlen Qd
 ·obtain⟨s1,⟨L',rfl,hl,RL'⟩,o0,o1,o2,o3,o4,rfl⟩:=h;rw[ap]at hx;cases eq:L[i]? with
  |none=>rw[eq]at hx;cases hx
  |some qq=>
   rw[eq]at hx;cases hx;have er:ti[i]?=some qq.1:=by rw[<-RL.1,ap,eq];rfl
   refine hs qq o0 o1 o2 o3 o4 H' (λy σ2 H4=>aU H H4/\(∃L'':List (dw×Addr),L'.map (λq=>V.ref q.2)++[y]=L''.map (λq=>V.ref q.2)/\L''.length=i+1/\Rows H4 L'' ((ti.take (i+1)).map φ))/\∃o0 o1 o2 o3 o4,σ2=[o0,o1,o2,o3,o4]++iq σ js) _ (ao er) (s1 _ _ (RL.2 qq (ao eq))) (λt p0 p1 p2 p3 p4 ht=>?_);have z:=aU.new (o:=.tup (φ qq.1).tup) ht;refine⟨s1.trans z,⟨L'++[(φ qq.1,t)],by rw[ah];rfl,by rw[aI,hl];rfl,⟨?_,λy hy=>?_⟩⟩,_,_,_,_,_,rfl⟩
   ·rw[ah,RL'.1,bi,er,ah];rfl
   ·rcases aw.mp hy with hy|hy
    ·exact z _ _ (RL'.2 y hy)
    ·rw[ar.mp hy];exact ai
 ·obtain⟨s1,⟨L',rfl,hl,RL'⟩,_⟩:=h;rw[ae,hL,bf]at RL';have z:=aU.new (o:=.lst (L'.map λq=>V.ref q.2)) htb;exact hd tb L' _ (s1.trans z) (RL'.same z) ai
theorem ro{S:NS}(h:∀r∈S.ti,∃c k,r.nm=kJ c k):("onemoretie":Str)∉S.nms:=λz=>by
 obtain⟨r,hr,e⟩:=aj.mp z;obtain⟨c,k,e2⟩:=h r hr;have e3:kJ c k="onemoretie":=e2.symm.trans e;have e4:=b6 (λx:Str=>x.cps.size) e3;have e5:(kJ c k).cps.size=(nR c k).length:=by unfold kJ;exact bv
 have e6:("onemoretie":Str).cps.size=10:=Qk;have:=(qv c).2;rw[<-rF c k]at this;have e7:(kJ c k).cps.size=10:=e4.trans e6;omega
theorem pA:cE "onemoretie"=true:=Qk
def qW(K:ag):Sp:=λvs H Q _=>∃(a:Addr)(ns:List Int),vs=[.ref a]/\SqL K H a (ns.map V.int)/\ns.length<=63/\∀H',Q (.bl true) H'
section
variable{P:Program}{w:World}{K:ag}{mg:Str->Option Value}{base:Heap}{C:Addr}
abbrev Fp:List Str:=["_law_script","_law_places","_law_ties","_law_net_here","_law_turned","_law_told","_law_names","_law_some","_law_by","_law_wide","_law_cell","_law_more","_law_width","_law_a","_law_b","_law_term","_law_value","_law_others"]
theorem cM:bG Fp ["_law_script"] (aA s_law):=⟨rfl,rfl,rfl,Qk,rfl,Qk,Qk⟩
theorem Bb{f:Addr}{fd:FuncData}(F:fI K "law" "law" s_law f fd)(T:fo K mg C)(cl_cell_at:dc P w K mg base 1 "_law_cell_at" ["_law_script","_law_k"] (pX K))(cl_parts:dc P w K mg base 2 "_law_parts" ["_law_script"] (vA K))(cl_net:dc P w K mg base 5 "_law_net" ["_law_places","_law_ties"] (Ag C))
  (cl_renamed:dc P w K mg base 1 "_law_renamed" ["_law_places","_law_ties","_law_turn"] D4)(cvalue_of:dc P w K mg base 10 "value_of" ["net","term"] (sQ C))(cl_between:dc P w K mg base 1 "_law_between" ["_law_least","_law_value","_law_most"] Ai)
  (cl_one:dc P w K mg base 12 "_law_one" ["_law_net_here","_law_places","_law_ties","_law_cell","_law_others"] (vF C))(m_twin:gt P w K mg base 3 C "twin" ["self"] (Ac C))(m_tie:gt P w K mg base 4 C "tie" ["self","name","a","b","width","cost"] (Ad C))(m_places:gt P w K mg base 1 C "places" ["self"] (g_ C))(m_ties:gt P w K mg base 1 C "ties" ["self"] (iu C)):
  FnOk P w K mg base fA 13 f fd ["_law_script"] (qW K):=by
 refine F.ok cM (λvs H Q E h=>?_) (λcdv A outer s H vs Q E hr h=>?_)
 ·obtain⟨a,ns,rfl,_⟩:=h;rfl
 ·obtain⟨a,ns,rfl,hS,hlen,q⟩:=h;have hU:=hr.units;have r1:c_ 1 _:=hr.mono Qd;have r2:c_ 2 _:=hr.mono Qd;have r3:c_ 3 _:=hr.mono Qd;have r4:c_ 4 _:=hr.mono Qd;have r5:c_ 5 _:=hr.mono Qd;have r10:c_ 10 _:=hr.mono Qd;have nd_0:List.Nodup (["_law_name_here","_law_a","_law_b","_law_width","_law_cost"]:List Str):=Qk;have nd_2:List.Nodup (["_law_name_here","_law_a","_law_b","_law_width","_law_cost","_law_by"]:List Str):=Qk;refine⟨_,(ax (tj (ba cl_parts r2 Qr (pa_cons (pv 0) pa_nil)) (ge rfl (bq (be (i:=1) cM.nd rfl (aN rfl)) (bq (be (i:=2) cM.nd rfl (aN rfl)) dI))))
   (dA (b9 (bJ d9 (bP dP (bP fq (ba cl_cell_at r1 Qr (pa_cons (pv 0) (pa_cons aD pa_nil))) aD) aD) aD (nomark _)) (aS (gd (j:=2) (N:=["_law_name_here","_law_a","_law_b","_law_width","_law_cost"]) (xs:=5) (js:=[]) rfl cM.nd rfl rfl (bt rfl) (bU (pv 2)) (λ_ _ _ _=>kU (n:=5) K Qr Qr (bq (be (i:=0) nd_0 rfl (aN rfl)) (bq (be (i:=1) nd_0 rfl (aN rfl)) (bq (be (i:=2) nd_0 rfl (aN rfl)) (bq (be (i:=3) nd_0 rfl (aN rfl)) (bq (be (i:=4) nd_0 rfl (aN rfl)) dI)))))) (λ_ _ _ _=>cV) (λ_ _ _ _=>bX (pa_cons (pv 0) (pa_cons (pv 1) (pa_cons (pv 2) (pa_cons (bP dG (bP nJ (pv 3) (bP A1 aD aD)) aD) (pa_cons (pv 4) pa_nil)))))) rfl)) bF)
   (ax (bH (i:=3) cM.nd rfl (aN rfl) (ba cl_net r5 Qr (pa_cons (pv 1) (pa_cons (pv 2) pa_nil))))
   (ax (bH (i:=4) cM.nd rfl (aN rfl) (ba cl_net r5 Qr (pa_cons (pv 1) (pa_cons (cW (N:=["_law_name_here","_law_a","_law_b","_law_width","_law_cost"]) (xs:=5) (js:=[]) rfl (bt rfl) (bU (pv 2)) (λ_ _ _ _=>kU (n:=5) K Qr Qr (bq (be (i:=0) nd_0 rfl (aN rfl)) (bq (be (i:=1) nd_0 rfl (aN rfl)) (bq (be (i:=2) nd_0 rfl (aN rfl)) (bq (be (i:=3) nd_0 rfl (aN rfl)) (bq (be (i:=4) nd_0 rfl (aN rfl)) dI)))))) (λ_ _ _ _=>cV) (λ_ _ _ _=>bX (pa_cons (pv 0) (pa_cons (pv 2) (pa_cons (pv 1) (pa_cons (pv 3) (pa_cons (pv 4) pa_nil))))))) pa_nil))))
   (ax (tj (ba cl_renamed r1 Qr (pa_cons (pv 1) (pa_cons (pv 2) (pa_cons (ba cl_cell_at r1 Qr (pa_cons (pv 0) (pa_cons aD pa_nil))) pa_nil)))) (ge rfl (bq (be (i:=5) cM.nd rfl (aN rfl)) (bq (be (i:=6) cM.nd rfl (aN rfl)) (bq (be (i:=7) cM.nd rfl (aN rfl)) dI)))))
   (dA (bH (i:=8) cM.nd rfl (iz rfl) (bP dG aD (bP dP (ba cl_cell_at r1 Qr (pa_cons (pv 0) (pa_cons aD pa_nil))) (bP A1 aD aD))))
   (ax (bH (i:=9) cM.nd rfl (aN rfl) (ba cl_net r5 Qr (pa_cons (pv 1) (pa_cons (cW (N:=["_law_name_here","_law_a","_law_b","_law_width","_law_cost","_law_by"]) (xs:=5) (js:=[8]) rfl (bt rfl) (bU (pv 2)) (λ_ _ _ _=>kU (n:=5) K Qr Qr (bq (be (i:=0) nd_2 rfl (aN rfl)) (bq (be (i:=1) nd_2 rfl (aN rfl)) (bq (be (i:=2) nd_2 rfl (aN rfl)) (bq (be (i:=3) nd_2 rfl (aN rfl)) (bq (be (i:=4) nd_2 rfl (aN rfl)) dI)))))) (λ_ _ _ _=>cV) (λ_ _ _ _=>bX (pa_cons (pv 0) (pa_cons (pv 1) (pa_cons (pv 2) (pa_cons (bP nJ (pv 3) (pv 5)) (pa_cons (pv 4) pa_nil))))))) pa_nil))))
   (ax (bH (i:=10) cM.nd rfl (aN rfl) (bP fq (ba cl_cell_at r1 Qr (pa_cons (pv 0) (pa_cons aD pa_nil))) aD))
   (ax (bH (i:=11) cM.nd rfl (aN rfl) h_)
   (ax (bH (i:=12) cM.nd rfl (aN rfl) (bP dG aD (bP dP (bP fq (pv 10) aD) aD)))
   (ax (bH (i:=13) cM.nd rfl (aN rfl) (bw cP (pv 1) (bP dP (pv 10) (pe_callB call_len_seq Qr T.len b_len (pa_cons (pv 1) pa_nil))) (λ_ _=>Qr)))
   (dA (bH (i:=14) cM.nd rfl (aN rfl) (bw cP (pv 1) (bP dP (bP fq (pv 10) aD) (pe_callB call_len_seq Qr T.len b_len (pa_cons (pv 1) pa_nil))) (λ_ _=>Qr)))
   (dA (b9 (bJ A2 (pv 13) (pv 14) (nomark _)) (ax (bH (i:=11) cM.nd rfl (aN rfl) (cB (pv 3) T.cl m_twin r3))
   (ax (du (nG (pv 11) T.cl m_tie r4 (pa_cons bQ (pa_cons (pv 13) (pa_cons (pv 14) (pa_cons (pv 12) (pa_cons aD pa_nil)))))))
   (ax (bH (i:=15) cM.nd rfl (aN rfl) (bX (pa_cons bQ (pa_cons (bX (pa_cons bQ pa_nil)) (pa_cons (bX (pa_cons bQ pa_nil)) pa_nil)))))
   (ax (bH (i:=16) cM.nd rfl (aN rfl) (ba cvalue_of r10 Qr (pa_cons (pv 3) (pa_cons (pv 15) pa_nil))))
   (aS (b9 (dB (cY (ba cl_between r1 Qr (pa_cons (pv 16) (pa_cons (ba cvalue_of r10 Qr (pa_cons (pv 11) (pa_cons (pv 15) pa_nil))) (pa_cons (bP dG (pv 16) aD) pa_nil)))))) (aS (bC jh)) bF)))))) bF)
   (ax (bH (i:=17) cM.nd rfl (aN rfl) (bX (pa_cons (pv 4) (pa_cons (ba cl_net r5 Qr (pa_cons (pv 6) (pa_cons (pv 7) pa_nil))) (pa_cons (pv 5) (pa_cons (pv 9) (pa_cons (pv 8) (pa_cons (pv 11) (pa_cons (pv 12) pa_nil)))))))))
   (ax (fg PassesOwn.never rfl (bU (bP nK (jC p5 (pv 0) (iT aD) (iT aD)) (dC (pa_cons (ba cl_cell_at r1 Qr (pa_cons (pv 0) (pa_cons aD pa_nil))) pa_nil)))) (be (i:=10) cM.nd rfl (aN rfl))
     (aS (b9 (dB (cY (ba cl_one hr Qr (pa_cons (pv 3) (pa_cons (pv 1) (pa_cons (pv 2) (pa_cons (pv 10) (pa_cons (pv 17) pa_nil)))))))) (aS (bC jh)) bF)))
   (aS (bC (iV (dJ (qc hU) (cB (pv 3) T.cl m_places r1) (pv 1) (nomark _)) (iU (dJ (qc hU) (cB (pv 3) T.cl m_ties r1) (pv 2) (nomark _))))))))))))))))))))),?_⟩
  refine⟨_,rfl,a,ns,rfl,hS,λt pa ta0 S0 H0 s0 et PA0 g0 w4 nm0=>?_⟩;refine⟨t,_,rfl,cG.of et,rfl,_,_,rfl,_,_,rfl,rfl,?_⟩;refine⟨λσ' H'=>∃(ta:Addr)(S:NS),σ'=[some (.ref a),some (.ref pa),some (.ref ta),none,none,none,none,none,none,none,none,none,none,none,none,none,none,none]/\aU H H'/\ir H' pa ta S/\iO S/\∀r∈S.ti,∃c k,r.nm=kJ c k,?_,?_⟩
  ·refine⟨_,rfl,a,ns,0,rfl,s0.seq hS,Qd,_,_,rfl,rfl,⟨Qd,Qd⟩,_,_,rfl,rfl,(by show(0:Int)<4;decide),rfl,_,rfl,oK (λ_=>?_) (λ_=>⟨ta0,S0,rfl,s0,PA0,g0,nm0⟩)⟩;obtain⟨L,RL,eta⟩:=PA0.ti;refine⟨_,rfl,ta0,rfl,⟨_,SqL.of eta⟩,lS RL eta g0.lenT (q_ λw=>w*10^50+1) (λqq o0 o1 o2 o3 o4 H' R R0 hq et' k=>?_) (λtb L' H' s' RL' etb=>?_)⟩
   ·refine⟨qq.2,_,rfl,cG.of et',rfl,_,_,rfl,_,_,rfl,_,_,rfl,_,_,rfl,_,_,rfl,rfl,?_⟩;have w1:=(g0.neT qq.1 hq).2;have w2:=w4 qq.1 hq;refine⟨_,rfl,_,rfl,_,rfl,_,rfl,_,_,rfl,rfl,⟨Qd,Qd,Qd⟩,_,_,rfl,rfl,.inl ⟨Qo,Qo⟩,_,_,rfl,rfl,_,rfl,(by show 5<=sizeLine;decide),λt ht=>k t _ _ _ _ _ ht⟩
   ·refine⟨tb,⟨S0.pl,S0.ti.map (q_ λw=>w*10^50+1)⟩,rfl,s0.trans s',⟨s' _ _ PA0.pl,L',RL',etb⟩,lR g0 λr hr=>?_,λr hr=>?_⟩
    ·have:=(g0.neT r hr).2;omega
    ·obtain⟨r0,h0,rfl⟩:=aj.mp hr;exact nm0 r0 h0
  rintro σ1 H1⟨ta,S,rfl,s1,PA,g,nmS⟩;have netsOf:∀{p ds dl:Addr}{S':NS}{H':Hp},iO S'->fF C H' p ds dl S'->fW C H' p ds dl S':=λg N=>⟨N,g.ndT,ay g.lenT Qd,ay g.lenP Qd,g.ndP,g.okP,g.okT⟩;refine⟨_,rfl,_,rfl,pa,ta,S,rfl,PA,g,λx ds dl H2 s2 N=>?_⟩;have PA2:=PA.same s2;obtain⟨L,RL,eta⟩:=PA2.ti;refine⟨_,rfl,_,rfl,ta,rfl,⟨_,SqL.of eta⟩,lS RL eta g.lenT jx (λqq o0 o1 o2 o3 o4 H' R R0 hq et' k=>?_) (λtb L' H3 s3 RL' etb=>?_)⟩
  ·refine⟨qq.2,_,rfl,cG.of et',rfl,_,_,rfl,_,_,rfl,_,_,rfl,_,_,rfl,_,_,rfl,rfl,?_⟩;exact⟨_,rfl,_,rfl,_,rfl,_,rfl,_,rfl,(by show 5<=sizeLine;decide),λt ht=>k t _ _ _ _ _ ht⟩
  refine⟨pa,tb,⟨S.pl,S.ti.map jx⟩,rfl,⟨s3 _ _ PA2.pl,L',RL',etb⟩,pF g,λx1 d1 l1 H4 s4 N1=>?_⟩;have s24:=s3.trans s4;have s14:=s1.trans (s2.trans s24);refine⟨_,rfl,_,rfl,_,rfl,a,ns,3,rfl,s14.seq hS,Qd,pa,ta,S,dm ns 3,rfl,PA2.same s24,g,λrt td nl fl S2 H5 s5 ert etd PAr gr RS hin=>?_⟩;refine⟨rt,_,rfl,cG.of ert,rfl,_,_,rfl,_,_,rfl,_,_,rfl,rfl,?_⟩;have s15:=s14.trans s5;refine⟨λσ' H'=>∃by_:Int,σ'=[some (.ref a),some (.ref pa),some (.ref ta),some (.ref x),some (.ref x1),some (.ref td),some (.ref nl),some (.ref fl),some (.int by_),none,none,none,none,none,none,none,none,none]/\H'=H5/\1<=by_/\by_<=10^9,?_,?_⟩
  ·have e9:(10:Int)^(9:Int).toNat=1000000000:=Qk;refine⟨_,rfl,a,ns,3,rfl,s15.seq hS,Qd,_,_,rfl,rfl,⟨Qd,Qd,Qd⟩,_,_,rfl,rfl,(by show(0:Int)<10^(9:Int).toNat;decide+kernel),_,_,rfl,rfl,?_⟩;refine⟨1+dm ns 3%10^(9:Int).toNat,rfl,rfl,?_,?_⟩<;>rw[e9]<;>omega
  rintro σ2 H5'⟨by_,rfl,rfl,by1,by2⟩;have PA5:=PA2.same (s24.trans s5);obtain⟨L5,RL5,eta5⟩:=PA5.ti;refine⟨_,rfl,_,rfl,ta,rfl,⟨_,SqL.of eta5⟩,lS RL5 eta5 g.lenT (md by_) (λqq o0 o1 o2 o3 o4 H' R R0 hq et' k=>?_) (λtb6 L6 H6 s6 RL6 etb6=>?_)⟩
  ·refine⟨qq.2,_,rfl,cG.of et',rfl,_,_,rfl,_,_,rfl,_,_,rfl,_,_,rfl,_,_,rfl,rfl,?_⟩;exact⟨_,rfl,_,rfl,_,rfl,_,rfl,_,rfl,_,_,rfl,rfl,.inr ⟨Qo,Qo⟩,_,rfl,(by show 5<=sizeLine;decide),λt ht=>k t _ _ _ _ _ ht⟩
  refine⟨pa,tb6,⟨S.pl,S.ti.map (md by_)⟩,rfl,⟨s6 _ _ PA5.pl,L6,RL6,etb6⟩,lR (f:=λw=>w*by_) g λr hr=>?_,λx3 d3 l3 H7 s7 N3=>?_⟩
  ·have h1:=(g.neT r hr).2;have:=Int.mul_pos (a:=r.w) (b:=by_) Qo Qo;show 1<=r.w*by_;omega
  have s57:=s6.trans s7;have s17:=s15.trans s57;have PA7:=PA5.same s57;have hlp:(0:Int)<((S.pl.map V.str).length:Int):=by
   rw[ae];have:=g.neP;omega
  refine⟨_,rfl,a,ns,3,rfl,s17.seq hS,Qd,_,_,rfl,rfl,⟨Qd,Qd⟩,?_⟩;obtain⟨cell,ecell⟩:∃cell:Int,dm ns 3/7=cell:=⟨_,rfl⟩;refine⟨_,rfl,_,_,rfl,rfl,⟨Qd,Qd⟩,_,_,rfl,rfl,(by show(0:Int)<9;decide),_,_,rfl,rfl,?_⟩;obtain⟨b1,hb1,eb1⟩:=mT g.neP cell;obtain⟨b2,hb2,eb2⟩:=mT g.neP (cell/6);rw[<-ecell]at eb1 eb2;refine⟨_,rfl,_,rfl,_,rfl,pa,_,rfl,.inl (SqL.of PA7.pl),_,_,rfl,rfl,hlp,pa,_,_,.str b1,rfl,rfl,SqL.of PA7.pl,eb1,?_⟩;refine⟨λσ' H'=>∃cell wd:Int,σ'=[some (.ref a),some (.ref pa),some (.ref ta),some (.ref x),some (.ref x1),some (.ref td),some (.ref nl),some (.ref fl),some (.int by_),some (.ref x3),some (.int cell),some .non,some (.int wd),some (.str b1),some (.str b2),none,none,none]/\H'=H7/\1<=wd,?_,?_⟩
  ·have h9:=cK (dm ns 3/7/36) (by decide:(9:Int)≠0);exact⟨_,rfl,_,rfl,_,_,rfl,rfl,⟨Qd,Qd⟩,_,rfl,pa,_,rfl,.inl (SqL.of PA7.pl),_,_,rfl,rfl,hlp,pa,_,_,.str b2,rfl,rfl,SqL.of PA7.pl,eb2,dm ns 3/7,1+dm ns 3/7/36%9,rfl,rfl,Qo⟩
  clear eb1 eb2 ecell cell;rintro σ3 H8⟨cell,wd,rfl,rfl,wd1⟩;refine⟨λσ' H'=>∃(mv:V)(o15 o16:Option V),σ'=[some (.ref a),some (.ref pa),some (.ref ta),some (.ref x),some (.ref x1),some (.ref td),some (.ref nl),some (.ref fl),some (.int by_),some (.ref x3),some (.int cell),some mv,some (.int wd),some (.str b1),some (.str b2),o15,o16,none]/\aU H8 H'/\(mv=.non \/∃p4 ds dl S4 r0,mv=.ref p4/\fW C H' p4 ds dl S4/\S4.pl=S.pl/\S4.ti=S.ti++[r0]/\0<=r0.w/\r0.w=wd),?_,?_⟩
  ·refine⟨_,rfl,_,rfl,rfl,_,rfl,?_⟩;by_cases hab:b1=b2
   ·exact cq (by rw[af (b6 V.str hab)];rfl) ⟨.non,_,_,rfl,aU.refl _,.inl rfl⟩
   refine dH (by rw[am λz=>hab (V.str.inj z)];rfl) ?_;have N7:=N.same (s24.trans (s5.trans s57));obtain⟨dx,hob⟩:=N7.ob;refine⟨_,rfl,x,dx,_,rfl,hob,df ds dl Qk Qk,x,ds,dl,S,rfl,N7,λx4 d4 l4 H9 s9 n4 nd4 nl4 N4=>?_⟩;obtain⟨dx4,hob4⟩:=N4.ob;have we:fe S.pl b1 b2=S.pl:=wM hb1 hb2;refine⟨_,rfl,x4,dx4,_,rfl,hob4,df d4 l4 Qk Qk,_,rfl,_,rfl,_,rfl,x4,d4,l4,S,⟨"onemoretie",b1,b2,wd,0⟩,rfl,N4,pA,g.okP _ hb1,g.okP _ hb2,ro nmS,hab,wd1,d7 g.lenT Qd,?_,λH10 N10 b10=>?_⟩
   ·show(fe S.pl b1 b2).length<=20;rw[we];exact ay g.lenP Qd
   have N10':fF C H10 x4 d4 l4 ⟨S.pl,S.ti++[⟨"onemoretie",b1,b2,wd,0⟩]⟩:=by
    rw[<-we];exact N10
   have s10:aU H8 H10:=λb ob e=>b10 b ob (s9 b ob e) (aZ e nd4) (aZ e nl4);clear N10 b10 N4 hob4 hob;have g4:fW C H10 x4 d4 l4 ⟨S.pl,S.ti++[⟨"onemoretie",b1,b2,wd,0⟩]⟩:=by
    refine⟨N10',?_,?_,ay g.lenP Qd,g.ndP,g.okP,λr hr=>?_⟩
    ·show((S.ti++[(⟨"onemoretie",b1,b2,wd,0⟩:dw)]).map (·.nm)).Nodup;rw[ah];exact iY g.ndT (ro nmS)
    ·show(S.ti++[_]).length<=40;rw[aI];have:=g.lenT;show S.ti.length+1<=40;omega
    ·rcases aw.mp hr with hr|hr
     ·exact g.okT r hr
     ·rw[ar.mp hr];exact⟨pA,hb1,hb2⟩
   have w0:∀r∈S.ti,0<=r.w:=λr hr=>iP Qd (g.neT r hr).2;have w40:∀r∈S.ti++[⟨"onemoretie",b1,b2,wd,0⟩],0<=r.w:=λr hr=>by
    rcases aw.mp hr with hr|hr
    ·exact w0 r hr
    ·rw[ar.mp hr];exact iP Qd wd1
   refine⟨(by show 1<=sizeLine;decide),λt1 ht1=>⟨(by show 1<=sizeLine;decide),λt2 ht2=>⟨(by show 3<=sizeLine;decide),λt3 ht3=>?_⟩⟩⟩;have z1:=aU.new (o:=.tup [.str "all"]) ht1;have f1:(upd H10 t1 (.tup [.str "all"])) t1=some (.tup [.str "all"]):=ai;generalize upd H10 t1 (.tup [.str "all"])=H11 at*;have z2:=aU.new (o:=.tup [.str "all"]) ht2;have f2:(upd H11 t2 (.tup [.str "all"])) t2=some (.tup [.str "all"]):=ai;generalize upd H11 t2 (.tup [.str "all"])=H12 at*;have z3:=aU.new (o:=.tup [.str "pairs",.ref t1,.ref t2]) ht3;have pt:ly (upd H12 t3 (.tup [.str "pairs",.ref t1,.ref t2])) t3 .all .all:=⟨t1,t2,ai,z3 _ _ (z2 _ _ f1),z3 _ _ f2⟩;generalize upd H12 t3 (.tup [.str "pairs",.ref t1,.ref t2])=H13 at*;have s13:=z1.trans (z2.trans z3);refine⟨_,rfl,_,rfl,x,ds,dl,t3,S,.pr,rfl,(netsOf g N7).same (s10.trans s13),pt,trivial,w0,λv H14 s14' hv=>?_⟩;refine⟨_,rfl,_,rfl,_,rfl,x4,d4,l4,t3,_,.pr,rfl,g4.same (s13.trans s14'),ly.same s14' pt,trivial,w40,λv' H15 s15' hv'=>?_⟩;have hm:=tS (S:=S) (S':=⟨S.pl,S.ti++[(⟨"onemoretie",b1,b2,wd,0⟩:dw)]⟩) (r0:=(⟨"onemoretie",b1,b2,wd,0⟩:dw)) g.ndP rfl rfl hv hv';refine⟨_,rfl,_,_,rfl,rfl,v,v',v+1,rfl,_,rfl,cq (by rw[af hm.1,af hm.2];rfl) ?_⟩;have s1015:=s13.trans (s14'.trans s15');exact⟨_,_,_,rfl,s10.trans s1015,.inr ⟨x4,d4,l4,_,_,rfl,g4.same s1015,rfl,rfl,iP Qd wd1,rfl⟩⟩
  rintro σ4 H9⟨mv,o15,o16,rfl,s9,hmo⟩;have s59:=s57.trans s9;refine⟨_,rfl,_,rfl,_,rfl,nl,fl,S2,rfl,PAr.same s59,gr,λx2 d2 l2 H10 s10 N2=>⟨_,rfl,_,rfl,_,rfl,_,rfl,_,rfl,(by show 7<=sizeLine;decide),λoa hoa=>?_⟩⟩;have z11:=aU.new (o:=.tup [.ref x1,.ref x2,.ref td,.ref x3,.int by_,mv,.int wd]) hoa;have eoa:(upd H10 oa (.tup [.ref x1,.ref x2,.ref td,.ref x3,.int by_,mv,.int wd])) oa=some (.tup [.ref x1,.ref x2,.ref td,.ref x3,.int by_,mv,.int wd]):=ai;generalize upd H10 oa (.tup [.ref x1,.ref x2,.ref td,.ref x3,.int by_,mv,.int wd])=H11 at*;have s911:=s10.trans z11;have s511:=s59.trans s911;have s411:=s5.trans s511;have s211:=s24.trans s411;have s011:=s1.trans (s2.trans s211);have O:GA C H11 S x1 x2 td x3 by_ mv wd:=by
   refine⟨⟨d1,l1,_,netsOf (pF g) (N1.same s411),rfl,rfl⟩,⟨d2,l2,S2,dm ns 3,netsOf gr (N2.same z11),RS,hin,λr hr=>iP Qd (gr.neT r hr).2,s511 _ _ etd⟩,⟨d3,l3,⟨S.pl,S.ti.map (md by_)⟩,?_,rfl,rfl⟩,by1,by2,?_⟩
   ·refine netsOf (lR (f:=λw=>w*by_) g λr hr=>?_) (N3.same (s9.trans s911));have h1:=(g.neT r hr).2;have:=Int.mul_pos (a:=r.w) (b:=by_) Qo Qo;show 1<=r.w*by_;omega
   ·exact hmo.imp id λ⟨p4,a4,b4,c4,r0,e,d,f⟩=>⟨p4,a4,b4,c4,r0,e,d.same s911,f⟩
  have PA11:=PA2.same s211;have N11:=N.same s211;clear hmo N1 N2 N3 RL RL' RL5 RL6 etb etb6 eta eta5;refine⟨_,rfl,_,rfl,_,rfl,a,_,rfl,s011.seq hS,λq1 hq1=>?_⟩;have clen:(jP (ns.map V.int) (some 14) (some 30)).length<=30-14:=wR (ns.map V.int) (a:=14) (b:=30) Qd;have cint:=r_ (ns:=ns) (a:=some 14) (b:=some 30);generalize jP (ns.map V.int) (some 14) (some 30)=cells at clen cint;have z12:=aU.new (o:=.lst cells) hq1;have f1:(upd H11 q1 (.lst cells)) q1=some (.lst cells):=ai;generalize upd H11 q1 (.lst cells)=H12 at z12 f1;refine⟨_,rfl,a,ns,0,rfl,(s011.trans z12).seq hS,Qd,(by show 1<=sizeLine;decide),λq2 hq2=>?_⟩;have z13:=aU.new (o:=.lst [.int (dm ns 0)]) hq2;have f2:(upd H12 q2 (.lst [.int (dm ns 0)])) q2=some (.lst [.int (dm ns 0)]):=ai;have ci2:∀v∈([.int (dm ns 0)]:List V),∃i,v=V.int i:=λv hv=>⟨_,ar.mp hv⟩;have li2:([.int (dm ns 0)]:List V).length=1:=rfl;generalize([.int (dm ns 0)]:List V)=c2 at z13 f2 ci2 li2;generalize upd H12 q2 (.lst c2)=H13 at z13 f2;refine⟨q1,q2,_,_,rfl,rfl,z13 _ _ f1,f2,ay (show cells.length+c2.length<=100 by omega) Qd,λsc hsc=>⟨sc,rfl,⟨_,SqL.of ai⟩,?_⟩⟩;have cint2:∀v∈cells++c2,∃i,v=V.int i:=λv hv=>by
   rcases aw.mp hv with hv|hv
   ·exact cint v hv
   ·exact ci2 v hv
  generalize cells++c2=all at cint2;have z14:=aU.new (o:=.lst all) hsc;have f5:(upd H13 sc (.lst all)) sc=some (.lst all):=ai;generalize upd H13 sc (.lst all)=H14 at z14 f5;have s1114:=z12.trans (z13.trans z14);refine fi (K:=K) (a:=sc) (xs:=all) (λi σ' H'=>(∃o10:Option V,σ'=[some (.ref a),some (.ref pa),some (.ref ta),some (.ref x),some (.ref x1),some (.ref td),some (.ref nl),some (.ref fl),some (.int by_),some (.ref x3),o10,some mv,some (.int wd),some (.str b1),some (.str b2),o15,o16,some (.ref oa)])/\aU H14 H')
   ⟨⟨_,rfl⟩,aU.refl _⟩ (λi σ' H' _ h=>SqL.of (h.2 _ _ f5)) (λi v σ' H' hv h=>?_) (λσ' H' h=>?_)
  ·obtain⟨⟨o10,rfl⟩,t3⟩:=h;obtain⟨cell',rfl⟩:=cint2 v (ao hv);have s6':=s1114.trans t3;exact⟨_,rfl,_,rfl,_,rfl,_,rfl,_,rfl,x,ds,dl,pa,oa,x1,x2,td,x3,.ref ta,mv,S,cell',by_,wd,rfl,(netsOf g N11).same s6',s6' _ _ PA11.pl,g,s6' _ _ eoa,O.same s6',λH7' s7'=>⟨_,rfl,dz ⟨⟨_,rfl⟩,t3.trans s7'⟩⟩⟩
  ·obtain⟨⟨o10,rfl⟩,t3⟩:=h;have s23:=s1114.trans t3;have N4:=N11.same s23;have rok:∀r∈S.ti,cE r.nm=true/\cE r.a=true/\cE r.b=true:=λr hr=>⟨(g.okT r hr).1,g.okP _ (g.okT r hr).2.1,g.okP _ (g.okT r hr).2.2⟩;obtain⟨dx,h1'⟩:=N4.ob;refine⟨_,rfl,x,dx,_,rfl,h1',df ds dl Qk Qk,x,ds,dl,S,rfl,N4,λpl hpl=>?_⟩;have s5':=aU.new (o:=.lst (S.pl.map V.str)) hpl;have epl:(upd H' pl (.lst (S.pl.map V.str))) pl=some (.lst (S.pl.map V.str)):=ai;generalize upd H' pl (.lst (S.pl.map V.str))=H16 at s5' epl;have PA5':=PA11.same (s23.trans s5');have N5:=N4.same s5';obtain⟨dx5,h15⟩:=N5.ob;refine⟨_,rfl,2,_,_,Qd,p8 epl g.okP,p8 PA5'.pl g.okP,_,rfl,?_⟩;refine dH (by rw[aM aG,BC g.okP]) ?_;refine⟨_,rfl,x,dx5,_,rfl,h15,df ds dl Qk Qk,x,ds,dl,S,rfl,N5,λtl H17 L17 htl s17' RL17 etl=>?_⟩;have PA6':=PA5'.same s17';obtain⟨L2,RL2,eta2⟩:=PA6'.ti;refine⟨_,rfl,2,_,_,Qd,vQ (RL17.same s17') etl rok,vQ RL2 eta2 rok,?_⟩;rw[aM aG,BD];exact q _
end
end Net
namespace Net
open PySem L2
theorem Hl(K:ag):cg K (.type "int") (.type "bool")=some false:=by
 first|rfl|kernel_rfl
structure Fn(K:ag)(mg:Str->Option Value)(x:Str)(st:Stmt):Prop where
 ex:∃f fd,fI K x x st f fd/\mg x=some (.ref f)
structure Mt(K:ag)(C:Addr)(x qual:Str)(st:Stmt):Prop where
 ex:∃f fd,fI K x qual st f fd/\Ce K C x f
theorem cF{K:ag}{h:Heap}{mg:Str->Option Value}{x:Str}{st:Stmt}{f:Addr}{oc:Value}{od an:Option Addr}{osl:Array (Option Value)}{kV doc pm cdv ct:Value}(X:K.In h)(G:h.Ns mainGlobals mg)(a:aE K mainGlobals x=some (some (.ref f)))
  (l:K.lookup f=some ⟨oc,od,.func (aR x x (bB st) (bA st) (aA st) .none kV doc pm an cdv ct),osl⟩)(c:aH K cdv x=true)(k:az K (.ref f)=true):Fn K mg x st:=
 ⟨f,_,t_ l c k,fG X G a⟩
theorem px{K:ag}{C:Addr}{x qual:Str}{st:Stmt}{f:Addr}{oc:Value}{od an:Option Addr}{osl:Array (Option Value)}{kV doc pm cdv ct:Value}(a:bS K (.ref C) x=some (some (.ref f)))(i:eJ K (.ref f)=true)
  (l:K.lookup f=some ⟨oc,od,.func (aR x qual (bB st) (bA st) (aA st) .none kV doc pm an cdv ct),osl⟩)(c:aH K cdv qual=true)(k:az K (.ref f)=true):Mt K C x qual st:=
 ⟨f,_,t_ l c k,a,i,k⟩
section
variable{P:Program}{w:World}{K:ag}{mg:Str->Option Value}{base:Heap}{C:Addr}{k:Nat}{x qual:Str}{st:Stmt}{ps:List Str}{sp:Sp}
theorem Fn.can(F:Fn K mg x st)(ok:∀f fd,fI K x x st f fd->FnOk P w K mg base fA k f fd ps sp)
  (h:∀(kV doc pm:Value)(an:Option Addr)(cdv ct:Value)(us:List Value),us.length=ps.length->bindArgs (aR x x (bB st) (bA st) (aA st) .none kV doc pm an cdv ct) ⟨us,[]⟩=pure (ps.zip us)):dc P w K mg base k x ps sp:=by
 obtain⟨f,fd,G,m⟩:=F.ex;exact⟨f,fd,ok f fd G,m,G.kp,G.binds h⟩
theorem Mt.can(F:Mt K C x qual st)(ok:∀f fd,fI K x qual st f fd->FnOk P w K mg base fA k f fd ps sp)
  (h:∀(kV doc pm:Value)(an:Option Addr)(cdv ct:Value)(us:List Value),us.length=ps.length->bindArgs (aR x qual (bB st) (bA st) (aA st) .none kV doc pm an cdv ct) ⟨us,[]⟩=pure (ps.zip us)):gt P w K mg base k C x ps sp:=by
 obtain⟨f,fd,G,m⟩:=F.ex;exact⟨f,fd,ok f fd G,m,G.binds h⟩
theorem Mt.canI(F:Mt K C "__init__" qual st)(mk:iy K C=true)(kc:az K (.ref C)=true)(ok:∀f fd,fI K "__init__" qual st f fd->FnOk P w K mg base fA k f fd ps sp)
  (h:∀(kV doc pm:Value)(an:Option Addr)(cdv ct:Value)(us:List Value),us.length=ps.length->bindArgs (aR "__init__" qual (bB st) (bA st) (aA st) .none kV doc pm an cdv ct) ⟨us,[]⟩=pure (ps.zip us)):Cg P w K mg base k C ps sp:=by
 obtain⟨f,fd,G,m⟩:=F.ex;exact⟨f,fd,ok f fd G,⟨mk,m.at_,m.fn,kc⟩,G.binds h⟩
end
structure H_(K:ag)(mg:Str->Option Value)(C:Addr):Prop where
 T:fo K mg C
 mks:iy K C=true
 kc:az K (.ref C)=true
 tw:Ff mg
 ts:Fg mg
 tm:Fh mg
 mi:mg "min"=none
 re:mg "reversed"=none
 so:mg "sorted"=none
 wd:jS mg "WIDE" (.int 2)
 made:Fn K mg "is_made_of" s_is_made_of
 name:Fn K mg "is_name" s_is_name
 whole:Fn K mg "is_whole" s_is_whole
 rname:Fn K mg "refuse_no_name" s_refuse_no_name
 rwidth:Fn K mg "refuse_no_width" s_refuse_no_width
 rmore:Fn K mg "refuse_more" s_refuse_more
 init:Mt K C "__init__" "Net.__init__" s_Net_init
 place:Mt K C "place" "Net.place" s_Net_place
 tie:Mt K C "tie" "Net.tie" s_Net_tie
 places:Mt K C "places" "Net.places" s_Net_places
 ties:Mt K C "ties" "Net.ties" s_Net_ties
 twin:Mt K C "twin" "Net.twin" s_Net_twin
 cell:Fn K mg "_law_cell_at" s_l_cell_at
 isplace:Fn K mg "is_place" s_is_place
 alike:Fn K mg "are_unlike" s_are_unlike
 unlike:Fn K mg "are_unlike_places" s_are_unlike_places
 steps:Fn K mg "steps_of" s_steps_of
 noleave:Fn K mg "no_step_leaves" s_no_step_leaves
 within:Fn K mg "is_within" s_is_within
 stby:Fn K mg "steps_by_begin" s_steps_by_begin
 bfs:Fn K mg "steps_to_places" s_steps_to_places
 members:Fn K mg "members_of" s_members_of
 wpap:Fn K mg "within_paper" s_within_paper
 isrow:Fn K mg "is_row" s_is_row
 pair:Fn K mg "is_pair" s_is_pair
 leaving:Fn K mg "ties_leaving" s_ties_leaving
 fabove:Fn K mg "flow_above" s_flow_above
 aabove:Fn K mg "apart_above" s_apart_above
 babove:Fn K mg "bare_above" s_bare_above
 pabove:Fn K mg "pairs_above" s_pairs_above
 across:Fn K mg "shown_across" s_shown_across
 shown:Fn K mg "shown_bound" s_shown_bound
 free:Fn K mg "free_ways" s_free_ways
 add:Fn K mg "add_along" s_add_along
 great:Fn K mg "greatest_flow" s_greatest_flow
 arcsT:Fn K mg "arcs_of_ties" s_arcs_of_ties
 arcsO:Fn K mg "arcs_of_one" s_arcs_of_one
 arcsB:Fn K mg "arcs_through_places" s_arcs_through_places
 arcsP:Fn K mg "arcs_of_pairs" s_arcs_of_pairs
 pflow:Fn K mg "paper_of_flow" s_paper_of_flow
 papart:Fn K mg "paper_of_apart" s_paper_of_apart
 pbare:Fn K mg "paper_of_bare" s_paper_of_bare
 ppair:Fn K mg "paper_of_pairs" s_paper_of_pairs
 pone:Fn K mg "paper_of_one" s_paper_of_one
 find:Fn K mg "find_bound" s_find_bound
 val:Fn K mg "value_of" s_value_of
 lname:Fn K mg "_law_name" s_l_name
 parts:Fn K mg "_law_parts" s_l_parts
 lnet:Fn K mg "_law_net" s_l_net
 three:Fn K mg "_law_three" s_l_three
 ren:Fn K mg "_law_renamed" s_l_renamed
 bet:Fn K mg "_law_between" s_l_between
 one:Fn K mg "_law_one" s_l_one
theorem EV{P:Program}{w:World}{K:ag}{mg:Str->Option Value}{base:Heap}{C f:Addr}{fd:FuncData}(A:H_ K mg C)(F:fI K "law" "law" s_law f fd):FnOk P w K mg base fA 13 f fd ["_law_script"] (qW K):=by
 have T:=A.T;have made:dc P w K mg base 1 _ _ _:=A.made.can (λf fd F=>De F T) λ_ _ _ _ _ _ us hl=>match us,hl with|[_,_],_=>rfl
 have name:dc P w K mg base 2 _ _ _:=A.name.can (λf fd F=>Dd F T made) λ_ _ _ _ _ _ us hl=>match us,hl with|[_],_=>rfl
 have whole:dc P w K mg base 1 _ _ _:=A.whole.can (λf fd F=>A4 F T) λ_ _ _ _ _ _ us hl=>match us,hl with|[_],_=>rfl
 have rname:dc P w K mg base 3 _ _ _:=A.rname.can (λf fd F=>tF F T name) λ_ _ _ _ _ _ us hl=>match us,hl with|[_],_=>rfl
 have rwidth:dc P w K mg base 2 _ _ _:=A.rwidth.can (λf fd F=>rf F T whole) λ_ _ _ _ _ _ us hl=>match us,hl with|[_],_=>rfl
 have rmore:dc P w K mg base 1 _ _ _:=A.rmore.can (λf fd F=>tG F T) λ_ _ _ _ _ _ us hl=>match us,hl with|[_,_],_=>rfl
 have init:Cg P w K mg base 1 C _ _:=A.init.canI A.mks A.kc (λf fd F=>Dg F T) λ_ _ _ _ _ _ us hl=>match us,hl with|[_],_=>rfl
 have place:gt P w K mg base 4 C _ _ _:=A.place.can (λf fd F=>A7 F T rname rmore) λ_ _ _ _ _ _ us hl=>match us,hl with|[_,_],_=>rfl
 have tie:gt P w K mg base 4 C _ _ _:=A.tie.can (λf fd F=>EO F T rname rwidth rmore) λ_ _ _ _ _ _ us hl=>match us,hl with|[_,_,_,_,_,_],_=>rfl
 have places:gt P w K mg base 1 C _ _ _:=A.places.can (λf fd F=>xQ F T) λ_ _ _ _ _ _ us hl=>match us,hl with|[_],_=>rfl
 have ties:gt P w K mg base 1 C _ _ _:=A.ties.can (λf fd F=>Dc F T) λ_ _ _ _ _ _ us hl=>match us,hl with|[_],_=>rfl
 have twin:gt P w K mg base 3 C _ _ _:=A.twin.can (λf fd F=>Db F T A.tw.dict init) λ_ _ _ _ _ _ us hl=>match us,hl with|[_],_=>rfl
 have cell:dc P w K mg base 1 _ _ _:=A.cell.can (λf fd F=>Bf F T) λ_ _ _ _ _ _ us hl=>match us,hl with|[_,_],_=>rfl
 have isplaceD:dc P w K mg base 2 _ _ _:=A.isplace.can (λf fd F=>rg F T places) λ_ _ _ _ _ _ us hl=>match us,hl with|[_,_],_=>rfl
 have alike:dc P w K mg base 1 _ _ _:=A.alike.can (λf fd F=>Bl F T A.ts) λ_ _ _ _ _ _ us hl=>match us,hl with|[_],_=>rfl
 have unlike:dc P w K mg base 3 _ _ _:=A.unlike.can (λf fd F=>tD F T A.ts isplaceD alike) λ_ _ _ _ _ _ us hl=>match us,hl with|[_,_],_=>rfl
 have steps:dc P w K mg base 2 _ _ _:=A.steps.can (λf fd F=>A5 F T ties) λ_ _ _ _ _ _ us hl=>match us,hl with|[_,_],_=>rfl
 have noleave:dc P w K mg base 1 _ _ _:=A.noleave.can (λf fd F=>tI F T) λ_ _ _ _ _ _ us hl=>match us,hl with|[_,_],_=>rfl
 have within:dc P w K mg base 4 _ _ _:=A.within.can (λf fd F=>tz F T unlike steps noleave places) λ_ _ _ _ _ _ us hl=>match us,hl with|[_,_,_],_=>rfl
 have stbyS:dc P w K mg base 1 _ _ _:=A.stby.can (λf fd F=>F4 F T) λ_ _ _ _ _ _ us hl=>match us,hl with|[_],_=>rfl
 have bfsS:dc P w K mg base 2 _ _ _:=A.bfs.can (λf fd F=>ET F T stbyS) λ_ _ _ _ _ _ us hl=>match us,hl with|[_,_],_=>rfl
 have members:dc P w K mg base 3 _ _ _:=A.members.can (λf fd F=>tJ F T steps bfsS places) λ_ _ _ _ _ _ us hl=>match us,hl with|[_,_],_=>rfl
 have wpap:dc P w K mg base 4 _ _ _:=A.wpap.can (λf fd F=>xO F members) λ_ _ _ _ _ _ us hl=>match us,hl with|[_,_],_=>rfl
 have isrow:dc P w K mg base 1 _ _ _:=A.isrow.can (λf fd F=>Bc F T) λ_ _ _ _ _ _ us hl=>match us,hl with|[_,_],_=>rfl
 have pair:dc P w K mg base 2 _ _ _:=A.pair.can (λf fd F=>A9 F isrow) λ_ _ _ _ _ _ us hl=>match us,hl with|[_],_=>rfl
 have leaving:dc P w K mg base 4 _ _ _:=A.leaving.can (λf fd F=>tL F T unlike ties) λ_ _ _ _ _ _ us hl=>match us,hl with|[_,_,_],_=>rfl
 have fabove:dc P w K mg base 5 _ _ _:=A.fabove.can (λf fd F=>xV F A.tw leaving) λ_ _ _ _ _ _ us hl=>match us,hl with|[_,_,_],_=>rfl
 have aabove:dc P w K mg base 5 _ _ _:=A.aabove.can (λf fd F=>xX F T leaving) λ_ _ _ _ _ _ us hl=>match us,hl with|[_,_,_],_=>rfl
 have babove:dc P w K mg base 5 _ _ _:=A.babove.can (λf fd F=>xW F T pair unlike alike ties) λ_ _ _ _ _ _ us hl=>match us,hl with|[_,_,_],_=>rfl
 have pabove:dc P w K mg base 7 _ _ _:=A.pabove.can (λf fd F=>xT F T isrow within unlike ties) λ_ _ _ _ _ _ us hl=>match us,hl with|[_,_,_],_=>rfl
 have across:dc P w K mg base 6 _ _ _:=A.across.can (λf fd F=>EU F fabove aabove babove) λ_ _ _ _ _ _ us hl=>match us,hl with|[_,_,_,_],_=>rfl
 have shown:dc P w K mg base 8 _ _ _:=A.shown.can (λf fd F=>EQ F across pabove) λ_ _ _ _ _ _ us hl=>match us,hl with|[_,_,_,_],_=>rfl
 have stby:dc P w K mg base 1 _ _ _:=A.stby.can (λf fd F=>ES F T) λ_ _ _ _ _ _ us hl=>match us,hl with|[_],_=>rfl
 have bfs:dc P w K mg base 2 _ _ _:=A.bfs.can (λf fd F=>Dh F T stby) λ_ _ _ _ _ _ us hl=>match us,hl with|[_,_],_=>rfl
 have free:dc P w K mg base 3 _ _ _:=A.free.can (λf fd F=>Bd F bfs) λ_ _ _ _ _ _ us hl=>match us,hl with|[_,_,_],_=>rfl
 have add:dc P w K mg base 1 _ _ _:=A.add.can (λf fd F=>Di F A.mi) λ_ _ _ _ _ _ us hl=>match us,hl with|[_,_],_=>rfl
 have great:dc P w K mg base 4 _ _ _:=A.great.can (λf fd F=>xU F A.tw free add) λ_ _ _ _ _ _ us hl=>match us,hl with|[_,_,_],_=>rfl
 have arcsT:dc P w K mg base 2 _ _ _:=A.arcsT.can (λf fd F=>Bh F T ties) λ_ _ _ _ _ _ us hl=>match us,hl with|[_],_=>rfl
 have arcsO:dc P w K mg base 2 _ _ _:=A.arcsO.can (λf fd F=>Bj F T ties) λ_ _ _ _ _ _ us hl=>match us,hl with|[_],_=>rfl
 have arcsB:dc P w K mg base 2 _ _ _:=A.arcsB.can (λf fd F=>Bk F T A.wd places ties) λ_ _ _ _ _ _ us hl=>match us,hl with|[_,_,_],_=>rfl
 have arcsP:dc P w K mg base 2 _ _ _:=A.arcsP.can (λf fd F=>Bi F T A.wd ties) λ_ _ _ _ _ _ us hl=>match us,hl with|[_,_,_],_=>rfl
 have pflow:dc P w K mg base 5 _ _ _:=A.pflow.can (λf fd F=>xR F T arcsT great free) λ_ _ _ _ _ _ us hl=>match us,hl with|[_,_,_],_=>rfl
 have papart:dc P w K mg base 5 _ _ _:=A.papart.can (λf fd F=>tH F T arcsO great free) λ_ _ _ _ _ _ us hl=>match us,hl with|[_,_,_],_=>rfl
 have pbare:dc P w K mg base 5 _ _ _:=A.pbare.can (λf fd F=>xS F T places arcsB great free) λ_ _ _ _ _ _ us hl=>match us,hl with|[_,_,_],_=>rfl
 have ppair:dc P w K mg base 5 _ _ _:=A.ppair.can (λf fd F=>xP F members wpap arcsP great free) λ_ _ _ _ _ _ us hl=>match us,hl with|[_,_,_],_=>rfl
 have pone:dc P w K mg base 6 _ _ _:=A.pone.can (λf fd F=>A6 F pflow papart pbare ppair) λ_ _ _ _ _ _ us hl=>match us,hl with|[_,_,_],_=>rfl
 have find:dc P w K mg base 9 _ _ _:=A.find.can (λf fd F=>Be F pone shown) λ_ _ _ _ _ _ us hl=>match us,hl with|[_,_,_],_=>rfl
 have val:dc P w K mg base 10 _ _ _:=A.val.can (λf fd F=>Da F find) λ_ _ _ _ _ _ us hl=>match us,hl with|[_,_],_=>rfl
 have lname:dc P w K mg base 1 _ _ _:=A.lname.can (λf fd F=>Ba F T) λ_ _ _ _ _ _ us hl=>match us,hl with|[_,_],_=>rfl
 have parts:dc P w K mg base 2 _ _ _:=A.parts.can (λf fd F=>A8 F T A.tm cell lname) λ_ _ _ _ _ _ us hl=>match us,hl with|[_],_=>rfl
 have lnet:dc P w K mg base 5 _ _ _:=A.lnet.can (λf fd F=>Df F T init place tie) λ_ _ _ _ _ _ us hl=>match us,hl with|[_,_],_=>rfl
 have three:dc P w K mg base 11 _ _ _:=A.three.can (λf fd F=>tE F val) λ_ _ _ _ _ _ us hl=>match us,hl with|[_,_,_],_=>rfl
 have ren:dc P w K mg base 1 _ _ _:=A.ren.can (λf fd F=>ER F T A.tm A.re A.so) λ_ _ _ _ _ _ us hl=>match us,hl with|[_,_,_],_=>rfl
 have bet:dc P w K mg base 1 _ _ _:=A.bet.can (λf fd F=>Bg F T) λ_ _ _ _ _ _ us hl=>match us,hl with|[_,_,_],_=>rfl
 have one:dc P w K mg base 12 _ _ _:=A.one.can (λf fd F=>A_ F T three bet) λ_ _ _ _ _ _ us hl=>match us,hl with|[_,_,_,_,_],_=>rfl
 exact Bb F T cell parts lnet ren val bet one twin tie places ties
end Net
namespace Net
open PySem L2
theorem Fb{l:sv}{w:World}{K:ag}{h:Heap}{mg:Str->Option Value}{fa C:Addr}{f0:Addr}{od0 an0:Option Addr}{sl0:Array (Option Value)}{oc0 kV0 dc0 pm0 cd0 ct0:Value}{f1:Addr}{od1 an1:Option Addr}{sl1:Array (Option Value)}{oc1 kV1 dc1 pm1 cd1 ct1:Value}{f2:Addr}{od2 an2:Option Addr}{sl2:Array (Option Value)}{oc2 kV2 dc2 pm2 cd2 ct2:Value}{f3:Addr}{od3 an3:Option Addr}{sl3:Array (Option Value)}{oc3 kV3 dc3 pm3 cd3 ct3:Value}{f4:Addr}{od4 an4:Option Addr}{sl4:Array (Option Value)}{oc4 kV4 dc4 pm4 cd4 ct4:Value}{f5:Addr}{od5 an5:Option Addr}{sl5:Array (Option Value)}{oc5 kV5 dc5 pm5 cd5 ct5:Value}{f6:Addr}{od6 an6:Option Addr}{sl6:Array (Option Value)}{oc6 kV6 dc6 pm6 cd6 ct6:Value}{f7:Addr}{od7 an7:Option Addr}{sl7:Array (Option Value)}{oc7 kV7 dc7 pm7 cd7 ct7:Value}{f8:Addr}{od8 an8:Option Addr}{sl8:Array (Option Value)}{oc8 kV8 dc8 pm8 cd8 ct8:Value}{f9:Addr}{od9 an9:Option Addr}{sl9:Array (Option Value)}{oc9 kV9 dc9 pm9 cd9 ct9:Value}{f10:Addr}{od10 an10:Option Addr}{sl10:Array (Option Value)}{oc10 kV10 dc10 pm10 cd10 ct10:Value}{f11:Addr}{od11 an11:Option Addr}{sl11:Array (Option Value)}{oc11 kV11 dc11 pm11 cd11 ct11:Value}{f12:Addr}{od12 an12:Option Addr}{sl12:Array (Option Value)}{oc12 kV12 dc12 pm12 cd12 ct12:Value}{f13:Addr}{od13 an13:Option Addr}{sl13:Array (Option Value)}{oc13 kV13 dc13 pm13 cd13 ct13:Value}{f14:Addr}{od14 an14:Option Addr}{sl14:Array (Option Value)}{oc14 kV14 dc14 pm14 cd14 ct14:Value}{f15:Addr}{od15 an15:Option Addr}{sl15:Array (Option Value)}{oc15 kV15 dc15 pm15 cd15 ct15:Value}{f16:Addr}{od16 an16:Option Addr}{sl16:Array (Option Value)}{oc16 kV16 dc16 pm16 cd16 ct16:Value}{f17:Addr}{od17 an17:Option Addr}{sl17:Array (Option Value)}{oc17 kV17 dc17 pm17 cd17 ct17:Value}{f18:Addr}{od18 an18:Option Addr}{sl18:Array (Option Value)}{oc18 kV18 dc18 pm18 cd18 ct18:Value}{f19:Addr}{od19 an19:Option Addr}{sl19:Array (Option Value)}{oc19 kV19 dc19 pm19 cd19 ct19:Value}{f20:Addr}{od20 an20:Option Addr}{sl20:Array (Option Value)}{oc20 kV20 dc20 pm20 cd20 ct20:Value}{f21:Addr}{od21 an21:Option Addr}{sl21:Array (Option Value)}{oc21 kV21 dc21 pm21 cd21 ct21:Value}{f22:Addr}{od22 an22:Option Addr}{sl22:Array (Option Value)}{oc22 kV22 dc22 pm22 cd22 ct22:Value}{f23:Addr}{od23 an23:Option Addr}{sl23:Array (Option Value)}{oc23 kV23 dc23 pm23 cd23 ct23:Value}{f24:Addr}{od24 an24:Option Addr}{sl24:Array (Option Value)}{oc24 kV24 dc24 pm24 cd24 ct24:Value}{f25:Addr}{od25 an25:Option Addr}{sl25:Array (Option Value)}{oc25 kV25 dc25 pm25 cd25 ct25:Value}{f26:Addr}{od26 an26:Option Addr}{sl26:Array (Option Value)}{oc26 kV26 dc26 pm26 cd26 ct26:Value}{f27:Addr}{od27 an27:Option Addr}{sl27:Array (Option Value)}{oc27 kV27 dc27 pm27 cd27 ct27:Value}{f28:Addr}{od28 an28:Option Addr}{sl28:Array (Option Value)}{oc28 kV28 dc28 pm28 cd28 ct28:Value}{f29:Addr}{od29 an29:Option Addr}{sl29:Array (Option Value)}{oc29 kV29 dc29 pm29 cd29 ct29:Value}{f30:Addr}{od30 an30:Option Addr}{sl30:Array (Option Value)}{oc30 kV30 dc30 pm30 cd30 ct30:Value}{f31:Addr}{od31 an31:Option Addr}{sl31:Array (Option Value)}{oc31 kV31 dc31 pm31 cd31 ct31:Value}{f32:Addr}{od32 an32:Option Addr}{sl32:Array (Option Value)}{oc32 kV32 dc32 pm32 cd32 ct32:Value}{f33:Addr}{od33 an33:Option Addr}{sl33:Array (Option Value)}{oc33 kV33 dc33 pm33 cd33 ct33:Value}{f34:Addr}{od34 an34:Option Addr}{sl34:Array (Option Value)}{oc34 kV34 dc34 pm34 cd34 ct34:Value}{f35:Addr}{od35 an35:Option Addr}{sl35:Array (Option Value)}{oc35 kV35 dc35 pm35 cd35 ct35:Value}{f36:Addr}{od36 an36:Option Addr}{sl36:Array (Option Value)}{oc36 kV36 dc36 pm36 cd36 ct36:Value}{f37:Addr}{od37 an37:Option Addr}{sl37:Array (Option Value)}{oc37 kV37 dc37 pm37 cd37 ct37:Value}{f38:Addr}{od38 an38:Option Addr}{sl38:Array (Option Value)}{oc38 kV38 dc38 pm38 cd38 ct38:Value}{f39:Addr}{od39 an39:Option Addr}{sl39:Array (Option Value)}{oc39 kV39 dc39 pm39 cd39 ct39:Value}{f40:Addr}{od40 an40:Option Addr}{sl40:Array (Option Value)}{oc40 kV40 dc40 pm40 cd40 ct40:Value}{f41:Addr}{od41 an41:Option Addr}{sl41:Array (Option Value)}{oc41 kV41 dc41 pm41 cd41 ct41:Value}{f42:Addr}{od42 an42:Option Addr}{sl42:Array (Option Value)}{oc42 kV42 dc42 pm42 cd42 ct42:Value}{f43:Addr}{od43 an43:Option Addr}{sl43:Array (Option Value)}{oc43 kV43 dc43 pm43 cd43 ct43:Value}{f44:Addr}{od44 an44:Option Addr}{sl44:Array (Option Value)}{oc44 kV44 dc44 pm44 cd44 ct44:Value}{f45:Addr}{od45 an45:Option Addr}{sl45:Array (Option Value)}{oc45 kV45 dc45 pm45 cd45 ct45:Value}{f46:Addr}{od46 an46:Option Addr}{sl46:Array (Option Value)}{oc46 kV46 dc46 pm46 cd46 ct46:Value}{f47:Addr}{od47 an47:Option Addr}{sl47:Array (Option Value)}{oc47 kV47 dc47 pm47 cd47 ct47:Value}{f48:Addr}{od48 an48:Option Addr}{sl48:Array (Option Value)}{oc48 kV48 dc48 pm48 cd48 ct48:Value}{f49:Addr}{od49 an49:Option Addr}{sl49:Array (Option Value)}{oc49 kV49 dc49 pm49 cd49 ct49:Value}{f50:Addr}{od50 an50:Option Addr}{sl50:Array (Option Value)}{oc50 kV50 dc50 pm50 cd50 ct50:Value}{f51:Addr}{od51 an51:Option Addr}{sl51:Array (Option Value)}{oc51 kV51 dc51 pm51 cd51 ct51:Value}{f52:Addr}{od52 an52:Option Addr}{sl52:Array (Option Value)}{oc52 kV52 dc52 pm52 cd52 ct52:Value}{fL:Addr}{odL anL:Option Addr}{slL:Array (Option Value)}{ocL kVL dcL pmL cdL ctL:Value}{vWd:Value}{vS:Value}{vN:Value}{vP:Value}{vM:Value}
  (X:K.In h)(G:h.Ns mainGlobals mg)(hfa:mg "law"=some (.ref fa))
  (aC:aE K mainGlobals "Net"=some (some (.ref C)))
  (a0:aE K mainGlobals "is_made_of"=some (some (.ref f0)))
  (l0:K.lookup f0=some ⟨oc0,od0,.func (aR "is_made_of" "is_made_of" (bB s_is_made_of) (bA s_is_made_of) (aA s_is_made_of) .none kV0 dc0 pm0 an0 cd0 ct0),sl0⟩)(c0:aH K cd0 "is_made_of"=true)(k0:az K (.ref f0)=true)
  (a1:aE K mainGlobals "is_name"=some (some (.ref f1)))
  (l1:K.lookup f1=some ⟨oc1,od1,.func (aR "is_name" "is_name" (bB s_is_name) (bA s_is_name) (aA s_is_name) .none kV1 dc1 pm1 an1 cd1 ct1),sl1⟩)(c1:aH K cd1 "is_name"=true)(k1:az K (.ref f1)=true)
  (a2:aE K mainGlobals "is_whole"=some (some (.ref f2)))
  (l2:K.lookup f2=some ⟨oc2,od2,.func (aR "is_whole" "is_whole" (bB s_is_whole) (bA s_is_whole) (aA s_is_whole) .none kV2 dc2 pm2 an2 cd2 ct2),sl2⟩)(c2:aH K cd2 "is_whole"=true)(k2:az K (.ref f2)=true)
  (a3:aE K mainGlobals "refuse_no_name"=some (some (.ref f3)))
  (l3:K.lookup f3=some ⟨oc3,od3,.func (aR "refuse_no_name" "refuse_no_name" (bB s_refuse_no_name) (bA s_refuse_no_name) (aA s_refuse_no_name) .none kV3 dc3 pm3 an3 cd3 ct3),sl3⟩)(c3:aH K cd3 "refuse_no_name"=true)(k3:az K (.ref f3)=true)
  (a4:aE K mainGlobals "refuse_no_width"=some (some (.ref f4)))
  (l4:K.lookup f4=some ⟨oc4,od4,.func (aR "refuse_no_width" "refuse_no_width" (bB s_refuse_no_width) (bA s_refuse_no_width) (aA s_refuse_no_width) .none kV4 dc4 pm4 an4 cd4 ct4),sl4⟩)(c4:aH K cd4 "refuse_no_width"=true)(k4:az K (.ref f4)=true)
  (a5:aE K mainGlobals "refuse_more"=some (some (.ref f5)))
  (l5:K.lookup f5=some ⟨oc5,od5,.func (aR "refuse_more" "refuse_more" (bB s_refuse_more) (bA s_refuse_more) (aA s_refuse_more) .none kV5 dc5 pm5 an5 cd5 ct5),sl5⟩)(c5:aH K cd5 "refuse_more"=true)(k5:az K (.ref f5)=true)
  (a6:bS K (.ref C) "__init__"=some (some (.ref f6)))(i6:eJ K (.ref f6)=true)
  (l6:K.lookup f6=some ⟨oc6,od6,.func (aR "__init__" "Net.__init__" (bB s_Net_init) (bA s_Net_init) (aA s_Net_init) .none kV6 dc6 pm6 an6 cd6 ct6),sl6⟩)(c6:aH K cd6 "Net.__init__"=true)(k6:az K (.ref f6)=true)
  (a7:bS K (.ref C) "place"=some (some (.ref f7)))(i7:eJ K (.ref f7)=true)
  (l7:K.lookup f7=some ⟨oc7,od7,.func (aR "place" "Net.place" (bB s_Net_place) (bA s_Net_place) (aA s_Net_place) .none kV7 dc7 pm7 an7 cd7 ct7),sl7⟩)(c7:aH K cd7 "Net.place"=true)(k7:az K (.ref f7)=true)
  (a8:bS K (.ref C) "tie"=some (some (.ref f8)))(i8:eJ K (.ref f8)=true)
  (l8:K.lookup f8=some ⟨oc8,od8,.func (aR "tie" "Net.tie" (bB s_Net_tie) (bA s_Net_tie) (aA s_Net_tie) .none kV8 dc8 pm8 an8 cd8 ct8),sl8⟩)(c8:aH K cd8 "Net.tie"=true)(k8:az K (.ref f8)=true)
  (a9:bS K (.ref C) "places"=some (some (.ref f9)))(i9:eJ K (.ref f9)=true)
  (l9:K.lookup f9=some ⟨oc9,od9,.func (aR "places" "Net.places" (bB s_Net_places) (bA s_Net_places) (aA s_Net_places) .none kV9 dc9 pm9 an9 cd9 ct9),sl9⟩)(c9:aH K cd9 "Net.places"=true)(k9:az K (.ref f9)=true)
  (a10:bS K (.ref C) "ties"=some (some (.ref f10)))(i10:eJ K (.ref f10)=true)
  (l10:K.lookup f10=some ⟨oc10,od10,.func (aR "ties" "Net.ties" (bB s_Net_ties) (bA s_Net_ties) (aA s_Net_ties) .none kV10 dc10 pm10 an10 cd10 ct10),sl10⟩)(c10:aH K cd10 "Net.ties"=true)(k10:az K (.ref f10)=true)
  (a11:bS K (.ref C) "twin"=some (some (.ref f11)))(i11:eJ K (.ref f11)=true)
  (l11:K.lookup f11=some ⟨oc11,od11,.func (aR "twin" "Net.twin" (bB s_Net_twin) (bA s_Net_twin) (aA s_Net_twin) .none kV11 dc11 pm11 an11 cd11 ct11),sl11⟩)(c11:aH K cd11 "Net.twin"=true)(k11:az K (.ref f11)=true)
  (a12:aE K mainGlobals "_law_cell_at"=some (some (.ref f12)))
  (l12:K.lookup f12=some ⟨oc12,od12,.func (aR "_law_cell_at" "_law_cell_at" (bB s_l_cell_at) (bA s_l_cell_at) (aA s_l_cell_at) .none kV12 dc12 pm12 an12 cd12 ct12),sl12⟩)(c12:aH K cd12 "_law_cell_at"=true)(k12:az K (.ref f12)=true)
  (a13:aE K mainGlobals "is_place"=some (some (.ref f13)))
  (l13:K.lookup f13=some ⟨oc13,od13,.func (aR "is_place" "is_place" (bB s_is_place) (bA s_is_place) (aA s_is_place) .none kV13 dc13 pm13 an13 cd13 ct13),sl13⟩)(c13:aH K cd13 "is_place"=true)(k13:az K (.ref f13)=true)
  (a14:aE K mainGlobals "are_unlike"=some (some (.ref f14)))
  (l14:K.lookup f14=some ⟨oc14,od14,.func (aR "are_unlike" "are_unlike" (bB s_are_unlike) (bA s_are_unlike) (aA s_are_unlike) .none kV14 dc14 pm14 an14 cd14 ct14),sl14⟩)(c14:aH K cd14 "are_unlike"=true)(k14:az K (.ref f14)=true)
  (a15:aE K mainGlobals "are_unlike_places"=some (some (.ref f15)))
  (l15:K.lookup f15=some ⟨oc15,od15,.func (aR "are_unlike_places" "are_unlike_places" (bB s_are_unlike_places) (bA s_are_unlike_places) (aA s_are_unlike_places) .none kV15 dc15 pm15 an15 cd15 ct15),sl15⟩)(c15:aH K cd15 "are_unlike_places"=true)(k15:az K (.ref f15)=true)
  (a16:aE K mainGlobals "steps_of"=some (some (.ref f16)))
  (l16:K.lookup f16=some ⟨oc16,od16,.func (aR "steps_of" "steps_of" (bB s_steps_of) (bA s_steps_of) (aA s_steps_of) .none kV16 dc16 pm16 an16 cd16 ct16),sl16⟩)(c16:aH K cd16 "steps_of"=true)(k16:az K (.ref f16)=true)
  (a17:aE K mainGlobals "no_step_leaves"=some (some (.ref f17)))
  (l17:K.lookup f17=some ⟨oc17,od17,.func (aR "no_step_leaves" "no_step_leaves" (bB s_no_step_leaves) (bA s_no_step_leaves) (aA s_no_step_leaves) .none kV17 dc17 pm17 an17 cd17 ct17),sl17⟩)(c17:aH K cd17 "no_step_leaves"=true)(k17:az K (.ref f17)=true)
  (a18:aE K mainGlobals "is_within"=some (some (.ref f18)))
  (l18:K.lookup f18=some ⟨oc18,od18,.func (aR "is_within" "is_within" (bB s_is_within) (bA s_is_within) (aA s_is_within) .none kV18 dc18 pm18 an18 cd18 ct18),sl18⟩)(c18:aH K cd18 "is_within"=true)(k18:az K (.ref f18)=true)
  (a19:aE K mainGlobals "steps_by_begin"=some (some (.ref f19)))
  (l19:K.lookup f19=some ⟨oc19,od19,.func (aR "steps_by_begin" "steps_by_begin" (bB s_steps_by_begin) (bA s_steps_by_begin) (aA s_steps_by_begin) .none kV19 dc19 pm19 an19 cd19 ct19),sl19⟩)(c19:aH K cd19 "steps_by_begin"=true)(k19:az K (.ref f19)=true)
  (a20:aE K mainGlobals "steps_to_places"=some (some (.ref f20)))
  (l20:K.lookup f20=some ⟨oc20,od20,.func (aR "steps_to_places" "steps_to_places" (bB s_steps_to_places) (bA s_steps_to_places) (aA s_steps_to_places) .none kV20 dc20 pm20 an20 cd20 ct20),sl20⟩)(c20:aH K cd20 "steps_to_places"=true)(k20:az K (.ref f20)=true)
  (a21:aE K mainGlobals "members_of"=some (some (.ref f21)))
  (l21:K.lookup f21=some ⟨oc21,od21,.func (aR "members_of" "members_of" (bB s_members_of) (bA s_members_of) (aA s_members_of) .none kV21 dc21 pm21 an21 cd21 ct21),sl21⟩)(c21:aH K cd21 "members_of"=true)(k21:az K (.ref f21)=true)
  (a22:aE K mainGlobals "within_paper"=some (some (.ref f22)))
  (l22:K.lookup f22=some ⟨oc22,od22,.func (aR "within_paper" "within_paper" (bB s_within_paper) (bA s_within_paper) (aA s_within_paper) .none kV22 dc22 pm22 an22 cd22 ct22),sl22⟩)(c22:aH K cd22 "within_paper"=true)(k22:az K (.ref f22)=true)
  (a23:aE K mainGlobals "is_row"=some (some (.ref f23)))
  (l23:K.lookup f23=some ⟨oc23,od23,.func (aR "is_row" "is_row" (bB s_is_row) (bA s_is_row) (aA s_is_row) .none kV23 dc23 pm23 an23 cd23 ct23),sl23⟩)(c23:aH K cd23 "is_row"=true)(k23:az K (.ref f23)=true)
  (a24:aE K mainGlobals "is_pair"=some (some (.ref f24)))
  (l24:K.lookup f24=some ⟨oc24,od24,.func (aR "is_pair" "is_pair" (bB s_is_pair) (bA s_is_pair) (aA s_is_pair) .none kV24 dc24 pm24 an24 cd24 ct24),sl24⟩)(c24:aH K cd24 "is_pair"=true)(k24:az K (.ref f24)=true)
  (a25:aE K mainGlobals "ties_leaving"=some (some (.ref f25)))
  (l25:K.lookup f25=some ⟨oc25,od25,.func (aR "ties_leaving" "ties_leaving" (bB s_ties_leaving) (bA s_ties_leaving) (aA s_ties_leaving) .none kV25 dc25 pm25 an25 cd25 ct25),sl25⟩)(c25:aH K cd25 "ties_leaving"=true)(k25:az K (.ref f25)=true)
  (a26:aE K mainGlobals "flow_above"=some (some (.ref f26)))
  (l26:K.lookup f26=some ⟨oc26,od26,.func (aR "flow_above" "flow_above" (bB s_flow_above) (bA s_flow_above) (aA s_flow_above) .none kV26 dc26 pm26 an26 cd26 ct26),sl26⟩)(c26:aH K cd26 "flow_above"=true)(k26:az K (.ref f26)=true)
  (a27:aE K mainGlobals "apart_above"=some (some (.ref f27)))
  (l27:K.lookup f27=some ⟨oc27,od27,.func (aR "apart_above" "apart_above" (bB s_apart_above) (bA s_apart_above) (aA s_apart_above) .none kV27 dc27 pm27 an27 cd27 ct27),sl27⟩)(c27:aH K cd27 "apart_above"=true)(k27:az K (.ref f27)=true)
  (a28:aE K mainGlobals "bare_above"=some (some (.ref f28)))
  (l28:K.lookup f28=some ⟨oc28,od28,.func (aR "bare_above" "bare_above" (bB s_bare_above) (bA s_bare_above) (aA s_bare_above) .none kV28 dc28 pm28 an28 cd28 ct28),sl28⟩)(c28:aH K cd28 "bare_above"=true)(k28:az K (.ref f28)=true)
  (a29:aE K mainGlobals "pairs_above"=some (some (.ref f29)))
  (l29:K.lookup f29=some ⟨oc29,od29,.func (aR "pairs_above" "pairs_above" (bB s_pairs_above) (bA s_pairs_above) (aA s_pairs_above) .none kV29 dc29 pm29 an29 cd29 ct29),sl29⟩)(c29:aH K cd29 "pairs_above"=true)(k29:az K (.ref f29)=true)
  (a30:aE K mainGlobals "shown_across"=some (some (.ref f30)))
  (l30:K.lookup f30=some ⟨oc30,od30,.func (aR "shown_across" "shown_across" (bB s_shown_across) (bA s_shown_across) (aA s_shown_across) .none kV30 dc30 pm30 an30 cd30 ct30),sl30⟩)(c30:aH K cd30 "shown_across"=true)(k30:az K (.ref f30)=true)
  (a31:aE K mainGlobals "shown_bound"=some (some (.ref f31)))
  (l31:K.lookup f31=some ⟨oc31,od31,.func (aR "shown_bound" "shown_bound" (bB s_shown_bound) (bA s_shown_bound) (aA s_shown_bound) .none kV31 dc31 pm31 an31 cd31 ct31),sl31⟩)(c31:aH K cd31 "shown_bound"=true)(k31:az K (.ref f31)=true)
  (a32:aE K mainGlobals "free_ways"=some (some (.ref f32)))
  (l32:K.lookup f32=some ⟨oc32,od32,.func (aR "free_ways" "free_ways" (bB s_free_ways) (bA s_free_ways) (aA s_free_ways) .none kV32 dc32 pm32 an32 cd32 ct32),sl32⟩)(c32:aH K cd32 "free_ways"=true)(k32:az K (.ref f32)=true)
  (a33:aE K mainGlobals "add_along"=some (some (.ref f33)))
  (l33:K.lookup f33=some ⟨oc33,od33,.func (aR "add_along" "add_along" (bB s_add_along) (bA s_add_along) (aA s_add_along) .none kV33 dc33 pm33 an33 cd33 ct33),sl33⟩)(c33:aH K cd33 "add_along"=true)(k33:az K (.ref f33)=true)
  (a34:aE K mainGlobals "greatest_flow"=some (some (.ref f34)))
  (l34:K.lookup f34=some ⟨oc34,od34,.func (aR "greatest_flow" "greatest_flow" (bB s_greatest_flow) (bA s_greatest_flow) (aA s_greatest_flow) .none kV34 dc34 pm34 an34 cd34 ct34),sl34⟩)(c34:aH K cd34 "greatest_flow"=true)(k34:az K (.ref f34)=true)
  (a35:aE K mainGlobals "arcs_of_ties"=some (some (.ref f35)))
  (l35:K.lookup f35=some ⟨oc35,od35,.func (aR "arcs_of_ties" "arcs_of_ties" (bB s_arcs_of_ties) (bA s_arcs_of_ties) (aA s_arcs_of_ties) .none kV35 dc35 pm35 an35 cd35 ct35),sl35⟩)(c35:aH K cd35 "arcs_of_ties"=true)(k35:az K (.ref f35)=true)
  (a36:aE K mainGlobals "arcs_of_one"=some (some (.ref f36)))
  (l36:K.lookup f36=some ⟨oc36,od36,.func (aR "arcs_of_one" "arcs_of_one" (bB s_arcs_of_one) (bA s_arcs_of_one) (aA s_arcs_of_one) .none kV36 dc36 pm36 an36 cd36 ct36),sl36⟩)(c36:aH K cd36 "arcs_of_one"=true)(k36:az K (.ref f36)=true)
  (a37:aE K mainGlobals "arcs_through_places"=some (some (.ref f37)))
  (l37:K.lookup f37=some ⟨oc37,od37,.func (aR "arcs_through_places" "arcs_through_places" (bB s_arcs_through_places) (bA s_arcs_through_places) (aA s_arcs_through_places) .none kV37 dc37 pm37 an37 cd37 ct37),sl37⟩)(c37:aH K cd37 "arcs_through_places"=true)(k37:az K (.ref f37)=true)
  (a38:aE K mainGlobals "arcs_of_pairs"=some (some (.ref f38)))
  (l38:K.lookup f38=some ⟨oc38,od38,.func (aR "arcs_of_pairs" "arcs_of_pairs" (bB s_arcs_of_pairs) (bA s_arcs_of_pairs) (aA s_arcs_of_pairs) .none kV38 dc38 pm38 an38 cd38 ct38),sl38⟩)(c38:aH K cd38 "arcs_of_pairs"=true)(k38:az K (.ref f38)=true)
  (a39:aE K mainGlobals "paper_of_flow"=some (some (.ref f39)))
  (l39:K.lookup f39=some ⟨oc39,od39,.func (aR "paper_of_flow" "paper_of_flow" (bB s_paper_of_flow) (bA s_paper_of_flow) (aA s_paper_of_flow) .none kV39 dc39 pm39 an39 cd39 ct39),sl39⟩)(c39:aH K cd39 "paper_of_flow"=true)(k39:az K (.ref f39)=true)
  (a40:aE K mainGlobals "paper_of_apart"=some (some (.ref f40)))
  (l40:K.lookup f40=some ⟨oc40,od40,.func (aR "paper_of_apart" "paper_of_apart" (bB s_paper_of_apart) (bA s_paper_of_apart) (aA s_paper_of_apart) .none kV40 dc40 pm40 an40 cd40 ct40),sl40⟩)(c40:aH K cd40 "paper_of_apart"=true)(k40:az K (.ref f40)=true)
  (a41:aE K mainGlobals "paper_of_bare"=some (some (.ref f41)))
  (l41:K.lookup f41=some ⟨oc41,od41,.func (aR "paper_of_bare" "paper_of_bare" (bB s_paper_of_bare) (bA s_paper_of_bare) (aA s_paper_of_bare) .none kV41 dc41 pm41 an41 cd41 ct41),sl41⟩)(c41:aH K cd41 "paper_of_bare"=true)(k41:az K (.ref f41)=true)
  (a42:aE K mainGlobals "paper_of_pairs"=some (some (.ref f42)))
  (l42:K.lookup f42=some ⟨oc42,od42,.func (aR "paper_of_pairs" "paper_of_pairs" (bB s_paper_of_pairs) (bA s_paper_of_pairs) (aA s_paper_of_pairs) .none kV42 dc42 pm42 an42 cd42 ct42),sl42⟩)(c42:aH K cd42 "paper_of_pairs"=true)(k42:az K (.ref f42)=true)
  (a43:aE K mainGlobals "paper_of_one"=some (some (.ref f43)))
  (l43:K.lookup f43=some ⟨oc43,od43,.func (aR "paper_of_one" "paper_of_one" (bB s_paper_of_one) (bA s_paper_of_one) (aA s_paper_of_one) .none kV43 dc43 pm43 an43 cd43 ct43),sl43⟩)(c43:aH K cd43 "paper_of_one"=true)(k43:az K (.ref f43)=true)
  (a44:aE K mainGlobals "find_bound"=some (some (.ref f44)))
  (l44:K.lookup f44=some ⟨oc44,od44,.func (aR "find_bound" "find_bound" (bB s_find_bound) (bA s_find_bound) (aA s_find_bound) .none kV44 dc44 pm44 an44 cd44 ct44),sl44⟩)(c44:aH K cd44 "find_bound"=true)(k44:az K (.ref f44)=true)
  (a45:aE K mainGlobals "value_of"=some (some (.ref f45)))
  (l45:K.lookup f45=some ⟨oc45,od45,.func (aR "value_of" "value_of" (bB s_value_of) (bA s_value_of) (aA s_value_of) .none kV45 dc45 pm45 an45 cd45 ct45),sl45⟩)(c45:aH K cd45 "value_of"=true)(k45:az K (.ref f45)=true)
  (a46:aE K mainGlobals "_law_name"=some (some (.ref f46)))
  (l46:K.lookup f46=some ⟨oc46,od46,.func (aR "_law_name" "_law_name" (bB s_l_name) (bA s_l_name) (aA s_l_name) .none kV46 dc46 pm46 an46 cd46 ct46),sl46⟩)(c46:aH K cd46 "_law_name"=true)(k46:az K (.ref f46)=true)
  (a47:aE K mainGlobals "_law_parts"=some (some (.ref f47)))
  (l47:K.lookup f47=some ⟨oc47,od47,.func (aR "_law_parts" "_law_parts" (bB s_l_parts) (bA s_l_parts) (aA s_l_parts) .none kV47 dc47 pm47 an47 cd47 ct47),sl47⟩)(c47:aH K cd47 "_law_parts"=true)(k47:az K (.ref f47)=true)
  (a48:aE K mainGlobals "_law_net"=some (some (.ref f48)))
  (l48:K.lookup f48=some ⟨oc48,od48,.func (aR "_law_net" "_law_net" (bB s_l_net) (bA s_l_net) (aA s_l_net) .none kV48 dc48 pm48 an48 cd48 ct48),sl48⟩)(c48:aH K cd48 "_law_net"=true)(k48:az K (.ref f48)=true)
  (a49:aE K mainGlobals "_law_three"=some (some (.ref f49)))
  (l49:K.lookup f49=some ⟨oc49,od49,.func (aR "_law_three" "_law_three" (bB s_l_three) (bA s_l_three) (aA s_l_three) .none kV49 dc49 pm49 an49 cd49 ct49),sl49⟩)(c49:aH K cd49 "_law_three"=true)(k49:az K (.ref f49)=true)
  (a50:aE K mainGlobals "_law_renamed"=some (some (.ref f50)))
  (l50:K.lookup f50=some ⟨oc50,od50,.func (aR "_law_renamed" "_law_renamed" (bB s_l_renamed) (bA s_l_renamed) (aA s_l_renamed) .none kV50 dc50 pm50 an50 cd50 ct50),sl50⟩)(c50:aH K cd50 "_law_renamed"=true)(k50:az K (.ref f50)=true)
  (a51:aE K mainGlobals "_law_between"=some (some (.ref f51)))
  (l51:K.lookup f51=some ⟨oc51,od51,.func (aR "_law_between" "_law_between" (bB s_l_between) (bA s_l_between) (aA s_l_between) .none kV51 dc51 pm51 an51 cd51 ct51),sl51⟩)(c51:aH K cd51 "_law_between"=true)(k51:az K (.ref f51)=true)
  (a52:aE K mainGlobals "_law_one"=some (some (.ref f52)))
  (l52:K.lookup f52=some ⟨oc52,od52,.func (aR "_law_one" "_law_one" (bB s_l_one) (bA s_l_one) (aA s_l_one) .none kV52 dc52 pm52 an52 cd52 ct52),sl52⟩)(c52:aH K cd52 "_law_one"=true)(k52:az K (.ref f52)=true)
  (aL:aE K mainGlobals "law"=some (some (.ref fL)))(lL:K.lookup fL=some ⟨ocL,odL,.func (aR "law" "law" (bB s_law) (bA s_law) (aA s_law) .none kVL dcL pmL anL cdL ctL),slL⟩)(cL:aH K cdL "law"=true)(kL:az K (.ref fL)=true)
  (pg:ie K C Str.empty=true)(hd:ju K C=true)(po:oS K C=true)(sa:bS K (.ref C) "__setattr__"=some (some (.builtin "object.__setattr__")))(mk:iy K C=true)(kc:az K (.ref C)=true)
  (nS:bS K (.ref C) "standing"=some none)(nL:bS K (.ref C) "laid"=some none)
  (z_all:aE K mainGlobals "all"=some none)
  (z_isinstance:aE K mainGlobals "isinstance"=some none)
  (z_str:aE K mainGlobals "str"=some none)
  (z_int:aE K mainGlobals "int"=some none)
  (z_bool:aE K mainGlobals "bool"=some none)
  (z_list:aE K mainGlobals "list"=some none)
  (z_tuple:aE K mainGlobals "tuple"=some none)
  (z_len:aE K mainGlobals "len"=some none)
  (z_range:aE K mainGlobals "range"=some none)
  (z_abs:aE K mainGlobals "abs"=some none)
  (z_dict:aE K mainGlobals "dict"=some none)
  (z_sum:aE K mainGlobals "sum"=some none)
  (z_set:aE K mainGlobals "set"=some none)
  (z_reversed:aE K mainGlobals "reversed"=some none)
  (z_max:aE K mainGlobals "max"=some none)
  (z_enumerate:aE K mainGlobals "enumerate"=some none)
  (z_min:aE K mainGlobals "min"=some none)
  (z_sorted:aE K mainGlobals "sorted"=some none)
  (gWd:aE K mainGlobals "WIDE"=some (some vWd))
  (rWd:bY (.int 2) vWd)
  (gS:aE K mainGlobals "SMALL_LETTERS"=some (some vS))(rS:bY (.str zA) vS)
  (gN:aE K mainGlobals "LONGEST_NAME"=some (some vN))(rN:bY (.int 12) vN)
  (gP:aE K mainGlobals "MOST_PLACES"=some (some vP))(rP:bY (.int 20) vP)
  (gM:aE K mainGlobals "MOST_TIES"=some (some vM))(rM:bY (.int 40) vM):
  ∃fd:FuncData,(∀(s:Shared)(v:Value),BindsTo s fd ⟨[v],[]⟩ [("_law_script",v)])/\∀base:Heap,K.In base->base.Ns mainGlobals mg->FnOk l.prog w K mg base fA 13 fa fd ["_law_script"] (qW K):=by
 have e:=hfa.symm.trans (fG X G aL);cases e;have T:fo K mg C:={cl:=⟨pg,hd,po,sa⟩,nS:=nS,nL:=nL,mgC:=fG X G aC,all:=bI X G z_all,isi:=bI X G z_isinstance,str:=bI X G z_str,int:=bI X G z_int,bool:=bI X G z_bool,list:=bI X G z_list,tuple:=bI X G z_tuple,len:=bI X G z_len,range:=bI X G z_range,abs:=bI X G z_abs,small:=⟨vS,fG X G gS,rS⟩,longest:=⟨vN,fG X G gN,rN⟩,mostP:=⟨vP,fG X G gP,rP⟩,mostT:=⟨vM,fG X G gM,rM⟩,kIB:=Hl K};have A:H_ K mg C:={T:=T,mks:=mk,kc:=kc,tw:=⟨bI X G z_dict,bI X G z_sum⟩,ts:=⟨bI X G z_set,bI X G z_reversed⟩,tm:=⟨bI X G z_max,bI X G z_enumerate⟩,mi:=bI X G z_min,re:=bI X G z_reversed,so:=bI X G z_sorted,wd:=⟨vWd,fG X G gWd,rWd⟩,made:=cF X G a0 l0 c0 k0,name:=cF X G a1 l1 c1 k1,whole:=cF X G a2 l2 c2 k2,rname:=cF X G a3 l3 c3 k3,rwidth:=cF X G a4 l4 c4 k4,rmore:=cF X G a5 l5 c5 k5,init:=px a6 i6 l6 c6 k6,place:=px a7 i7 l7 c7 k7,tie:=px a8 i8 l8 c8 k8,places:=px a9 i9 l9 c9 k9,ties:=px a10 i10 l10 c10 k10,twin:=px a11 i11 l11 c11 k11,cell:=cF X G a12 l12 c12 k12,isplace:=cF X G a13 l13 c13 k13,alike:=cF X G a14 l14 c14 k14,unlike:=cF X G a15 l15 c15 k15,steps:=cF X G a16 l16 c16 k16,noleave:=cF X G a17 l17 c17 k17,within:=cF X G a18 l18 c18 k18,stby:=cF X G a19 l19 c19 k19,bfs:=cF X G a20 l20 c20 k20,members:=cF X G a21 l21 c21 k21,wpap:=cF X G a22 l22 c22 k22,isrow:=cF X G a23 l23 c23 k23,pair:=cF X G a24 l24 c24 k24,leaving:=cF X G a25 l25 c25 k25,fabove:=cF X G a26 l26 c26 k26,aabove:=cF X G a27 l27 c27 k27,babove:=cF X G a28 l28 c28 k28,pabove:=cF X G a29 l29 c29 k29,across:=cF X G a30 l30 c30 k30,shown:=cF X G a31 l31 c31 k31,free:=cF X G a32 l32 c32 k32,add:=cF X G a33 l33 c33 k33,great:=cF X G a34 l34 c34 k34,arcsT:=cF X G a35 l35 c35 k35,arcsO:=cF X G a36 l36 c36 k36,arcsB:=cF X G a37 l37 c37 k37,arcsP:=cF X G a38 l38 c38 k38,pflow:=cF X G a39 l39 c39 k39,papart:=cF X G a40 l40 c40 k40,pbare:=cF X G a41 l41 c41 k41,ppair:=cF X G a42 l42 c42 k42,pone:=cF X G a43 l43 c43 k43,find:=cF X G a44 l44 c44 k44,val:=cF X G a45 l45 c45 k45,lname:=cF X G a46 l46 c46 k46,parts:=cF X G a47 l47 c47 k47,lnet:=cF X G a48 l48 c48 k48,three:=cF X G a49 l49 c49 k49,ren:=cF X G a50 l50 c50 k50,bet:=cF X G a51 l51 c51 k51,one:=cF X G a52 l52 c52 k52};exact⟨aR "law" "law" (bB s_law) (bA s_law) (aA s_law) .none kVL dcL pmL anL cdL ctL,λs v=>.of_eq rfl,λbase _ _=>EV A (t_ lL cL kL)⟩
theorem GQ{l:sv}{q:Program}{loose:List Str}{XP:(Str->Option Value)->Heap->Prop}{YP:World->Heap->Prop}{d:DefRec}{K:Params->ag}(hn:l.most=some 63)(hdf:d.params.defaults=[])
  (hY:∀(w:World)(h:Heap),YP w h->(K w.params).In h)
  (F:∀(w:World)(mg:Str->Option Value)(fa:Addr)(h:Heap),(K w.params).In h->h.Ns mainGlobals mg->mg d.name=some (.ref fa)->
   ∃fd:FuncData,(∀(s:Shared)(u:Value),BindsTo s fd ⟨[u],[]⟩ [("_law_script",u)])/\∀base:Heap,(K w.params).In base->base.Ns mainGlobals mg->FnOk l.prog w (K w.params) mg base fA 13 fa fd ["_law_script"] (qW (K w.params))):
  PySem.W.WalkO q loose XP YP l.row.toRowW d [] (λf vs=>PySem.call f vs):=
 L2.CA (n:=63) (k:=13) (x:="_law_script") (CX:=λ_=>fA) (sp:=λw=>qW (K w.params)) hn Qd hdf ⟨rfl,Qd,Qd⟩ hY F (λ_ _ a ns hl _ hS=>⟨a,ns,rfl,hS,hl,λ_=>rfl⟩) λ_ _ _ _ _ z=>z
end Net
def PySem.W.Fast.tw2916361356833751951:Nat:=0
def PySem.W.Fast.tw5444357449601262935:Nat:=0
def PySem.W.Fast.tw8405186323163655953:Nat:=0
def PySem.W.Fast.tw7701239315577664355:Nat:=0
def PySem.W.Fast.tw903639531267747584:Nat:=0
def PySem.W.Fast.tw11595968173265491876:Nat:=0
def PySem.W.Fast.tw12943455196903755600:Nat:=0
def PySem.W.Fast.tw10595634036115450232:Nat:=0
def PySem.W.Fast.tw18398589424241680807:Nat:=0
def PySem.W.Fast.tw13446973893234332247:Nat:=0
def PySem.W.Fast.tw1342876157977207758:Nat:=0
def PySem.W.Fast.tw11664934635454738225:Nat:=0
def PySem.W.Fast.tw12402801534225978206:Nat:=0
def PySem.W.Fast.tw2442931158033257172:Nat:=0
def PySem.W.Fast.tw559174446598405265:Nat:=0
def PySem.W.Fast.tw68359141348005854:Nat:=0
def PySem.W.Fast.tw11296150268070069489:Nat:=0
def PySem.W.Fast.tw5157794658670087840:Nat:=0
def PySem.W.Fast.tw3150076478537414651:Nat:=0
def PySem.W.Fast.tw469103431685099651:Nat:=0
def PySem.W.Fast.tw9511116479811090106:Nat:=0
def PySem.W.Fast.tw1737744243592966633:Nat:=0
def PySem.W.Fast.tw16385824737787509179:Nat:=0
def PySem.W.Fast.tw3415399826095854328:Nat:=0
def PySem.W.Fast.tw13368167701567417230:Nat:=0
def PySem.W.Fast.tw17162997852410529364:Nat:=0
def PySem.W.Fast.tw7143435188049483304:Nat:=0
def PySem.W.Fast.tw2284833376157600236:Nat:=0
def PySem.W.Fast.tw17257038820397538444:Nat:=0
def PySem.W.Fast.tw17756218578582363006:Nat:=0
def PySem.W.Fast.tw2026060728771227949:Nat:=0
def PySem.W.Fast.tw15934767541276434683:Nat:=0
def PySem.W.Fast.tw16652101084901239024:Nat:=0
def PySem.W.Fast.tw559653287201501957:Nat:=0
def PySem.W.Fast.tw14003681354145671865:Nat:=0
def PySem.W.Fast.tw8254066059590827883:Nat:=0
def PySem.W.Fast.tw3181060735464512314:Nat:=0
def PySem.W.Fast.tw8822570620791506198:Nat:=0
def PySem.W.Fast.tw1248627630699406330:Nat:=0
def PySem.W.Fast.tw6261687334512140840:Nat:=0
def PySem.W.Fast.tw16870950420652851108:Nat:=0
def PySem.W.Fast.tw7140561505545817687:Nat:=0
def PySem.W.Fast.tw6974187032228293136:Nat:=0
def PySem.W.Fast.tw1257620608140785464:Nat:=0
def PySem.W.Fast.tw11588166494751521704:Nat:=0
def PySem.W.Fast.tw3881702948276109157:Nat:=0
def PySem.W.Fast.tw3316761795511274949:Nat:=0
def PySem.W.Fast.tw9988553763556186837:Nat:=0
def PySem.W.Fast.tw14959290305513212852:Nat:=0
def PySem.W.Fast.tw13316770536546279544:Nat:=0
def PySem.W.Fast.tw625499585467172149:Nat:=0
def PySem.W.Fast.tw4082635942607578563:Nat:=0
def PySem.W.Fast.tw16921662996651825904:Nat:=0
def PySem.W.Fast.tw15281319430172697651:Nat:=0
def PySem.W.Fast.tw9551278659509441066:Nat:=0
def PySem.W.Fast.tw14250504110386865855:Nat:=0
def PySem.W.Fast.tw11066883224963712471:Nat:=0
def PySem.W.Fast.tw18257448891571273994:Nat:=0
def PySem.W.Fast.tw15294407340130026277:Nat:=0
def PySem.W.Fast.tw15592861867441324079:Nat:=0
def PySem.W.Fast.tw18270539976753387773:Nat:=0
def PySem.W.Fast.tw4608298576818312197:Nat:=0
def PySem.W.Fast.tw11693838152876478441:Nat:=0
def PySem.W.Fast.tw13859488069535998412:Nat:=0
def PySem.W.Fast.tw3852595879964365133:Nat:=0
def PySem.W.Fast.tw14990410317705375049:Nat:=0
def PySem.W.Fast.tw15948128255395736463:Nat:=0
def PySem.W.Fast.tw13971784502066879593:Nat:=0
def PySem.W.Fast.tw13478437242624824778:Nat:=0
def PySem.W.Fast.tw2744539365152608341:Nat:=0
def PySem.W.Fast.tw4324669361922377336:Nat:=0
def PySem.W.Fast.tw10914924996443606433:Nat:=0
def PySem.W.Fast.tw18027442323833935139:Nat:=0
def PySem.W.Fast.tw13279631567685151508:Nat:=0
def PySem.W.Fast.tw5047609156409505665:Nat:=0
def PySem.W.Fast.tw5150194756587937893:Nat:=0
def PySem.W.Fast.tw10443091013664784297:Nat:=0
def PySem.W.Fast.tw17568580363759601488:Nat:=0
def PySem.W.Fast.tw1107056254518237043:Nat:=0
def PySem.W.Fast.tw2046435911602600640:Nat:=0
def PySem.W.Fast.tw7449498450436156080:Nat:=0
def PySem.W.Fast.tw5197018848042585376:Nat:=0
def PySem.W.Fast.tw12377906908566908235:Nat:=0
def PySem.W.Fast.tw15918292210786841742:Nat:=0
def PySem.W.Fast.tw8521924274900660511:Nat:=0
def PySem.W.Fast.tw975040674929376739:Nat:=0
def PySem.W.Fast.tw17669104477925911892:Nat:=0
def PySem.W.Fast.tw3005710006258558703:Nat:=0
def PySem.W.Fast.tw15169094422967855361:Nat:=0
def PySem.W.Fast.tw6053883799926372107:Nat:=0
def PySem.W.Fast.tw17728276966894953812:Nat:=0
def PySem.W.Fast.tw12743088607231456587:Nat:=0
def PySem.W.Fast.tw9061216886823517887:Nat:=0
def PySem.W.Fast.tw10307831635798668134:Nat:=0
def PySem.W.Fast.tw17189414154886910082:Nat:=0
def PySem.W.Fast.tw2098702002926347192:Nat:=0
def PySem.W.Fast.tw3026948440632126981:Nat:=0
def PySem.W.Fast.tw4969608315686032417:Nat:=0
def PySem.W.Fast.tw18290139925439688055:Nat:=0
def PySem.W.Fast.tw10874721827660382809:Nat:=0
def PySem.W.Fast.tw4120311540141359252:Nat:=0
def PySem.W.Fast.tw6288469592568252821:Nat:=0
def PySem.W.Fast.tw10229363175884704482:Nat:=0
def PySem.W.Fast.tw8105095876126093633:Nat:=0
def PySem.W.Fast.tw9003321460919143408:Nat:=0
def PySem.W.Fast.tw10458420433725958485:Nat:=0
def PySem.W.Fast.tw15303149841995247232:Nat:=0
def PySem.W.Fast.tw13048529637968816989:Nat:=0
def PySem.W.Fast.tw7409759372486060277:Nat:=0
def PySem.W.Fast.tw11159091050095383108:Nat:=0
def PySem.W.Fast.tw16762226314692566345:Nat:=0
def PySem.W.Fast.tw3005312770913861436:Nat:=0
def PySem.W.Fast.tw4860838181192903776:Nat:=0
def PySem.W.Fast.tw3039219732212508436:Nat:=0
def PySem.W.Fast.tw3551780850264438037:Nat:=0
def PySem.W.Fast.tw1301484476381320958:Nat:=0
def PySem.W.Fast.tw16489411459791246347:Nat:=0
def PySem.W.Fast.tw2849018073857151004:Nat:=0
def PySem.W.Fast.tw9402358343118187246:Nat:=0
def PySem.W.Fast.tw8450327293400354193:Nat:=0
def PySem.W.Fast.tw16862860231190941848:Nat:=0
def PySem.W.Fast.tw11269383962591306287:Nat:=0
def PySem.W.Fast.tw18114614434169662948:Nat:=0
def PySem.W.Fast.tw2799358153643409153:Nat:=0
def PySem.W.Fast.tw14121273828263581697:Nat:=0
def PySem.W.Fast.tw14657329925140129792:Nat:=0
def PySem.W.Fast.tw5663473156721125481:Nat:=0
def PySem.W.Fast.tw4899013304497052448:Nat:=0
def PySem.W.Fast.tw16342851270287323662:Nat:=0
def PySem.W.Fast.tw11719127661070090207:Nat:=0
def PySem.W.Fast.tw4816438034813581690:Nat:=0
def PySem.W.Fast.tw3717265169626541313:Nat:=0
def PySem.W.Fast.tw11772925511918747656:Nat:=0
def PySem.W.Fast.tw7402905502393524290:Nat:=0
def PySem.W.Fast.tw16086714914122899537:Nat:=0
def PySem.W.Fast.tw15485601435740007551:Nat:=0
def PySem.W.Fast.tw8674206831736373765:Nat:=0
def PySem.W.Fast.tw13652228211483092505:Nat:=0
def PySem.W.Fast.tw4005477072353238315:Nat:=0
def PySem.W.Fast.tw201308324191991005:Nat:=0
def PySem.W.Fast.tw14742003534079391554:Nat:=0
def PySem.W.Fast.tw1250285761406517613:Nat:=0
def PySem.W.Fast.tw11067332787189848620:Nat:=0
def PySem.W.Fast.tw4879821964963313117:Nat:=0
def PySem.W.Fast.tw4731415939917198034:Nat:=0
def PySem.W.Fast.tw6858379775293622861:Nat:=0
def PySem.W.Fast.tw5701225729330763980:Nat:=0
def PySem.W.Fast.tw14295270361568335120:Nat:=0
def PySem.W.Fast.tw8371912278576962355:Nat:=0
def PySem.W.Fast.tw10542449123224095509:Nat:=0
def PySem.W.Fast.tw3224476414515316748:Nat:=0
def PySem.W.Fast.tw13115429082507451521:Nat:=0
def PySem.W.Fast.tw13376954891754441611:Nat:=0
def PySem.W.Fast.tw7251101714758884167:Nat:=0
def PySem.W.Fast.tw3848578635069896536:Nat:=0
def PySem.W.Fast.tw7687322317543154258:Nat:=0
def PySem.W.Fast.tw6679500687989333639:Nat:=0
def PySem.W.Fast.tw6465615193361915265:Nat:=0
def PySem.W.Fast.tw7835153738343065164:Nat:=0
def PySem.W.Fast.tw10931556373707292583:Nat:=0
def PySem.W.Fast.tw7122435246702948869:Nat:=0
def PySem.W.Fast.tw17403689892982785525:Nat:=0
def PySem.W.Fast.tw2585419626606878854:Nat:=0
def PySem.W.Fast.tw12986722044488483177:Nat:=0
def PySem.W.Fast.tw16574784607666801354:Nat:=0
def PySem.W.Fast.tw6706896255630064742:Nat:=0
def PySem.W.Fast.tw15396753270382825487:Nat:=0
def PySem.W.Fast.tw17022880592066862578:Nat:=0
def PySem.W.Fast.tw5741413003340251983:Nat:=0
def PySem.W.Fast.tw9738573390940313075:Nat:=0
def PySem.W.Fast.tw15474604994193861600:Nat:=0
def PySem.W.Fast.tw8807198301378481911:Nat:=0
def PySem.W.Fast.tw8547018546946768372:Nat:=0
def PySem.W.Fast.tw2608213075509026949:Nat:=0
def PySem.W.Fast.tw5006256250142574846:Nat:=0
def PySem.W.Fast.tw7986873182874383673:Nat:=0
def PySem.W.Fast.tw4485232814623602018:Nat:=0
def PySem.W.Fast.tw1387981577330450959:Nat:=0
def PySem.W.Fast.tw16686618538521910206:Nat:=0
def PySem.W.Fast.tw8484159108424319823:Nat:=0
def PySem.W.Fast.tw11164204891943493481:Nat:=0
def PySem.W.Fast.tw6350784783641014420:Nat:=0
def PySem.W.Fast.tw12455461814731674574:Nat:=0
def PySem.W.Fast.tw3521765311526061547:Nat:=0
def PySem.W.Fast.tw6916611976603179081:Nat:=0
def PySem.W.Fast.tw10910972433934447045:Nat:=0
def PySem.W.Fast.tw7389309037192372079:Nat:=0
def PySem.W.Fast.tw8028428073376370547:Nat:=0
def PySem.W.Fast.tw12119796886989025489:Nat:=0
def PySem.W.Fast.tw7553342572949995432:Nat:=0
def PySem.W.Fast.tw11034397403309740436:Nat:=0
def PySem.W.Fast.tw79951319489880949:Nat:=0
def PySem.W.Fast.tw5590995421031723310:Nat:=0
def PySem.W.Fast.tw4864193502406782116:Nat:=0
def PySem.W.Fast.tw17651672731122063207:Nat:=0
def PySem.W.Fast.tw4718641123365004686:Nat:=0
def PySem.W.Fast.tw10135313034022718837:Nat:=0
def PySem.W.Fast.tw17050012506115173720:Nat:=0
def PySem.W.Fast.tw15861665259612113916:Nat:=0
def PySem.W.Fast.tw9829085378703336629:Nat:=0
def PySem.W.Fast.tw601060150805092856:Nat:=0
def PySem.W.Fast.tw8346158187937234524:Nat:=0
def PySem.W.Fast.tw11050989497772092998:Nat:=0
def PySem.W.Fast.tw2685416605820055038:Nat:=0
def PySem.W.Fast.tw12572576466528306375:Nat:=0
def PySem.W.Fast.tw8839720528198130603:Nat:=0
def PySem.W.Fast.tw313685468575654483:Nat:=0
def PySem.W.Fast.tw17896318246213774089:Nat:=0
def PySem.W.Fast.tw8628236161117613583:Nat:=0
def PySem.W.Fast.tw750977519151820904:Nat:=0
def PySem.W.Fast.tw9225620112317477389:Nat:=0
def PySem.W.Fast.tw1147377627155145459:Nat:=0
def PySem.W.Fast.tw15389548714916999450:Nat:=0
def PySem.W.Fast.tw4679965663321260732:Nat:=0
def PySem.W.Fast.tw10220407854461699750:Nat:=0
def PySem.W.Fast.tw3042847647052727818:Nat:=0
def PySem.W.Fast.tw17182078384134242508:Nat:=0
def PySem.W.Fast.tw16800342943105023099:Nat:=0
def PySem.W.Fast.tw4873212984850722415:Nat:=0
def PySem.W.Fast.tw8212784823372434446:Nat:=0
def PySem.W.Fast.tw15706757734102101984:Nat:=0
def PySem.W.Fast.tw10059021856258208969:Nat:=0
def PySem.W.Fast.tw1449192890524828359:Nat:=0
def PySem.W.Fast.tw8817805609811230581:Nat:=0
def PySem.W.Fast.tw6791868324451484941:Nat:=0
def PySem.W.Fast.tw5260507328013863587:Nat:=0
def PySem.W.Fast.tw5341457214631008995:Nat:=0
def PySem.W.Fast.tw12503938817839464900:Nat:=0
def PySem.W.Fast.tw17441426280147714700:Nat:=0
def PySem.W.Fast.tw9065967570989668476:Nat:=0
def PySem.W.Fast.tw16381678810568795579:Nat:=0
def PySem.W.Fast.tw5557736104770584841:Nat:=0
def PySem.W.Fast.tw10505640261725746324:Nat:=0
def PySem.W.Fast.tw15709940845396295966:Nat:=0
def PySem.W.Fast.tw2488805882243577459:Nat:=0
def PySem.W.Fast.tw7230709338331388438:Nat:=0
def PySem.W.Fast.tw8469019041802411719:Nat:=0
def PySem.W.Fast.tw12584706691209118926:Nat:=0
def PySem.W.Fast.tw18296911973347161939:Nat:=0
def PySem.W.Fast.tw13905113291791120512:Nat:=0
def PySem.W.Fast.tw16596015913504230306:Nat:=0
def PySem.W.Fast.tw10513162527483105504:Nat:=0
def PySem.W.Fast.tw5436829981238293924:Nat:=0
def PySem.W.Fast.tw8747599432493028860:Nat:=0
def PySem.W.Fast.tw10953423522704807700:Nat:=0
def PySem.W.Fast.tw15469469661155435648:Nat:=0
def PySem.W.Fast.tw13218331662222609168:Nat:=0
def PySem.W.Fast.tw17739232552074447074:Nat:=0
def PySem.W.Fast.tw16425877528336116216:Nat:=0
def PySem.W.Fast.tw2344283807594444300:Nat:=0
def PySem.W.Fast.tw9276778801981308646:Nat:=0
def PySem.W.Fast.tw9368553567195386156:Nat:=0
def PySem.W.Fast.tw16118698832443837478:Nat:=0
def PySem.W.Fast.tw7406757446474998751:Nat:=0
def PySem.W.Fast.tw13704664323748177488:Nat:=0
def PySem.W.Fast.tw3832409802680616266:Nat:=0
def PySem.W.Fast.tw1509515720348593954:Nat:=0
def PySem.W.Fast.tw16565111729802939858:Nat:=0
def PySem.W.Fast.tw13315436003786979662:Nat:=0
def PySem.W.Fast.tw5297879061101945228:Nat:=0
def PySem.W.Fast.tw7658884121427924007:Nat:=0
def PySem.W.Fast.tw1602059359415855976:Nat:=0
def PySem.W.Fast.tw3318985164207454281:Nat:=0
def PySem.W.Fast.tw1707596223906966211:Nat:=0
def PySem.W.Fast.tw4119150208824480137:Nat:=0
def PySem.W.Fast.tw2128878948805731027:Nat:=0
def PySem.W.Fast.tw7099089507142937507:Nat:=0
def PySem.W.Fast.tw13468003082611275231:Nat:=0
def PySem.W.Fast.tw7697547198177902582:Nat:=0
def PySem.W.Fast.tw4311974299693419760:Nat:=0
def PySem.W.Fast.tw5639181637283903403:Nat:=0
def PySem.W.Fast.tw5881662631282430005:Nat:=0
def PySem.W.Fast.tw13017563815737014387:Nat:=0
def PySem.W.Fast.tw13513277016332055895:Nat:=0
def PySem.W.Fast.tw18119121568108931949:Nat:=0
def PySem.W.Fast.tw4685743189438940610:Nat:=0
def PySem.W.Fast.tw3031180768194926663:Nat:=0
def PySem.W.Fast.tw8557275391329099980:Nat:=0
def PySem.W.Fast.tw15933948118458271732:Nat:=0
def PySem.W.Fast.tw7085132607043705925:Nat:=0
def PySem.W.Fast.tw2428916639071322051:Nat:=0
def PySem.W.Fast.tw17438354690080147055:Nat:=0
def PySem.W.Fast.tw14476278840860287509:Nat:=0
def PySem.W.Fast.tw3327563802976601664:Nat:=0
def PySem.W.Fast.tw7732383894358243219:Nat:=0
def PySem.W.Fast.tw10907252833645642609:Nat:=0
def PySem.W.Fast.tw18380878125738533504:Nat:=0
def PySem.W.Fast.tw9297890646956392334:Nat:=0
def PySem.W.Fast.tw812409558102323788:Nat:=0
def PySem.W.Fast.tw10310879788126531243:Nat:=0
def PySem.W.Fast.tw14168597490973172330:Nat:=0
def PySem.W.Fast.tw9033943681055690427:Nat:=0
def PySem.W.Fast.tw17448514139597045199:Nat:=0
def PySem.W.Fast.tw10675086798238422452:Nat:=0
def PySem.W.Fast.tw18197474803690670824:Nat:=0
def PySem.W.Fast.tw11257110697163511252:Nat:=0
def PySem.W.Fast.tw6168184817869889800:Nat:=0
def PySem.W.Fast.tw17073716447238878763:Nat:=0
def PySem.W.Fast.tw1610806371181774388:Nat:=0
def PySem.W.Fast.tw10244519882929152203:Nat:=0
def PySem.W.Fast.tw15071279700361516692:Nat:=0
def PySem.W.Fast.tw10678192476526840979:Nat:=0
def PySem.W.Fast.tw14558052496105277245:Nat:=0
def PySem.W.Fast.tw13137705627697319358:Nat:=0
def PySem.W.Fast.tw17175179048024879057:Nat:=0
def PySem.W.Fast.tw6580907937120073685:Nat:=0
def PySem.W.Fast.tw2875777742375475407:Nat:=0
def PySem.W.Fast.tw16623986597922817355:Nat:=0
def PySem.W.Fast.tw2567622091115662072:Nat:=0
def PySem.W.Fast.tw10664242522183390635:Nat:=0
def PySem.W.Fast.tw9499310864590979930:Nat:=0
def PySem.W.Fast.tw7088230781247175184:Nat:=0
def PySem.W.Fast.tw13525320008992298579:Nat:=0
def PySem.W.Fast.tw1644825888796851289:Nat:=0
def PySem.W.Fast.tw8402810890350059352:Nat:=0
def PySem.W.Fast.tw2458756308287352007:Nat:=0
def PySem.W.Fast.tw2785125549859667502:Nat:=0
def PySem.W.Fast.tw7170441111597322379:Nat:=0
def PySem.W.Fast.tw12129192715589392702:Nat:=0
def PySem.W.Fast.tw2124033664192592245:Nat:=0
def PySem.W.Fast.tw16732399893336667900:Nat:=0
def PySem.W.Fast.tw11226096214004928271:Nat:=0
def PySem.W.Fast.tw10988447216250199377:Nat:=0
def PySem.W.Fast.tw10871908611915671925:Nat:=0
def PySem.W.Fast.tw10979694866447430633:Nat:=0
def PySem.W.Fast.tw5480208948606840456:Nat:=0
def PySem.W.Fast.tw8425608231998425566:Nat:=0
def PySem.W.Fast.tw12257183945144998823:Nat:=0
def PySem.W.Fast.tw11386899606542478069:Nat:=0
def PySem.W.Fast.tw7350383264274412052:Nat:=0
def PySem.W.Fast.tw8996488537153865558:Nat:=0
def PySem.W.Fast.tw13924210135207151484:Nat:=0
def PySem.W.Fast.tw14497382620798242994:Nat:=0
def PySem.W.Fast.tw14113120036565382227:Nat:=0
def PySem.W.Fast.tw4169576958896266383:Nat:=0
def PySem.W.Fast.tw8735193473981964648:Nat:=0
def PySem.W.Fast.tw14228033429476993873:Nat:=0
def PySem.W.Fast.tw11159290192128237568:Nat:=0
def PySem.W.Fast.tw11112343451009074808:Nat:=0
def PySem.W.Fast.tw6383663350862469899:Nat:=0
def PySem.W.Fast.tw2464453801402634059:Nat:=0
def PySem.W.Fast.tw17571440263834191789:Nat:=0
def PySem.W.Fast.tw12706218874122473272:Nat:=0
def PySem.W.Fast.tw18408870057915776053:Nat:=0
def PySem.W.Fast.tw4598596324441521501:Nat:=0
def PySem.W.Fast.tw12476509918442367047:Nat:=0
def PySem.W.Fast.tw8238570754393001688:Nat:=0
def PySem.W.Fast.tw11763932470866412698:Nat:=0
def PySem.W.Fast.tw13088073565466827902:Nat:=0
def PySem.W.Fast.tw3661586113582399450:Nat:=0
def PySem.W.Fast.tw12488619890049603347:Nat:=0
def PySem.W.Fast.tw797594466582490953:Nat:=0
def PySem.W.Fast.tw15477228747821592195:Nat:=0
def PySem.W.Fast.tw15260549340922221440:Nat:=0
def PySem.W.Fast.tw15961948487568183183:Nat:=0
def PySem.W.Fast.tw11883706122319513435:Nat:=0
def PySem.W.Fast.tw13280084408167561110:Nat:=0
def PySem.W.Fast.tw8226073622716496072:Nat:=0
def PySem.W.Fast.tw15378647946119316192:Nat:=0
def PySem.W.Fast.tw7078992517414491721:Nat:=0
def PySem.W.Fast.tw9625929309328227584:Nat:=0
def PySem.W.Fast.tw7740658131531623906:Nat:=0
def PySem.W.Fast.tw10789489196382094622:Nat:=0
def PySem.W.Fast.tw16203688648915735285:Nat:=0
def PySem.W.Fast.tw18240173037902696754:Nat:=0
def PySem.W.Fast.tw3479780407182494561:Nat:=0
def PySem.W.Fast.tw11342485383029293418:Nat:=0
def PySem.W.Fast.tw5433386337381979906:Nat:=0
def PySem.W.Fast.tw9110678004639443364:Nat:=0
def PySem.W.Fast.tw3964006599335962598:Nat:=0
def PySem.W.Fast.tw11716774592762692174:Nat:=0
def PySem.W.Fast.tw14648830415769135583:Nat:=0
def PySem.W.Fast.tw16309858705905497752:Nat:=0
def PySem.W.Fast.tw13462866238309146046:Nat:=0
def PySem.W.Fast.tw6819941317283712890:Nat:=0
def PySem.W.Fast.tw3985155415926447688:Nat:=0
def PySem.W.Fast.tw4242036463285335751:Nat:=0
def PySem.W.Fast.tw5301441301442868482:Nat:=0
def PySem.W.Fast.tw6073414085547184514:Nat:=0
def PySem.W.Fast.tw7201172628540634171:Nat:=0
def PySem.W.Fast.tw6004158574385715348:Nat:=0
def PySem.W.Fast.tw5261754384126187042:Nat:=0
def PySem.W.Fast.tw3243674350090139401:Nat:=0
def PySem.W.Fast.tw9110813267870384925:Nat:=0
def PySem.W.Fast.tw16181697364312426367:Nat:=0
def PySem.W.Fast.tw1862736483606705838:Nat:=0
def PySem.W.Fast.tw9632309284982699915:Nat:=0
def PySem.W.Fast.tw8189281452776855081:Nat:=0
def PySem.W.Fast.tw3785402745412080958:Nat:=0
def PySem.W.Fast.tw12255202052837680164:Nat:=0
def PySem.W.Fast.tw14800995705911502945:Nat:=0
def PySem.W.Fast.tw9084908520711645179:Nat:=0
def PySem.W.Fast.tw592652209056671332:Nat:=0
def PySem.W.Fast.tw15952886085037355155:Nat:=0
def PySem.W.Fast.tw2066707701889246839:Nat:=0
def PySem.W.Fast.tw13503469565573647614:Nat:=0
def PySem.W.Fast.tw14826509702008217832:Nat:=0
def PySem.W.Fast.tw5596006467637522946:Nat:=0
def PySem.W.Fast.tw12782146575793032432:Nat:=0
def PySem.W.Fast.tw2636972454543549541:Nat:=0
def PySem.W.Fast.tw2375530312114047009:Nat:=0
def PySem.W.Fast.tw8824809196342937415:Nat:=0
def PySem.W.Fast.tw10946149826356873270:Nat:=0
def PySem.W.Fast.tw14507042676101497964:Nat:=0
def PySem.W.Fast.tw6370708909506441229:Nat:=0
def PySem.W.Fast.tw3360997397360126268:Nat:=0
def PySem.W.Fast.tw6133041830640802085:Nat:=0
def PySem.W.Fast.tw1403888390932026589:Nat:=0
def PySem.W.Fast.tw10290627869358479027:Nat:=0
def PySem.W.Fast.tw15450406612265088838:Nat:=0
def PySem.W.Fast.tw12288316975076343506:Nat:=0
def PySem.W.Fast.tw14057061031222767439:Nat:=0
def PySem.W.Fast.tw6149982943173666839:Nat:=0
def PySem.W.Fast.tw17942010873147060192:Nat:=0
def PySem.W.Fast.tw13277751217336666662:Nat:=0
def PySem.W.Fast.tw7987426100504388315:Nat:=0
def PySem.W.Fast.tw7271306495675176921:Nat:=0
def PySem.W.Fast.tw9261101171261101644:Nat:=0
def PySem.W.Fast.tw14502988735616518181:Nat:=0
def PySem.W.Fast.tw18240506773746018397:Nat:=0
def PySem.W.Fast.tw2029983684644138766:Nat:=0
def PySem.W.Fast.tw16192444007682608166:Nat:=0
def PySem.W.Fast.tw13851163550979011022:Nat:=0
def PySem.W.Fast.tw4587929142144101629:Nat:=0
def PySem.W.Fast.tw10735843494247790871:Nat:=0
def PySem.W.Fast.tw15637382220602512596:Nat:=0
def PySem.W.Fast.tw8565375162728090902:Nat:=0
def PySem.W.Fast.tw5998072238677812104:Nat:=0
def PySem.W.Fast.tw1514056363399840494:Nat:=0
def PySem.W.Fast.tw11270853981004682807:Nat:=0
def PySem.W.Fast.tw13731228366726833692:Nat:=0
def PySem.W.Fast.tw8985791702204027739:Nat:=0
def PySem.W.Fast.tw9648313726968743685:Nat:=0
def PySem.W.Fast.tw2512767830825256806:Nat:=0
def PySem.W.Fast.tw186100416739305238:Nat:=0
def PySem.W.Fast.tw11568105739475697052:Nat:=0
def PySem.W.Fast.tw1245382668176697669:Nat:=0
def PySem.W.Fast.tw7815021856956766301:Nat:=0
def PySem.W.Fast.tw16407539192374049142:Nat:=0
def PySem.W.Fast.tw7734437867287199566:Nat:=0
def PySem.W.Fast.tw12698456412774029636:Nat:=0
def PySem.W.Fast.tw13367563169156276544:Nat:=0
def PySem.W.Fast.tw284060995939671147:Nat:=0
def PySem.W.Fast.tw2008667738792110966:Nat:=0
def PySem.W.Fast.tw4499094728025195016:Nat:=0
def PySem.W.Fast.tw4930750881574696141:Nat:=0
def PySem.W.Fast.tw15752006108999856822:Nat:=0
def PySem.W.Fast.tw10150960048239248989:Nat:=0
def PySem.W.Fast.tw3203731838626795133:Nat:=0
def PySem.W.Fast.tw14186662963681438621:Nat:=0
def PySem.W.Fast.tw3189665043757354755:Nat:=0
def PySem.W.Fast.tw17491991435786239289:Nat:=0
def PySem.W.Fast.tw761987458788458966:Nat:=0
def PySem.W.Fast.tw18093652774822154850:Nat:=0
def PySem.W.Fast.tw15496111332180952680:Nat:=0
def PySem.W.Fast.tw15429490318929004224:Nat:=0
def PySem.W.Fast.tw13583003976574664215:Nat:=0
def PySem.W.Fast.tw4762551217858152185:Nat:=0
def PySem.W.Fast.tw1733698598418897986:Nat:=0
def PySem.W.Fast.tw7042078329229831678:Nat:=0
def PySem.W.Fast.tw16370078832448011414:Nat:=0
def PySem.W.Fast.tw12004430179611930517:Nat:=0
def PySem.W.Fast.tw9636044560831992497:Nat:=0
def PySem.W.Fast.tw6666412950994490469:Nat:=0
def PySem.W.Fast.tw10794495235862410403:Nat:=0
def PySem.W.Fast.tw18304023479523102613:Nat:=0
def PySem.W.Fast.tw17418720528899224515:Nat:=0
def PySem.W.Fast.tw14293741155899466015:Nat:=0
def PySem.W.Fast.tw10558127298759769681:Nat:=0
def PySem.W.Fast.tw16736747763165535734:Nat:=0
def PySem.W.Fast.tw4850173046278919949:Nat:=0
def PySem.W.Fast.tw11898889761490591148:Nat:=0
def PySem.W.Fast.tw7614469188187463850:Nat:=0
def PySem.W.Fast.tw17296344530544127304:Nat:=0
def PySem.W.Fast.tw12846584814966929304:Nat:=0
def PySem.W.Fast.tw8981760700124247962:Nat:=0
def PySem.W.Fast.tw15012503069390216239:Nat:=0
def PySem.W.Fast.tw16160060258581962455:Nat:=0
def PySem.W.Fast.tw15456657427846526721:Nat:=0
def PySem.W.Fast.tw10598775730247957180:Nat:=0
def PySem.W.Fast.tw7981460009204847383:Nat:=0
def PySem.W.Fast.tw2867711806499290096:Nat:=0
def PySem.W.Fast.tw4128228211084703380:Nat:=0
def PySem.W.Fast.tw1859901889727560202:Nat:=0
def PySem.W.Fast.tw7308671716076095012:Nat:=0
def PySem.W.Fast.tw327770723055412241:Nat:=0
def PySem.W.Fast.tw18248216021169250718:Nat:=0
def PySem.W.Fast.tw7045719678974321399:Nat:=0
def PySem.W.Fast.tw2686706526577813491:Nat:=0
def PySem.W.Fast.tw10283326652213941421:Nat:=0
def PySem.W.Fast.tw12224650224393777512:Nat:=0
def PySem.W.Fast.tw11617896524077044923:Nat:=0
def PySem.W.Fast.tw2458769952744113490:Nat:=0
def PySem.W.Fast.tw8856161737870829964:Nat:=0
def PySem.W.Fast.tw4854677774986387617:Nat:=0
def PySem.W.Fast.tw8933549942662026665:Nat:=0
def PySem.W.Fast.tw12691109747291185059:Nat:=0
def PySem.W.Fast.tw15907606463288529153:Nat:=0
def PySem.W.Fast.tw11437830489003596276:Nat:=0
def PySem.W.Fast.tw16344892389907269170:Nat:=0
def PySem.W.Fast.tw3077081758755922312:Nat:=0
def PySem.W.Fast.tw13938426322290359861:Nat:=0
def PySem.W.Fast.tw7472465067650642262:Nat:=0
def PySem.W.Fast.tw16137171138316521519:Nat:=0
def PySem.W.Fast.tw5785857625155827676:Nat:=0
def PySem.W.Fast.tw17662454802572700852:Nat:=0
def PySem.W.Fast.tw5843378867350743866:Nat:=0
def PySem.W.Fast.tw6488527634275002450:Nat:=0
def PySem.W.Fast.tw14839909829690341704:Nat:=0
def PySem.W.Fast.tw17219777329626495865:Nat:=0
def PySem.W.Fast.tw2816117903879319171:Nat:=0
def PySem.W.Fast.tw12154307498834314995:Nat:=0
def PySem.W.Fast.tw12879777092526044341:Nat:=0
def PySem.W.Fast.tw15123451816771361633:Nat:=0
def PySem.W.Fast.tw7916069015057651887:Nat:=0
def PySem.W.Fast.tw12958790397121814739:Nat:=0
def PySem.W.Fast.tw4523949598429373157:Nat:=0
def PySem.W.Fast.tw122009543031099873:Nat:=0
def PySem.W.Fast.tw5325895888266912167:Nat:=0
def PySem.W.Fast.tw17047364905420153009:Nat:=0
def PySem.W.Fast.tw6275929454380131845:Nat:=0
def PySem.W.Fast.tw15648456766882911053:Nat:=0
def PySem.W.Fast.tw9990676265705154533:Nat:=0
def PySem.W.Fast.tw1440682958644349661:Nat:=0
def PySem.W.Fast.tw3912739381392015278:Nat:=0
def PySem.W.Fast.tw2200392660755697544:Nat:=0
def PySem.W.Fast.tw2144310943200602148:Nat:=0
def PySem.W.Fast.tw7551999980019292261:Nat:=0
def PySem.W.Fast.tw16561594164604722301:Nat:=0
def PySem.W.Fast.tw12876012191457778053:Nat:=0
def PySem.W.Fast.tw16528765594965814233:Nat:=0
def PySem.W.Fast.tw2865332662874162357:Nat:=0
def PySem.W.Fast.tw15068074318965493338:Nat:=0
def PySem.W.Fast.tw8806131065518613889:Nat:=0
def PySem.W.Fast.tw10132013808923516636:Nat:=0
def PySem.W.Fast.tw2806908998634234967:Nat:=0
def PySem.W.Fast.tw2099157602073050186:Nat:=0
def PySem.W.Fast.tw9484891649856564908:Nat:=0
def PySem.W.Fast.tw15888057160990330578:Nat:=0
def PySem.W.Fast.tw4165667470098035107:Nat:=0
def PySem.W.Fast.tw7901517789707517113:Nat:=0
def PySem.W.Fast.tw2329520796371432750:Nat:=0
def PySem.W.Fast.tw3115002626995112889:Nat:=0
def PySem.W.Fast.tw18189239615657165576:Nat:=0
def PySem.W.Fast.tw15813802878696932401:Nat:=0
def PySem.W.Fast.tw18003687079229025865:Nat:=0
def PySem.W.Fast.tw6659725878776081626:Nat:=0
def PySem.W.Fast.tw10015985556840192675:Nat:=0
def PySem.W.Fast.tw2744012456536268077:Nat:=0
def PySem.W.Fast.tw695180861726222080:Nat:=0
def PySem.W.Fast.tw6918977826877945890:Nat:=0
def PySem.W.Fast.tw16160915013582659250:Nat:=0
def PySem.W.Fast.tw4862824226704978136:Nat:=0
def PySem.W.Fast.tw18148479564376332259:Nat:=0
def PySem.W.Fast.tw16041674097981487191:Nat:=0
def PySem.W.Fast.tw2144120208045965610:Nat:=0
def PySem.W.Fast.tw15013114778501285160:Nat:=0
def PySem.W.Fast.tw1960413055325127684:Nat:=0
def PySem.W.Fast.tw10640200094856674969:Nat:=0
def PySem.W.Fast.tw3716913962173596290:Nat:=0
def PySem.W.Fast.tw15053314852650800182:Nat:=0
def PySem.W.Fast.tw7966555492993008987:Nat:=0
def PySem.W.Fast.tw2373314142220880078:Nat:=0
def PySem.W.Fast.tw1027084396377727156:Nat:=0
def PySem.W.Fast.tw16335477445727764397:Nat:=0
def PySem.W.Fast.tw11370497559967107726:Nat:=0
def PySem.W.Fast.tw10483239733468660806:Nat:=0
def PySem.W.Fast.tw8015881880169192832:Nat:=0
def PySem.W.Fast.tw5583968027276485402:Nat:=0
def PySem.W.Fast.tw6470545768627279840:Nat:=0
def PySem.W.Fast.tw2431472317241227004:Nat:=0
def PySem.W.Fast.tw2721518601640834779:Nat:=0
def PySem.W.Fast.tw16647953182448011614:Nat:=0
def PySem.W.Fast.tw7401145757145680967:Nat:=0
def PySem.W.Fast.tw8209055496380993297:Nat:=0
def PySem.W.Fast.tw6521484636980096672:Nat:=0
def PySem.W.Fast.tw1756038368058485257:Nat:=0
def PySem.W.Fast.tw4467731316213972921:Nat:=0
def PySem.W.Fast.tw973657793623913181:Nat:=0
def PySem.W.Fast.tw3702777894863971751:Nat:=0
def PySem.W.Fast.tw9683075676677405958:Nat:=0
open PySem PySem.W PyProof.Rows
set_option maxRecDepth 100000 in
set_option maxHeartbeats 0 in
theorem PySem.Challenge.cw_netcourt_k63_values_of_turned_nets_holds : PySem.Challenge.rw_netcourt_k63_values_of_turned_nets.Holds := by
 w_on;o_law;k_head;(case hw=>w_witness2)
 k_fill
 refine Net.GQ (l:=PySem.Challenge.rw_netcourt_k63_values_of_turned_nets) rfl rfl (λw h Y=>PySem.W.kIn_of Y) ?F
 case F=>
  intro w mg fa h KX G hmg;refine' Net.Fb KX G hmg ?aC ?a0 ?l0 ?c0 ?k0 ?a1 ?l1 ?c1 ?k1 ?a2 ?l2 ?c2 ?k2 ?a3 ?l3 ?c3 ?k3 ?a4 ?l4 ?c4 ?k4 ?a5 ?l5 ?c5 ?k5 ?a6 ?i6 ?l6 ?c6 ?k6 ?a7 ?i7 ?l7 ?c7 ?k7 ?a8 ?i8 ?l8 ?c8 ?k8 ?a9 ?i9 ?l9 ?c9 ?k9 ?a10 ?i10 ?l10 ?c10 ?k10 ?a11 ?i11 ?l11 ?c11 ?k11 ?a12 ?l12 ?c12 ?k12 ?a13 ?l13 ?c13 ?k13 ?a14 ?l14 ?c14 ?k14 ?a15 ?l15 ?c15 ?k15 ?a16 ?l16 ?c16 ?k16 ?a17 ?l17 ?c17 ?k17 ?a18 ?l18 ?c18 ?k18 ?a19 ?l19 ?c19 ?k19 ?a20 ?l20 ?c20 ?k20 ?a21 ?l21 ?c21 ?k21 ?a22 ?l22 ?c22 ?k22 ?a23 ?l23 ?c23 ?k23 ?a24 ?l24 ?c24 ?k24 ?a25 ?l25 ?c25 ?k25 ?a26 ?l26 ?c26 ?k26 ?a27 ?l27 ?c27 ?k27 ?a28 ?l28 ?c28 ?k28 ?a29 ?l29 ?c29 ?k29 ?a30 ?l30 ?c30 ?k30 ?a31 ?l31 ?c31 ?k31 ?a32 ?l32 ?c32 ?k32 ?a33 ?l33 ?c33 ?k33 ?a34 ?l34 ?c34 ?k34 ?a35 ?l35 ?c35 ?k35 ?a36 ?l36 ?c36 ?k36 ?a37 ?l37 ?c37 ?k37 ?a38 ?l38 ?c38 ?k38 ?a39 ?l39 ?c39 ?k39 ?a40 ?l40 ?c40 ?k40 ?a41 ?l41 ?c41 ?k41 ?a42 ?l42 ?c42 ?k42 ?a43 ?l43 ?c43 ?k43 ?a44 ?l44 ?c44 ?k44 ?a45 ?l45 ?c45 ?k45 ?a46 ?l46 ?c46 ?k46 ?a47 ?l47 ?c47 ?k47 ?a48 ?l48 ?c48 ?k48 ?a49 ?l49 ?c49 ?k49 ?a50 ?l50 ?c50 ?k50 ?a51 ?l51 ?c51 ?k51 ?a52 ?l52 ?c52 ?k52 ?aL ?lL ?cL ?kL ?pg ?hd ?po ?sa ?mk ?kc ?nS ?nL ?z_all ?z_isinstance ?z_str ?z_int ?z_bool ?z_list ?z_tuple ?z_len ?z_range ?z_abs ?z_dict ?z_sum ?z_set ?z_reversed ?z_max ?z_enumerate ?z_min ?z_sorted ?gWd ?rWd ?gS ?rS ?gN ?rN ?gP ?rP ?gM ?rM
  (case aC=>k_is)
  (case a0=>k_is)
  (case l0=>k_is)
  (case c0=>k_is)
  (case k0=>k_is)
  (case a1=>k_is)
  (case l1=>k_is)
  (case c1=>k_is)
  (case k1=>k_is)
  (case a2=>k_is)
  (case l2=>k_is)
  (case c2=>k_is)
  (case k2=>k_is)
  (case a3=>k_is)
  (case l3=>k_is)
  (case c3=>k_is)
  (case k3=>k_is)
  (case a4=>k_is)
  (case l4=>k_is)
  (case c4=>k_is)
  (case k4=>k_is)
  (case a5=>k_is)
  (case l5=>k_is)
  (case c5=>k_is)
  (case k5=>k_is)
  (case a6=>k_is)
  (case i6=>k_is)
  (case l6=>k_is)
  (case c6=>k_is)
  (case k6=>k_is)
  (case a7=>k_is)
  (case i7=>k_is)
  (case l7=>k_is)
  (case c7=>k_is)
  (case k7=>k_is)
  (case a8=>k_is)
  (case i8=>k_is)
  (case l8=>k_is)
  (case c8=>k_is)
  (case k8=>k_is)
  (case a9=>k_is)
  (case i9=>k_is)
  (case l9=>k_is)
  (case c9=>k_is)
  (case k9=>k_is)
  (case a10=>k_is)
  (case i10=>k_is)
  (case l10=>k_is)
  (case c10=>k_is)
  (case k10=>k_is)
  (case a11=>k_is)
  (case i11=>k_is)
  (case l11=>k_is)
  (case c11=>k_is)
  (case k11=>k_is)
  (case a12=>k_is)
  (case l12=>k_is)
  (case c12=>k_is)
  (case k12=>k_is)
  (case a13=>k_is)
  (case l13=>k_is)
  (case c13=>k_is)
  (case k13=>k_is)
  (case a14=>k_is)
  (case l14=>k_is)
  (case c14=>k_is)
  (case k14=>k_is)
  (case a15=>k_is)
  (case l15=>k_is)
  (case c15=>k_is)
  (case k15=>k_is)
  (case a16=>k_is)
  (case l16=>k_is)
  (case c16=>k_is)
  (case k16=>k_is)
  (case a17=>k_is)
  (case l17=>k_is)
  (case c17=>k_is)
  (case k17=>k_is)
  (case a18=>k_is)
  (case l18=>k_is)
  (case c18=>k_is)
  (case k18=>k_is)
  (case a19=>k_is)
  (case l19=>k_is)
  (case c19=>k_is)
  (case k19=>k_is)
  (case a20=>k_is)
  (case l20=>k_is)
  (case c20=>k_is)
  (case k20=>k_is)
  (case a21=>k_is)
  (case l21=>k_is)
  (case c21=>k_is)
  (case k21=>k_is)
  (case a22=>k_is)
  (case l22=>k_is)
  (case c22=>k_is)
  (case k22=>k_is)
  (case a23=>k_is)
  (case l23=>k_is)
  (case c23=>k_is)
  (case k23=>k_is)
  (case a24=>k_is)
  (case l24=>k_is)
  (case c24=>k_is)
  (case k24=>k_is)
  (case a25=>k_is)
  (case l25=>k_is)
  (case c25=>k_is)
  (case k25=>k_is)
  (case a26=>k_is)
  (case l26=>k_is)
  (case c26=>k_is)
  (case k26=>k_is)
  (case a27=>k_is)
  (case l27=>k_is)
  (case c27=>k_is)
  (case k27=>k_is)
  (case a28=>k_is)
  (case l28=>k_is)
  (case c28=>k_is)
  (case k28=>k_is)
  (case a29=>k_is)
  (case l29=>k_is)
  (case c29=>k_is)
  (case k29=>k_is)
  (case a30=>k_is)
  (case l30=>k_is)
  (case c30=>k_is)
  (case k30=>k_is)
  (case a31=>k_is)
  (case l31=>k_is)
  (case c31=>k_is)
  (case k31=>k_is)
  (case a32=>k_is)
  (case l32=>k_is)
  (case c32=>k_is)
  (case k32=>k_is)
  (case a33=>k_is)
  (case l33=>k_is)
  (case c33=>k_is)
  (case k33=>k_is)
  (case a34=>k_is)
  (case l34=>k_is)
  (case c34=>k_is)
  (case k34=>k_is)
  (case a35=>k_is)
  (case l35=>k_is)
  (case c35=>k_is)
  (case k35=>k_is)
  (case a36=>k_is)
  (case l36=>k_is)
  (case c36=>k_is)
  (case k36=>k_is)
  (case a37=>k_is)
  (case l37=>k_is)
  (case c37=>k_is)
  (case k37=>k_is)
  (case a38=>k_is)
  (case l38=>k_is)
  (case c38=>k_is)
  (case k38=>k_is)
  (case a39=>k_is)
  (case l39=>k_is)
  (case c39=>k_is)
  (case k39=>k_is)
  (case a40=>k_is)
  (case l40=>k_is)
  (case c40=>k_is)
  (case k40=>k_is)
  (case a41=>k_is)
  (case l41=>k_is)
  (case c41=>k_is)
  (case k41=>k_is)
  (case a42=>k_is)
  (case l42=>k_is)
  (case c42=>k_is)
  (case k42=>k_is)
  (case a43=>k_is)
  (case l43=>k_is)
  (case c43=>k_is)
  (case k43=>k_is)
  (case a44=>k_is)
  (case l44=>k_is)
  (case c44=>k_is)
  (case k44=>k_is)
  (case a45=>k_is)
  (case l45=>k_is)
  (case c45=>k_is)
  (case k45=>k_is)
  (case a46=>k_is)
  (case l46=>k_is)
  (case c46=>k_is)
  (case k46=>k_is)
  (case a47=>k_is)
  (case l47=>k_is)
  (case c47=>k_is)
  (case k47=>k_is)
  (case a48=>k_is)
  (case l48=>k_is)
  (case c48=>k_is)
  (case k48=>k_is)
  (case a49=>k_is)
  (case l49=>k_is)
  (case c49=>k_is)
  (case k49=>k_is)
  (case a50=>k_is)
  (case l50=>k_is)
  (case c50=>k_is)
  (case k50=>k_is)
  (case a51=>k_is)
  (case l51=>k_is)
  (case c51=>k_is)
  (case k51=>k_is)
  (case a52=>k_is)
  (case l52=>k_is)
  (case c52=>k_is)
  (case k52=>k_is)
  (case aL=>k_is)
  (case lL=>k_is)
  (case cL=>k_is)
  (case kL=>k_is)
  (case pg=>k_is)
  (case hd=>k_is)
  (case po=>k_is)
  (case sa=>k_is)
  (case mk=>k_is)
  (case kc=>k_is)
  (case nS=>k_is)
  (case nL=>k_is)
  (case z_all=>k_is)
  (case z_isinstance=>k_is)
  (case z_str=>k_is)
  (case z_int=>k_is)
  (case z_bool=>k_is)
  (case z_list=>k_is)
  (case z_tuple=>k_is)
  (case z_len=>k_is)
  (case z_range=>k_is)
  (case z_abs=>k_is)
  (case z_dict=>k_is)
  (case z_sum=>k_is)
  (case z_set=>k_is)
  (case z_reversed=>k_is)
  (case z_max=>k_is)
  (case z_enumerate=>k_is)
  (case z_min=>k_is)
  (case z_sorted=>k_is)
  (case gWd=>k_is)
  (case rWd=>exact⟨_,rfl⟩)
  (case gS=>k_is)
  (case rS=>exact⟨_,rfl⟩)
  (case gN=>k_is)
  (case rN=>exact⟨_,rfl⟩)
  (case gP=>k_is)
  (case rP=>exact⟨_,rfl⟩)
  (case gM=>k_is)
  (case rM=>exact⟨_,rfl⟩)
