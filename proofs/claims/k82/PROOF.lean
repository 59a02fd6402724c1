import PyProof.Rows.All
import Wide.All
import OpenK.AllK
import Wide.FinOn
import Lean
import PyProof.EqAt
import PyProof.EqKinds
import PyProof.TupleCall
import PySem.Challenge.RW_netcourt_k82_claim_texts_refused
set_option Elab.async false
set_option linter.all false
set_option maxRecDepth 100000
theorem Qk{p:Prop}(h:p:=by decide +kernel):p:=h
theorem Qd{p:Prop}(h:p:=by decide):p:=h
theorem Qo{p:Prop}(h:p:=by omega):p:=h
theorem Qr{p:Prop}(h:p:=by rfl):p:=h
theorem Qs{p:Prop}(h:p:=by simp):p:=h
theorem Qw{p:Prop}(h:p:=by with_unfolding_all rfl):p:=h
open List renaming length_append->ae,mem_cons->aq,append_assoc->ax,length_map->ay,mem_cons_self->aA,mem_cons_of_mem->aB,length_cons->aK,map_append->aT,mem_append_right->aZ,not_mem_nil->a_,size_toArray->bj,append_nil->bq,all_eq_true->bw,takeWhile_append_dropWhile->bI,mem_of_getElem?->bR,length_take->bT,take_of_length_le->bW,mem_append->bY,length_nil->bZ,map_cons->b7,getElem?_eq_some_iff->b8,cons_ne_nil->b_,mem_singleton->cy,lookup_cons->cD,getElem?_map->cE,cons_append->cR,mem_map->cU,length_singleton->cZ,take_add_one->dP,getElem?_eq_getElem->eI,mem_range->eM,length_pos_iff->e_,getElem?_append_right->fz,map_map->fM,mem_map_of_mem->fZ,length_eq_zero_iff->f8,filter_cons_of_pos->f9,sum_cons->gF,take_append_drop->gQ,mem_of_mem_take->g_,length_drop->ig,getElem?_append_left->ii,nil_append->ix,getElem?_set_self->iW,mem_of_mem_drop->jD,mem_append_left->jE,getElem?_set_ne->jF,mem_filter->jO,forIn_cons->jP,filterMap_cons->jR,mem_filterMap->kD,filter_append->kE,getElem_mem->l_,sum_append->mJ,nodup_cons->mK,length_replicate->nG,length_filter_le->nI,range'_append_1->oh,drop_left->oi,take_succ_cons->oM,takeWhile_cons->oN,mem_range'_1->qM,any_eq_true->tP,of_mem_zip->wK,mem_singleton_self->Bq,getElem?_replicate->Br,filter_cons_of_neg->Bs,drop_eq_nil_of_le->DY,map_id->FT,map_eq_nil_iff->Ge,filter_eq_self->Gf,dropWhile_cons->Gg
open Nat renaming le_trans->af,le_refl->ao,lt_of_lt_of_le->bo,ne_of_lt->bF,zero_le->bV,lt_irrefl->dw,not_lt_zero->dB,succ_le_succ->f6,lt_succ_self->f7,le_of_eq->gv,lt_of_le_of_lt->iG,le_of_lt->iV,ne_of_gt->kf,le_succ_of_le->kT,le_succ->kU,toDigits_of_lt_base->lZ,lt_trans->mE,lt_succ_of_lt->qL,toDigits_append_toDigits->wJ,add_sub_cancel_left->Bp,mul_le_mul_left->Gd
open PySem.W renaming Frag->ah,kitOne->bz,hideAll->bH,mg_of->bU,mg_none_of->cB,fnOf->cT,findIn->cW,keepIn->de,nsIn->dz,kia_one->dA,emptyDict->dO,of_hideAll->fv,instObj->fI,hideAll_get->fY,codeIn->gZ,hideAll_none->jC,callWith_K->kC,plainGet->lX,makesIn->mI,plainGet_of->oK,methodObj->qI,isFn->qJ,hasDictIn->qK,OpenLaw->wI,exmOne->yO,mroIn->Bi,funFrames_hide->DT,cellsFrom_some->DU,methodCall_KW->D2,callWith_K0->Gc
open Option renaming bind_eq_some_iff->aj,isSome_iff_exists->bh,map_eq_some_iff->bN,bind_some->ie
open PySem renaming wpAny_bind->az,wpAny_pure->bd,wpAny_mono->bX,wpAny_passesOwn->di,wpAny_truthy_bool->dr,wpAny_execs_nil->eU,wpAny_execs_cons->fq,wpAny_Call_Name_kw->ft,wpAny_newObj_type->fK,wpAny_holding->fT,mem_of_lookup->iq,wpAny_getItem_str_slice->iI,wpAny_field->jB,wpAny_tryCatch->kB,wpAny_toks_of->lH,wpAny_standAt->lI,wpAny_comprehension_free->lJ,wpAny_storeName_local->nE,wpAny_loadName_local->og,wpAny_call->qo,wpAny_Name->qp,wpAny_assign_Name->qF,wpAny_Assign_Name->qG,list_append->qH,wpAny_of_eq->tS,wpAny_letGo->tT,wpAny_updateSeq->wH,wpAny_seqItems->yN,wpAny_getItem_list_slice->Bh,wpAny_pyNext_range_end->DQ,wpAny_pyIter_rangeiter->DR,wpAny_Call_method_late->DS,wpAny_isTrue_Compare1->D1,wpAny_newFunctionEnv->FS
open PySem.Heap renaming get?_push_of_some->aE,lt_size->aV,get?_push_size->bJ,get?_update_other->b6,size_push->dQ,get?_update_self->jf
open Or renaming inl->aN,inr->yP
open PySem.F renaming plainAttrs_str->aX,type_str_join->bf,slot_str_join->bg,excBase_ValueError->bG,type_list_append->cH,slot_list_append->cI,plainAttrs_list->cQ,slot_str_split->gu,args_str_split_2->lK,entry_str_split->lY,plain_max_loop->mD,type_str_startswith->wO,slot_str_startswith->wP,args_tuple_add_2->Bj,entry_tuple_add->Bo,type_str_split->DV,slot_tuple_add->DW
open Bool renaming false_ne_true->ba,and_eq_true->bc,eq_iff_iff->be,or_eq_false_iff->dh,or_eq_true_iff->dR,false_eq_true->eB,or_eq_true->eV,and_eq_true_iff->fN,and_eq_false_iff->gR,or_true->iX,not_eq_true'->iY,true_and->Bk
open Int renaming emod_nonneg->cX,emod_lt_of_pos->df,eq_ofNat_of_zero_le->eN,ediv_nonneg->fJ,toNat_natCast->kW,fdiv_eq_ediv_of_nonneg->yQ
open Array renaming length_toList->fb,toList_append->jS,getElem?_eq_some_iff->kF,all_eq_true'->qt
open PyProof.Rows renaming callWith_type1->ke,slot_tuple_getitem->rQ
open PySem.Txt renaming slice_le->qr
open PySem.StrLaws renaming glued_eq_join->wN
open PyProof renaming noPylong_small->DX
def aD:=@decide_eq_true_eq
def aG:=@if_neg
def aH:=@decide_eq_true
def aO:=@if_pos
def aP:=@decide_eq_false
def bb:=@of_decide_eq_true
def bL:=@congrArg
def cq:=@of_decide_eq_false
open PySem
namespace L2
open PySem PySem.Spec PyProof.Rows
abbrev mH:=Sum Int Str
def rp:mH->Value->Bool
 |.inl k,v=>Value.isInt k v
 |.inr x,v=>Value.isStrOf x v
def KS(w:World):mH->Int
 |.inl k=>hashInt k
 |.inr x=>hashStr w x
theorem fm:∀{k:mH}{v:Value},rp k v=true->(∃i t,k=Sum.inl i/\v=Value.int i t)\/(∃x t,k=Sum.inr x/\v=Value.str x t)
 |.inl i,v,h=>by
  obtain⟨t,e⟩:=Value.isInt_shape (k:=i) (v:=v) h;exact .inl ⟨i,t,rfl,e⟩
 |.inr x,v,h=>by
  obtain⟨t,e⟩:=Value.isStrOf_shape (x:=x) (v:=v) h;exact .inr ⟨x,t,rfl,e⟩
theorem A3(i:Int)(t:Tok):rp (.inl i) (.int i t)=true:=by simp[rp,Value.isInt]
theorem A1(x:Str)(t:Tok):rp (.inr x) (.str x t)=true:=by simp[rp,Value.isStrOf]
theorem HG(a b:Int):decide ((Sum.inl a:mH)=Sum.inl b)=(a==b):=by
 by_cases e:a=b
 ·subst e;simp
 ·have h:¬(Sum.inl a:mH)=Sum.inl b:=λq=>e (Sum.inl.inj q);rw[aP h];exact(beq_eq_false_iff_ne.mpr e).symm
theorem HD(a b:Str):decide ((Sum.inr a:mH)=Sum.inr b)=decide (a=b):=by
 by_cases e:a=b
 ·subst e;simp
 ·have h:¬(Sum.inr a:mH)=Sum.inr b:=λq=>e (Sum.inr.inj q);rw[aP h,aP e]
theorem HF(a:Int)(b:Str):decide ((Sum.inl a:mH)=Sum.inr b)=false:=aP (λq=>nomatch q)
theorem HE(a:Str)(b:Int):decide ((Sum.inr a:mH)=Sum.inl b)=false:=aP (λq=>nomatch q)
def lR(prog:Program)(w:World):PySem.KeyKind prog w mH where
 is:=rp
 hash:=KS w
 inj:=λv a b g f=>by
  rcases fm g with⟨i,t,rfl,rfl⟩|⟨x,t,rfl,rfl⟩
  ·rcases fm f with⟨j,u,rfl,e⟩|⟨y,u,rfl,e⟩
   ·injection e with c _;rw[c]
   ·exact nomatch e
  ·rcases fm f with⟨j,u,rfl,e⟩|⟨y,u,rfl,e⟩
   ·exact nomatch e
   ·injection e with c _;rw[c]
 byValue:=λk v h=>by
  rcases fm h with⟨i,t,rfl,rfl⟩|⟨x,t,rfl,rfl⟩<;>rfl
 pyHash:=λd h=>by
  rcases fm d with⟨i,t,rfl,rfl⟩|⟨x,t,rfl,rfl⟩
  ·exact wpAny_pyHash_int h
  ·exact wpAny_pyHash_str h
 eqBool:=λl d h=>by
  rcases fm l with⟨i,t,rfl,rfl⟩|⟨x,t,rfl,rfl⟩
  ·rcases fm d with⟨j,u,rfl,rfl⟩|⟨y,u,rfl,rfl⟩
   ·rw[HG]at h;exact wpAny_eqBool_int h
   ·rw[HF]at h;exact SeqAt.EqAt.int_str i t y u _ _ _ _ h
  ·rcases fm d with⟨j,u,rfl,rfl⟩|⟨y,u,rfl,rfl⟩
   ·rw[HE]at h;exact SeqAt.EqAt.str_int x t j u _ _ _ _ h
   ·rw[HD]at h;exact wpAny_eqBool_str h
 «strs»:=λk x t v h=>by
  rcases fm h with⟨i,u,rfl,e⟩|⟨y,u,rfl,e⟩
  ·exact nomatch e
  ·injection e with c _
   subst c;cases v<;>rfl
theorem vF(prog:Program)(w:World)(i:Int)(t:Tok):(lR prog w).is (.inl i) (.int i t)=true:=A3 i t
theorem fk(prog:Program)(w:World)(x:Str)(t:Tok):(lR prog w).is (.inr x) (.str x t)=true:=A1 x t
inductive V where
 |non|bl(b:Bool)|int(i:Int)|str(x:Str)|byt(b:Array UInt8)|flt(b:UInt64)|ref(a:Addr)|ty(n:String)
 deriving DecidableEq
def dc:V->Value->Prop
 |.non,u=>u=Value.none
 |.bl b,u=>u=Value.bool b
 |.int i,u=>∃t,u=Value.int i t
 |.str x,u=>∃t,u=Value.str x t
 |.byt b,u=>∃t,u=Value.bytes b t
 |.flt b,u=>∃t,u=Value.float b t
 |.ref a,u=>u=Value.ref a
 |.ty n,u=>u=Value.type n
abbrev cS:List V->List Value->Prop:=Paired dc
theorem cS.length{xs:List V}{us:List Value}(r:cS xs us):xs.length=us.length:=Paired.length r
theorem cS.get:∀{xs:List V}{us:List Value}{i:Nat}{x:V},cS xs us->xs[i]?=some x->∃u,us[i]?=some u/\dc x u
 |_,_,_,_,.nil,e=>by simp at e
 |_,_,0,_,.cons r _,e=>by simp at e;subst e;exact⟨_,rfl,r⟩
 |_,_,i+1,x,.cons _ t,e=>by
  obtain⟨u,h1,h2⟩:=cS.get (i:=i) (x:=x) t (by simpa using e);exact⟨u,by simpa using h1,h2⟩
theorem cS.set{x:V}{u:Value}(r:dc x u):∀{xs:List V}{us:List Value}(i:Nat),cS xs us->cS (xs.set i x) (us.set i u)
 |_,_,_,.nil=>.nil
 |_,_,0,.cons _ t=>.cons r t
 |_,_,i+1,.cons q t=>.cons q (cS.set r i t)
theorem cS.append:∀{xs ys:List V}{us ws:List Value},cS xs us->cS ys ws->cS (xs++ys) (us++ws)
 |_,_,_,_,.nil,s=>s
 |_,_,_,_,.cons r t,s=>.cons r (cS.append t s)
theorem cS.take:∀{xs:List V}{us:List Value}(n:Nat),cS xs us->cS (xs.take n) (us.take n)
 |_,_,0,_=>.nil
 |_,_,_+1,.nil=>.nil
 |_,_,n+1,.cons r t=>.cons r (cS.take n t)
theorem cS.drop:∀{xs:List V}{us:List Value}(n:Nat),cS xs us->cS (xs.drop n) (us.drop n)
 |_,_,0,r=>r
 |_,_,_+1,.nil=>.nil
 |_,_,n+1,.cons _ t=>cS.drop n t
def RelO:Option V->Option Value->Prop
 |some v,some u=>dc v u
 |none,none=>True
 |_,_=>False
def KV{a:Type}:List (a×V)->List (a×Value)->Prop:=Paired λ(p:a×V)(q:a×Value)=>p.1=q.1/\dc p.2 q.2
def kV:mH->V
 |.inl i=>.int i
 |.inr x=>.str x
inductive HO where
 |lst(xs:List V)
 |tup(xs:List V)
 |dK(kvs:List (mH×V))|dT(kvs:List (List mH×V))
 |set(S:Int->Bool)(n:Nat)
 |ins(C dx:Addr)(fs:List (Str×V))
 |own(x:Addr)
 |xd(fs:List (Str×V))
 |met(f x:Addr)
 |rng(lo hi:Int)
 |frz(o:Obj)(u:HO)
 |tbl(ps:Array Value)
 |ext(φ:Heap->Prop)
abbrev Hp:=Addr->Option HO
def upd(H:Hp)(a:Addr)(o:HO):Hp:=λb=>if b=a then some o else H b
theorem ak{H:Hp}{a:Addr}{o:HO}:upd H a o a=some o:=by unfold upd;rw[aO rfl]
theorem b5{H:Hp}{a b:Addr}{o:HO}(h:b≠a):upd H a o b=H b:=by unfold upd;rw[aG h]
theorem rR{H:Hp}{a:Addr}{o u:HO}:upd (upd H a o) a u=upd H a u:=by
 funext b;unfold upd;split<;>rfl
theorem dN{H:Hp}{a b:Addr}{o:HO}(h:H a=some o)(h':H b=none):a≠b:=by
 intro e;subst e;rw[h]at h';cases h'
section
variable(P:Program)(w:World)
def gf(H:Hp)(h:Heap)(a:Addr):HO->Prop
 |.lst xs=>xs.length<=sizeLine/\∃(b:List Value)(n:Nat),cS xs b/\h.get? a=some {cls:=.type "list",data:=.seq b.toArray n}
 |.tup xs=>xs.length<=sizeLine/\∃b:List Value,cS xs b/\IsTup h a b.toArray
 |.dK c=>c.length<=sizeLine/\(a==sysModules)=false/\∃vs,KV c vs/\h.DictOf (lR P w) a vs
 | .dT c=>c.length<=sizeLine/\(a==sysModules)=false/\∃xs:List (List mH×Addr×Value),
   Paired (λ(p:List mH×V)(q:List mH×Addr×Value)=>p.1=q.1/\H q.2.1=some (.tup (p.1.map kV))/\dc p.2 q.2.2) c xs/\
   ∃o es d,h.get? a=some o/\o.ExactDict/\o.data=.dict es d/\es.toList=xs.map (entryOfKey (tupleKind (lR P w)))/\(xs.map (·.1)).Nodup
 |.set S n=>h.SetOf (intKind P w) a S n
 | .ins C dx fs=>H dx=some (.own a)/\fs.length<=1000/\dx≠a/\h.get? a=some (fI C dx)/\
   ∃mA,h.Ns1 dx mA/\(∀f,RelO (fs.lookup f) (mA f))/\PySem.Within mA (fs.map (·.1))
 |.own _=>∃o,h.get? a=some o
 |.xd fs=>∃mA,h.Ns1 a mA/\∀f,RelO (fs.lookup f) (mA f)
 |.rng lo hi=>∃t u v,h.get? a=some {cls:=.type "range",data:=.fields #[.int lo t,.int hi u,.int 1 v]}
 |.frz o u=>h.get? a=some o/\gf H h a u
 |.tbl ps=>h.get? a=some {cls:=.none,data:=.fields ps}
 |.met f x=>h.get? a=some (qI (.ref f) (.ref x))
 |.ext φ=>φ h/\(∃o,h.get? a=some o)/\∀h1 h2:Heap,φ h1->(∀o,h1.get? a=some o->h2.get? a=some o)->φ h2
def lW(H:Hp)(h:Heap):Prop:=∀a o,H a=some o->gf P w H h a o
end
section
variable{P:Program}{w:World}{H H':Hp}{h h':Heap}{a:Addr}{o:HO}
theorem gf.lt(x:gf P w H h a o):a<h.objs.size:=by
 cases o with
 |lst xs=>obtain⟨_,_,_,_,e⟩:=x;exact aV e
 |tup xs=>obtain⟨_,_,_,p⟩:=x;exact p.lt
 |dK b=>obtain⟨_,_,_,_,o,_,_,e,_⟩:=x;exact aV e
 |dT b=>obtain⟨_,_,_,_,o,_,_,e,_⟩:=x;exact aV e
 |set S n=>obtain⟨o,_,_,_,e,_⟩:=x;exact aV e
 |ins C dx fs=>obtain⟨_,_,_,e,_⟩:=x;exact aV e
 |own y=>obtain⟨_,e⟩:=x;exact aV e
 |xd fs=>obtain⟨_,⟨_,_,_,e,_⟩,_⟩:=x;exact aV e
 |rng lo hi=>obtain⟨_,_,_,e⟩:=x;exact aV e
 |frz c u=>obtain⟨e,_⟩:=x;exact aV e
 |tbl ps=>exact aV (show h.get? a=some _ from x)
 |met f y=>exact aV (show h.get? a=some _ from x)
 |ext φ=>obtain⟨_,⟨_,e⟩,_⟩:=x;exact aV e
theorem Paired.mapP{e g:Type}{F G:e->g->Prop}:∀{d:List e}{c:List g},Paired F d c->(∀a b,F a b->G a b)->Paired G d c
 |_,_,.nil,_=>.nil
 |_,_,.cons r t,f=>.cons (f _ _ r) (Paired.mapP t f)
theorem gf.stay(x:gf P w H h a o)(k:∀b u,(b=a\/H b=some (.own a))->h.get? b=some u->h'.get? b=some u)
  (A:∀b,H b=some (.own a)->H' b=some (.own a))(B:∀b xs,H b=some (.tup xs)->H' b=some (.tup xs)):gf P w H' h' a o:=by
 induction o with
 |lst xs=>obtain⟨z,j,n,r,e⟩:=x;exact⟨z,j,n,r,k _ _ (.inl rfl) e⟩
 |tup xs=>obtain⟨z,j,r,g,e,c⟩:=x;exact⟨z,j,r,g,k _ _ (.inl rfl) e,c⟩
 |dK l=>obtain⟨z,y,vs,r,g,es,i,e,c⟩:=x;exact⟨z,y,vs,r,g,es,i,k _ _ (.inl rfl) e,c⟩
 |dT l=>
  obtain⟨z,y,xs,r,g,es,i,e,c⟩:=x;exact⟨z,y,xs,Paired.mapP r λp q z=>⟨z.1,B _ _ z.2.1,z.2.2⟩,g,es,i,k _ _ (.inl rfl) e,c⟩
 |set S n=>obtain⟨g,es,i,t,e,c⟩:=x;exact⟨g,es,i,t,k _ _ (.inl rfl) e,c⟩
 |ins C dx fs=>
  obtain⟨d,z,ne,e,mA,⟨m,es,i,D,c⟩,r⟩:=x;exact⟨A _ d,z,ne,k _ _ (.inl rfl) e,mA,⟨m,es,i,k _ _ (.inr d) D,c⟩,r⟩
 |own y=>obtain⟨g,e⟩:=x;exact⟨g,k _ _ (.inl rfl) e⟩
 |xd fs=>obtain⟨mA,⟨m,es,i,e,c⟩,r⟩:=x;exact⟨mA,⟨m,es,i,k _ _ (.inl rfl) e,c⟩,r⟩
 |rng lo hi=>obtain⟨t,u,v,e⟩:=x;exact⟨t,u,v,k _ _ (.inl rfl) e⟩
 |frz g u s=>obtain⟨e,q⟩:=x;exact⟨k _ _ (.inl rfl) e,s q⟩
 |tbl ps=>
  have e:h.get? a=some {cls:=.none,data:=.fields ps}:=x;show h'.get? a=some {cls:=.none,data:=.fields ps};exact k a _ (.inl rfl) e
 |met f y=>
  have e:h.get? a=some (qI (.ref f) (.ref y)):=x;show h'.get? a=some (qI (.ref f) (.ref y));exact k a _ (.inl rfl) e
 |ext φ=>obtain⟨p,⟨o,e⟩,st⟩:=x;exact⟨st _ _ p λo q=>k _ _ (.inl rfl) q,⟨o,k _ _ (.inl rfl) e⟩,st⟩
theorem lW.lt(x:lW P w H h)(e:H a=some o):a<h.objs.size:=(x a o e).lt
theorem lW.fresh(x:lW P w H h)(e:h.objs.size<=a):H a=none:=by
 cases q:H a with
 |none=>rfl
 |some u=>exact absurd (bo (x.lt q) e) (dw _)
theorem lW.kept(x:lW P w H h)(k:∀b u,h.get? b=some u->h'.get? b=some u):lW P w H h':=λa o e=>
 (x a o e).stay (λb u _ q=>k b u q) (λ_ q=>q) λ_ _ q=>q
theorem lW.laid(x:lW P w H h)(k:∀b u,h.get? b=some u->h'.get? b=some u)(g:h.objs.size<=a)(d:gf P w (upd H a o) h' a o):lW P w (upd H a o) h':=λb u e=>by
 have hn:=x.fresh g;by_cases f:b=a
 ·subst f;rw[ak]at e;cases e;exact d
 ·rw[b5 f]at e;exact(x b u e).stay (λc v _ q=>k c v q) (λc q=>by rw[b5 (dN q hn)];exact q) λc xs q=>by rw[b5 (dN q hn)];exact q
end
def Rd(H:Hp)(a:Addr)(u:HO):Prop:=H a=some u\/∃o,H a=some (.frz o u)
theorem Rd.ok{P:Program}{w:World}{H:Hp}{h:Heap}{a:Addr}{u:HO}(r:Rd H a u)(x:lW P w H h):gf P w H h a u:=by
 rcases r with r|⟨o,r⟩
 ·exact x a u r
 ·obtain⟨_,q⟩:=x a _ r;exact q
def Kg:Option HO->Prop
 |some (.lst _)=>True
 |some (.dK _)=>True
 |some (.dT _)=>True
 |some (.set _ _)=>True
 |some (.ins _ _ _)=>True
 |some (.ext _)=>True
 |_=>False
section
variable{P:Program}{w:World}{H:Hp}{h h':Heap}{x e:Addr}{o':HO}
theorem lW.write(ok:lW P w H h)(j:Kg (H x))(o:e=x\/H e=some (.own x))(k:∀b u,b≠e->h.get? b=some u->h'.get? b=some u)(m:∃u,h'.get? e=some u)
  (l:gf P w (upd H x o') h' x o'):lW P w (upd H x o') h':=λb u q=>by
 have d:∀c y,H c=some (.own y)->c≠x:=λc y r z=>by subst z;rw[r]at j;exact j
 have f:∀c xs,H c=some (.tup xs)->c≠x:=λc xs r z=>by subst z;rw[r]at j;exact j
 by_cases i:b=x
 ·subst i;rw[ak]at q;cases q;exact l
 ·rw[b5 i]at q;by_cases a:b=e
  ·have n:H b=some (.own x):=by
    rcases o with z|z
    ·exact absurd (a.trans z) i
    ·rw[a];exact z
   rw[q]at n;cases n;obtain⟨v,p⟩:=m;exact⟨v,by rw[a];exact p⟩
  ·refine(ok b u q).stay (λc v g r=>k c v ?_ r) (λc r=>by rw[b5 (d c b r)];exact r) λc xs r=>by rw[b5 (f c xs r)];exact r
   rcases g with rfl|g
   ·exact a
   ·rintro rfl;rcases o with z|z
    ·exact d c b g z
    ·rw[g]at z;cases z;exact i rfl
end
structure Un(fs ex:List Addr)(H H':Hp)(h h':Heap):Prop where
 keep:∀b o,h.get? b=some o->H b=none->b∉fs->b∉ex->h'.get? b=some o
 slot:∀b o,h.get? b=some o->H b=none->b∈fs->b∉ex->∃sl,h'.get? b=some {o with slots:=sl}
 free:∀b o,h.get? b=some o->H b=none->b∉ex->H' b=none
 there:∀b o,h.get? b=some o->b∉ex->∃o',h'.get? b=some o'
 tups:∀b xs,H b=some (.tup xs)->H' b=some (.tup xs)
 frzs:∀b o u,H b=some (.frz o u)->H' b=some (.frz o u)
 tbls:∀b ps,H b=some (.tbl ps)->∃more,H' b=some (.tbl (ps++more))
section
variable{fs fs' ex ex':List Addr}{H H1 H2:Hp}{h h1 h2 h':Heap}{a x e:Addr}{o:HO}
theorem Un.any(u:Un fs ex H H1 h h1){b:Addr}{a:Obj}(q:h.get? b=some a)(n:H b=none)(c:b∉ex):∃e,h1.get? b=some {a with slots:=e}:=by
 by_cases d:b∈fs
 ·exact u.slot b a q n d c
 ·exact⟨a.slots,u.keep b a q n d c⟩
theorem Un.kept(k:∀b u,h.get? b=some u->h'.get? b=some u):Un fs ex H H h h':=
 ⟨λb a q _ _ _=>k b a q,λb a q _ _ _=>⟨a.slots,k b a q⟩,λ_ _ _ n _=>n,λb a q _=>⟨a,k b a q⟩,λ_ _ q=>q,λ_ _ _ q=>q,λ_ ps q=>⟨#[],by rw[q];simp⟩⟩
theorem Un.refl:Un fs ex H H h h:=Un.kept λ_ _ q=>q
theorem Un.laid(k:∀b u,h.get? b=some u->h'.get? b=some u)(c:h.objs.size<=a)(hn:H a=none):Un fs ex H (upd H a o) h h' where
 keep:=λb u q _ _ _=>k b u q
 slot:=λb u q _ _ _=>⟨u.slots,k b u q⟩
 free:=λb u q n _=>by rw[b5 (bF (bo (aV q) c))];exact n
 there:=λb u q _=>⟨u,k b u q⟩
 tups:=λb xs q=>by rw[b5 (dN q hn)];exact q
 frzs:=λb u xs q=>by rw[b5 (dN q hn)];exact q
 tbls:=λb ps q=>⟨#[],by rw[b5 (dN q hn),q];simp⟩
theorem Un.write(c:Kg (H x))(j:e=x\/H e=some (.own x))(k:∀b u,b≠e->h.get? b=some u->h'.get? b=some u)(d:∃u,h'.get? e=some u):Un fs ex H (upd H x o) h h':=by
 have g:∀b,H b=none->b≠x:=λb n z=>by subst z;rw[n]at c;exact c
 have i:∀b,H b=none->b≠e:=λb n z=>by
  subst z;rcases j with r|r
  ·exact g b n r
  ·rw[n]at r;cases r
 have f:∀b u,H b=some u->¬Kg (some u)->b≠x:=λb u q nm z=>by subst z;rw[q]at c;exact nm c
 refine⟨λb u q n _ _=>k b u (i b n) q,λb u q n _ _=>⟨u.slots,k b u (i b n) q⟩,λb u q n _=>by rw[b5 (g b n)];exact n,λb u q _=>?_,
  λb xs q=>by rw[b5 (f b _ q λz=>z)];exact q,λb u xs q=>by rw[b5 (f b _ q λz=>z)];exact q,λb ps q=>⟨#[],by rw[b5 (f b _ q λz=>z),q];simp⟩⟩
 by_cases a:b=e
 ·subst a;exact d
 ·exact⟨u,k b u a q⟩
end
def Kb(h:Heap)(H:Hp):List Addr:=(List.range h.objs.size).filter λa=>(H a).isSome
def tj(h:Heap)(H:Hp):Heap:=bH h (Kb h H)
theorem A5(h:Heap)(H:Hp):(tj h H).objs.size=h.objs.size:=PySem.W.hideAll_size _ _
theorem Dn{h:Heap}{H:Hp}{b:Addr}{o:Obj}(e:h.get? b=some o)(n:H b=none):(tj h H).get? b=some o:=
 fY _ e λa=>by
  have q:(H b).isSome=true:=(jO.mp a).2;rw[n]at q;simp at q
theorem Ff{h:Heap}{H:Hp}{b:Addr}{o:Obj}(e:(tj h H).get? b=some o):h.get? b=some o/\H b=none:=by
 have a:h.get? b=some o:=fv (Kb h H) e;refine⟨a,?_⟩;cases q:H b with
 |none=>rfl
 |some x=>
  have c:b∈Kb h H:=jO.mpr ⟨eM.mpr (aV a),by simp[q]⟩;have z:(tj h H).get? b=none:=jC (Kb h H) c;rw[z]at e;cases e
structure Mod(K:ah)(mg:Str->Option Value)(base:Heap):Prop where
 kin:K.In base
 glob:base.Ns mainGlobals mg
 blt:∃mb,base.Ns builtinsNs mb/\∀x:Str,x≠"__name__"->mb x=bootBuiltins x
 nolimit:base.NoLimit
structure Cx where
 prog:Program
 w:World
 K:ah
 mg:Str->Option Value
 base:Heap
 A:Around
 N:List Str
 s₀:Shared
 H₀:Hp
 env:Env
 outer:List Env
 stack:List Env
 ex:List Addr
 fn:Str->Bool
 calm:Bool
 pn:List (Addr×Obj)
 xe:Value->Shared->Prop
def je(l:List Env):List Addr:=l.filterMap (·.frame)
abbrev Cx.fs(X:Cx):List Addr:=je X.outer
def K6(a:Scope)(x:Str):Prop:=a.names.lookup x=some .local \/a.names.lookup x=some .cell \/a.names.lookup x=some .free
def Ii(a:Scope)(x:Str):Prop:=a.names.lookup x=some .local \/a.names.lookup x=some .cell
def Le(env:Env)(h:Heap)(m:Str->Option Value)(x:Str)(u:Value):Prop:=
 (env.kindOf x=some .local/\m x=some u)\/((env.kindOf x=some .cell \/env.kindOf x=some .free)/\∃c,env.cells.lookup x=some c/\h.IsCell c (some u))
structure Cx.Ok(X:Cx):Prop where
 mod:Mod X.K X.mg X.base
 kind:X.env.scope.kind=.function
 glob:X.env.globals=mainGlobals
 blt:X.env.builtins=builtinsNs
 above:X.s₀.heap.objs.size<=X.env.locals
 inj:∀x y c,X.env.cells.lookup x=some c->X.env.cells.lookup y=some c->x=y
 has:∀x,(X.env.kindOf x=some .cell \/X.env.kindOf x=some .free)->∃c,X.env.cells.lookup x=some c
 cab:∀x c,X.fn x=true->X.env.cells.lookup x=some c->X.s₀.heap.objs.size<=c
 hd:X.calm=true->X.A.handled=none
 frames:X.A.frames=some X.stack
 stk:X.stack=X.outer\/(X.stack=X.env::X.outer/\X.env.frame=some X.env.locals)
 exf:∀b∈X.ex,b≠X.env.locals/\∀x c,X.env.cells.lookup x=some c->c≠b
 bs:∀b o,X.base.get? b=some o->X.s₀.heap.get? b=some o/\X.H₀ b=none
 bsz:X.base.objs.size<=X.s₀.heap.objs.size
 noex:∀b o,X.base.get? b=some o->b∉X.ex
 exfs:∀b∈X.ex,b∉X.fs
 funs:X.s₀.heap.FunFrames X.base X.outer
 frf:∀b∈X.fs,X.H₀ b=none
structure Inv(X:Cx)(pins:List (Addr×Obj))(σ:List (Option V))(H:Hp)(s:Shared):Prop where
 ok:X.Ok
 os:s.os=X.s₀.os
 bare:AllBare s.gens
 base:Un X.fs X.ex X.H₀ H X.s₀.heap s.heap
 loc:∃m,s.heap.Ns X.env.locals m/\∀(i:Nat)(x:Str)(v:V),X.N[i]?=some x->σ[i]?=some (some v)->K6 X.env.scope x->∃u,dc v u/\Le X.env s.heap m x u
 cell:∀x c,X.env.cells.lookup x=some c->∃v,s.heap.IsCell c v
 free:H X.env.locals=none
 freeC:∀x c,X.env.cells.lookup x=some c->H c=none
 pin:∀p∈X.pn++pins,s.heap.get? p.1=some p.2/\H p.1=none/\p.1≠X.env.locals/\p.1∉X.fs/\∀v,p.2.data≠ .cell v
 hok:lW X.prog X.w H s.heap
 len:σ.length=X.N.length
section
variable{X:Cx}{pins:List (Addr×Obj)}{σ:List (Option V)}{H H':Hp}{s:Shared}{h':Heap}
theorem Cx.Ok.nofr(ok:X.Ok){b:Addr}{o:Obj}(e:X.base.get? b=some o):b∉X.fs:=λa=>by
 have:=(ok.funs.mem a).1;rw[e]at this;cases this
theorem Inv.bs(I:Inv X pins σ H s):∀b o,X.base.get? b=some o->s.heap.get? b=some o/\H b=none:=λb o e=>
 ⟨I.base.keep b o (I.ok.bs b o e).1 (I.ok.bs b o e).2 (I.ok.nofr e) (I.ok.noex b o e),I.base.free b o (I.ok.bs b o e).1 (I.ok.bs b o e).2 (I.ok.noex b o e)⟩
theorem Inv.bk(I:Inv X pins σ H s):∀b o,X.base.get? b=some o->s.heap.get? b=some o:=λb o e=>(I.bs b o e).1
theorem Inv.mod(I:Inv X pins σ H s):Mod X.K X.mg X.base:=I.ok.mod
theorem Inv.kIn(I:Inv X pins σ H s):X.K.In s.heap:=I.ok.mod.kin.keeps I.bk
theorem Inv.lt(I:Inv X pins σ H s):X.env.locals<s.heap.objs.size:=let⟨_,hn,_⟩:=I.loc;hn.lt
theorem Inv.sz(I:Inv X pins σ H s):X.s₀.heap.objs.size<=s.heap.objs.size:=af I.ok.above (iV I.lt)
theorem Inv.nofs(I:Inv X pins σ H s){a:Addr}(h:s.heap.objs.size<=a):a∉X.fs:=λc=>by
 obtain⟨_,o,b,_⟩:=I.ok.funs.mem c;exact absurd (bo (aV b) (af I.sz h)) (dw _)
theorem Inv.cne(I:Inv X pins σ H s):∀x c,X.env.cells.lookup x=some c->c≠X.env.locals:=λx c e z=>by
 obtain⟨v,o,d,hd⟩:=I.cell x c e;obtain⟨m,⟨o',es,f,a,b,_⟩,_⟩:=I.loc;rw[z,a]at d;cases d;rw[b]at hd;cases hd
theorem Inv.funs(I:Inv X pins σ H s):s.heap.FunFrames X.base X.outer:=by
 have all:∀(l:List Env),(∀b∈je l,b∈X.fs)->X.s₀.heap.FunFrames X.base l->s.heap.FunFrames X.base l:=by
  intro l;induction l with
  |nil=>intro _ _;trivial
  |cons env r g=>
   intro f k;obtain⟨h,⟨L,o,c,hn,j,hd⟩,i⟩:=k;have d:L∈X.fs:=f L (by unfold je;rw[jR,c];exact aA);obtain⟨m,e⟩:=I.base.slot L o j (I.ok.frf L d) d λz=>I.ok.exfs L z d;exact⟨h,⟨L,_,c,hn,e,hd⟩,g (λb a=>f b (by unfold je;rw[jR,c];exact aB _ a)) i⟩
 exact all X.outer (λ_ a=>a) I.ok.funs
theorem Inv.stack(I:Inv X pins σ H s):s.heap.FunFrames X.base X.stack:=by
 rcases I.ok.stk with e|⟨e,a⟩
 ·rw[e];exact I.funs
 ·rw[e];obtain⟨m,hn,_⟩:=I.loc;refine .cons (by rw[I.ok.kind];decide) a hn ?_ I.funs;exact Heap.get?_none_of_le (af I.ok.bsz I.ok.above)
theorem Inv.stkSub(I:Inv X pins σ H s):∀b∈je X.stack,b∈X.env.locals::X.fs:=λb a=>by
 rcases I.ok.stk with e|⟨e,c⟩
 ·rw[e]at a;exact aB _ a
 ·rw[e]at a;unfold je at a;rw[jR,c]at a;exact a
theorem Inv.stkFree(I:Inv X pins σ H s):∀b∈je X.stack,H b=none:=λb a=>by
 rcases aq.mp (I.stkSub b a)with e|a
 ·rw[e];exact I.free
 ·obtain⟨_,o,c,_⟩:=I.ok.funs.mem a;exact I.base.free b o c (I.ok.frf b a) λz=>I.ok.exfs b z a
theorem Inv.step{g':Array GenState}{t':Nat}{d':Drawn}{ch:List Addr}(I:Inv X pins σ H s)
  (h:∀b∈ch,(b∈X.ex\/X.s₀.heap.objs.size<=b)/\b≠X.env.locals/\(∀x c,X.env.cells.lookup x=some c->c≠b)/\∀p∈X.pn++pins,p.1≠b)
  (keep:∀b o,b≠X.env.locals->b∉X.fs->b∉ch->s.heap.get? b=some o->H b=none->h'.get? b=some o)
  (slot:∀b o,b≠X.env.locals->b∈X.fs->b∉ch->s.heap.get? b=some o->H b=none->∃D,h'.get? b=some {o with slots:=D})(free:∀b o,b∉ch->s.heap.get? b=some o->H b=none->H' b=none)
  (there:∀b o,b∉ch->s.heap.get? b=some o->∃o',h'.get? b=some o')
  (tups:∀b xs,H b=some (.tup xs)->H' b=some (.tup xs))(frzs:∀b o u,H b=some (.frz o u)->H' b=some (.frz o u))(tbls:∀b ps,H b=some (.tbl ps)->∃C,H' b=some (.tbl (ps++C)))
  (ns:∀m,s.heap.Ns X.env.locals m->h'.Ns X.env.locals m)(hok:lW X.prog X.w H' h')(L:AllBare g'):
  Inv X pins σ H' {s with heap:=h',gens:=g',drawn:=d',toks:=t'}:=by
 have A:∀b o,X.s₀.heap.get? b=some o->b≠X.env.locals:=λb o e=>bF (bo (aV e) I.ok.above);have t:∀b o,X.s₀.heap.get? b=some o->b∉X.ex->b∉ch:=λb o e a w=>by
  rcases(h b w).1 with z|z
  ·exact a z
  ·exact absurd (bo (aV e) z) (dw _)
 have f:∀x c,X.env.cells.lookup x=some c->∀v,s.heap.IsCell c v->h'.IsCell c v:=λx c e v⟨o,y,hd⟩=>by
  have g:c∉ch:=λz=>(h c z).2.2.1 x c e rfl;by_cases F:c∈X.fs
  ·obtain⟨D,q⟩:=slot c o (I.cne x c e) F g y (I.freeC x c e);exact⟨_,q,hd⟩
  ·exact⟨o,keep c o (I.cne x c e) F g y (I.freeC x c e),hd⟩
 refine⟨I.ok,I.os,L,⟨λb o e n w a=>?_,λb o e n w a=>?_,λb o e n a=>?_,λb o e a=>?_,λb xs e=>tups b xs (I.base.tups b xs e),λb o xs e=>frzs b o xs (I.base.frzs b o xs e),λb ps e=>?_⟩,?_,λx c e=>?_,?_,λx c e=>?_,λp G=>?_,hok,I.len⟩
 ·exact keep b o (A b o e) w (t b o e a) (I.base.keep b o e n w a) (I.base.free b o e n a)
 ·obtain⟨D,j⟩:=I.base.slot b o e n w a;obtain⟨E,B⟩:=slot b _ (A b o e) w (t b o e a) j (I.base.free b o e n a);exact⟨E,B⟩
 ·obtain⟨o',j⟩:=I.base.there b o e a;exact free b o' (t b o e a) j (I.base.free b o e n a)
 ·obtain⟨o',j⟩:=I.base.there b o e a;exact there b o' (t b o e a) j
 ·obtain⟨m1,j⟩:=I.base.tbls b ps e;obtain⟨m2,B⟩:=tbls b _ j;exact⟨m1++m2,by rw[B,Array.append_assoc]⟩
 ·obtain⟨m,hn,M⟩:=I.loc;refine⟨m,ns m hn,λi x v j B K=>?_⟩;obtain⟨u,r,l⟩:=M i x v j B K;refine⟨u,r,?_⟩;rcases l with l|⟨k,c,e,z⟩
  ·exact .inl l
  ·exact .inr ⟨k,c,e,f x c e _ z⟩
 ·obtain⟨v,z⟩:=I.cell x c e;exact⟨v,f x c e v z⟩
 ·obtain⟨m,⟨o,_,_,y,_⟩,_⟩:=I.loc;exact free _ o (λz=>(h _ z).2.1 rfl) y I.free
 ·obtain⟨v,o,y,hd⟩:=I.cell x c e;exact free c o (λz=>(h c z).2.2.1 x c e rfl) y (I.freeC x c e)
 ·obtain⟨e,n,ne,J,d⟩:=I.pin p G;have g:p.1∉ch:=λz=>(h p.1 z).2.2.2 p G rfl;exact⟨keep p.1 p.2 ne J g e n,free p.1 p.2 g e n,ne,J,d⟩
theorem Inv.un{t':Nat}(I:Inv X pins σ H s)(u:Un X.fs [] H H' s.heap h')(hok:lW X.prog X.w H' h'):Inv X pins σ H' {s with heap:=h',toks:=t'}:=by
 obtain⟨m,⟨o,es,p,g,r⟩,_⟩:=id I.loc;obtain⟨l,i⟩:=u.any g I.free Qs;exact I.step (g':=s.gens) (d':=s.drawn) (ch:=[]) (λ_ z=>nomatch z) (λb o _ f _ e n=>u.keep b o e n f Qs) (λb o _ f _ e n=>u.slot b o e n f Qs) (λb o _ e n=>u.free b o e n Qs) (λb o _ e=>u.there b o e Qs) u.tups u.frzs u.tbls (λk h=>by
  obtain⟨o',d,c,a,j⟩:=h;rw[g]at a;cases a;exact⟨_,d,c,i,j⟩) hok I.bare
theorem Inv.call{g':Array GenState}{t':Nat}{d':Drawn}{ch:List Addr}(I:Inv X pins σ H s)(u:Un (je X.stack) ch H H' s.heap h')(hok:lW X.prog X.w H' h')(l:AllBare g')
  (f:∀b∈ch,(b∈X.ex\/X.s₀.heap.objs.size<=b)/\b≠X.env.locals/\(∀x c,X.env.cells.lookup x=some c->c≠b)/\∀p∈X.pn++pins,p.1≠b):
  Inv X pins σ H' {s with heap:=h',gens:=g',drawn:=d',toks:=t'}:=by
 obtain⟨m,⟨o,es,y,j,r⟩,_⟩:=id I.loc;obtain⟨w,i⟩:=u.any j I.free λz=>(f _ z).2.1 rfl;exact I.step (ch:=ch) f (λb o i k a e n=>u.keep b o e n (λz=>(aq.mp (I.stkSub b z)).elim i k) a) (λb o _ _ a e n=>u.any e n a) (λb o a e n=>u.free b o e n a) (λb o a e=>u.there b o e a) u.tups u.frzs u.tbls (λv q=>by
  obtain⟨o',h,g,d,t⟩:=q;rw[j]at d;cases d;exact⟨_,h,g,i,t⟩) hok l
theorem Inv.turned{t':Nat}{it:Addr}(I:Inv X pins σ H s)(k:∀b o,b≠it->s.heap.get? b=some o->h'.get? b=some o)(hn:H it=none)(f:it≠X.env.locals)
  (h1:it∈X.ex\/X.s₀.heap.objs.size<=it)(h2:∀x c,X.env.cells.lookup x=some c->c≠it)(j:∀p∈X.pn++pins,p.1≠it):Inv X pins σ H {s with heap:=h',toks:=t'}:=by
 have d:∀b u,H b=some u->b≠it:=λb u e z=>by rw[z,hn]at e;cases e
 refine I.step (g':=s.gens) (d':=s.drawn) (ch:=[it]) (λb g=>?_) (λb o _ _ a e _=>k b o (λz=>a (by simp[z])) e) (λb o _ _ a e _=>⟨o.slots,k b o (λz=>a (by simp[z])) e⟩) (λ_ _ _ _ n=>n)
  (λb o a e=>⟨o,k b o (λz=>a (by simp[z])) e⟩) (λ_ _ e=>e) (λ_ _ _ e=>e) (λb ps e=>⟨#[],by rw[e];simp⟩) (λm i=>?_) (λb u e=>?_) I.bare
 ·have e:b=it:=by simpa using g
  subst e;exact⟨h1,f,h2,j⟩
 ·obtain⟨o,es,l,h,r⟩:=i;exact⟨o,es,l,k _ o (Ne.symm f) h,r⟩
 ·refine(I.hok b u e).stay (λc v a q=>k c v ?_ q) (λ_ q=>q) λ_ _ q=>q;rcases a with z|z
  ·rw[z];exact d b u e
  ·exact d c _ z
theorem Inv.tok(I:Inv X pins σ H s)(t:Nat):Inv X pins σ H {s with toks:=t}:=I.un (h':=s.heap) (t':=t) Un.refl I.hok
theorem Inv.kept{t':Nat}(I:Inv X pins σ H s)(k:∀b u,s.heap.get? b=some u->h'.get? b=some u):Inv X pins σ H {s with heap:=h',toks:=t'}:=I.un (Un.kept k) (I.hok.kept k)
theorem Inv.laid{a:Addr}{o:HO}{t':Nat}(I:Inv X pins σ H s)(k:∀b u,s.heap.get? b=some u->h'.get? b=some u)(d:s.heap.objs.size<=a)(c:gf X.prog X.w (upd H a o) h' a o):
  Inv X pins σ (upd H a o) {s with heap:=h',toks:=t'}:=I.un (Un.laid k d (I.hok.fresh d)) (I.hok.laid k d c)
theorem Inv.write{x e:Addr}{o:HO}{t':Nat}(I:Inv X pins σ H s)(d:Kg (H x))(f:e=x\/H e=some (.own x))(k:∀b u,b≠e->s.heap.get? b=some u->h'.get? b=some u)(a:∃u,h'.get? e=some u)
  (c:gf X.prog X.w (upd H x o) h' x o):Inv X pins σ (upd H x o) {s with heap:=h',toks:=t'}:=I.un (Un.write d f k a) (I.hok.write d f k a c)
theorem Inv.pins_of{pins':List (Addr×Obj)}(I:Inv X pins σ H s)(h:∀p∈pins',s.heap.get? p.1=some p.2/\H p.1=none/\p.1≠X.env.locals/\p.1∉X.fs/\∀v,p.2.data≠ .cell v):Inv X pins' σ H s:=
 ⟨I.ok,I.os,I.bare,I.base,I.loc,I.cell,I.free,I.freeC,λp a=>(bY.mp a).elim (λz=>I.pin p (jE _ z)) (h p),I.hok,I.len⟩
theorem m_{N:List Str}(d:N.Nodup){i j:Nat}{x:Str}(a:N[i]?=some x)(b:N[j]?=some x):i=j:=by
 obtain⟨h1,c⟩:=b8.mp a;obtain⟨h2,e⟩:=b8.mp b;exact(List.getElem_inj d).mp (c.trans e.symm)
theorem qU{M:Model}{A:Around}{E:Value->Shared->Prop}{i:Nat}{x:Str}{v:V}{u:Value}{Q:Unit->Shared->Prop}(I:Inv X pins σ H s)(hN:X.N.Nodup)(hi:X.N[i]?=some x)(w:Ii X.env.scope x)(r:dc v u)
  (h:∀s',Inv X pins (σ.set i (some v)) H s'->(∃a,Heap.SameBut a s.heap s'.heap/\(a=X.env.locals\/X.env.cells.lookup x=some a))->Q () s')(hf:X.fn x=true\/X.env.scope.names.lookup x=some .local:=by first|exact .inl rfl|exact .inr rfl|assumption):wpAny M A (storeName X.env x u) Q E s:=by
 obtain⟨m,hn,hl⟩:=id I.loc;have N:(X.env.scope.kind== .class ||(X.env.scope.kind== .module &&X.env.locals != X.env.globals))=false:=by rw[I.ok.kind];rfl
 have F:i<σ.length:=by rw[I.len];exact(b8.mp hi).1
 have L:=I.cne;have l:∀{a:Addr}{h':Heap},(∃o,s.heap.get? a=some o/\H a=none)->Heap.SameBut a s.heap h'->lW X.prog X.w H h':=λ{a h'}ha f b ob e=>by
  obtain⟨_,_,B⟩:=ha;refine(I.hok b ob e).stay (λc U t q=>(f.2 c ?_).trans q) (λ_ q=>q) λ_ _ q=>q;rintro rfl;rcases t with rfl|t
  ·rw[B]at e;cases e
  ·rw[B]at t;cases t
 rcases w with D|D
 ·refine nE D hn (λh' xb f=>?_) N;obtain⟨oL,_,_,xa,_⟩:=id hn;refine h _ ⟨I.ok,I.os,I.bare,⟨λb o e n K w=>?_,λb o e n K w=>?_,I.base.free,λb o e w=>?_,I.base.tups,I.base.frzs,I.base.tbls⟩,⟨_,xb,λj y W g C Z=>?_⟩,λy c e=>?_,I.free,I.freeC,λp hp=>?_,l ⟨oL,xa,I.free⟩ f,by simpa using I.len⟩ ⟨_,f,.inl rfl⟩
  ·exact(f.2 b (bF (bo (aV e) I.ok.above))).trans (I.base.keep b o e n K w)
  ·obtain⟨sl,g⟩:=I.base.slot b o e n K w;exact⟨sl,(f.2 b (bF (bo (aV e) I.ok.above))).trans g⟩
  ·obtain⟨o',g⟩:=I.base.there b o e w;exact⟨o',(f.2 b (bF (bo (aV e) I.ok.above))).trans g⟩
  ·by_cases G:j=i
   ·subst G;rw[hi]at g;cases g;rw[iW F]at C;cases C;exact⟨u,r,.inl ⟨D,Qs⟩⟩
   ·rw[jF (Ne.symm G)]at C;obtain⟨Y,r',q⟩:=hl j y W g C Z;refine⟨Y,r',?_⟩;rcases q with⟨k,e⟩|⟨k,c,e,z⟩
    ·refine .inl ⟨k,?_⟩;have:y≠x:=λe=>G (m_ hN g (e▸hi));simp[this,e]
    ·exact .inr ⟨k,c,e,z.sameBut f (L y c e)⟩
  ·obtain⟨U,z⟩:=I.cell y c e;exact⟨U,z.sameBut f (L y c e)⟩
  ·obtain⟨e,n,ne,nf,d⟩:=I.pin p hp;exact⟨(f.2 p.1 ne).trans e,n,ne,nf,d⟩
 ·have J:X.fn x=true:=by
   rcases hf with z|z
   ·exact z
   ·rw[z]at D;cases D
  obtain⟨c,t⟩:=I.ok.has x (.inl D);obtain⟨U,z⟩:=I.cell x c t;refine wpAny_storeName_cell I.ok.kind D t z (λh' R f=>?_);obtain⟨oc,O,P⟩:=id z;refine h {s with heap:=h'} ⟨I.ok,I.os,I.bare,⟨λb o e n K w=>?_,λb o e n K w=>?_,I.base.free,λb o e w=>?_,I.base.tups,I.base.frzs,I.base.tbls⟩,⟨m,hn.sameBut f (Ne.symm (L x c t)),λj y W g C Z=>?_⟩,λy T e=>?_,I.free,I.freeC,λp hp=>?_,l ⟨oc,O,I.freeC x c t⟩ f,by simpa using I.len⟩ ⟨c,f,.inr t⟩
  ·exact(f.2 b (bF (bo (aV e) (I.ok.cab x c J t)))).trans (I.base.keep b o e n K w)
  ·obtain⟨sl,g⟩:=I.base.slot b o e n K w;exact⟨sl,(f.2 b (bF (bo (aV e) (I.ok.cab x c J t)))).trans g⟩
  ·obtain⟨o',g⟩:=I.base.there b o e w;exact⟨o',(f.2 b (bF (bo (aV e) (I.ok.cab x c J t)))).trans g⟩
  ·by_cases G:j=i
   ·subst G;rw[hi]at g;cases g;rw[iW F]at C;cases C;exact⟨u,r,.inr ⟨.inl D,c,t,R⟩⟩
   ·rw[jF (Ne.symm G)]at C;obtain⟨Y,r',q⟩:=hl j y W g C Z;refine⟨Y,r',?_⟩;rcases q with q|⟨k,T,e,z'⟩
    ·exact .inl q
    ·refine .inr ⟨k,T,e,z'.sameBut f ?_⟩;rintro rfl;exact G (m_ hN g (I.ok.inj _ _ _ e t▸hi))
  ·by_cases S:T=c
   ·subst S;exact⟨_,R⟩
   ·obtain⟨w2,z2⟩:=I.cell y T e;exact⟨w2,z2.sameBut f S⟩
  ·obtain⟨e,n,ne,nf,d⟩:=I.pin p hp;refine⟨(f.2 p.1 ?_).trans e,n,ne,nf,d⟩;intro q;rw[q,O]at e;have q':oc=p.2:=Option.some.inj e;exact d U (by rw[<-q'];exact P)
theorem kY{M:Model}{A:Around}{E:Value->Shared->Prop}{i:Nat}{x:Str}{v:V}{u:Value}{Q:Unit->Shared->Prop}(I:Inv X pins σ H s)(c:X.N.Nodup)(hi:X.N[i]?=some x)(a:Ii X.env.scope x)(r:dc v u)
  (h:∀s',Inv X pins (σ.set i (some v)) H s'->Q () s')(d:X.fn x=true\/X.env.scope.names.lookup x=some .local:=by first|exact .inl rfl|exact .inr rfl|assumption):wpAny M A (storeName X.env x u) Q E s:=
 qU I c hi a r (λs' b _=>h s' b) d
theorem Inv.call'{s':Shared}{ch:List Addr}(I:Inv X pins σ H s)(d:s'.os=s.os)(u:Un (je X.stack) ch H H' s.heap s'.heap)(hok:lW X.prog X.w H' s'.heap)(f:AllBare s'.gens)
  (a:∀b∈ch,(b∈X.ex\/X.s₀.heap.objs.size<=b)/\b≠X.env.locals/\(∀x c,X.env.cells.lookup x=some c->c≠b)/\∀p∈X.pn++pins,p.1≠b):Inv X pins σ H' s':=by
 obtain⟨h',g',d',t',o'⟩:=s';have e:o'=s.os:=d;subst e;exact I.call (g':=g') (t':=t') (d':=d') u hok f a
end
abbrev XK:=Value->Option Addr->Hp->Prop
abbrev St:=List (Option V)
abbrev VK:=V->Hp->Prop
abbrev TE:=St->Hp->VK->Prop
abbrev TT:=St->Hp->(Bool->Hp->Prop)->Prop
abbrev TA:=St->Hp->(List V->Hp->Prop)->Prop
structure mB where
 nx:St->Hp->Prop
 rt:VK
 bk:St->Hp->Prop:=λ_ _=>False
 ct:St->Hp->Prop:=λ_ _=>False
abbrev TS:=mB->St->Hp->Prop
def EP(X:Cx)(pins:List (Addr×Obj))(σ:St)(Q:VK)(u:Value)(s':Shared):Prop:=∃v H',Inv X pins σ H' s'/\dc v u/\Q v H'
def TP(X:Cx)(pins:List (Addr×Obj))(σ:St)(Q:Bool->Hp->Prop)(b:Bool)(s':Shared):Prop:=∃H',Inv X pins σ H' s'/\Q b H'
def AP(X:Cx)(pins:List (Addr×Obj))(σ:St)(Q:List V->Hp->Prop)(us:List Value)(s':Shared):Prop:=∃vs H',Inv X pins σ H' s'/\cS vs us/\Q vs H'
def SP(X:Cx)(pins:List (Addr×Obj))(D:mB)(f:Flow)(s':Shared):Prop:=
 match f with
 |.next=>∃a H',Inv X pins a H' s'/\D.nx a H'
 |.brk=>∃a H',Inv X pins a H' s'/\D.bk a H'
 |.cont=>∃a H',Inv X pins a H' s'/\D.ct a H'
 |.ret u=>∃v a H',Inv X pins a H' s'/\dc v u/\D.rt v H'
def PE(X:Cx)(e:Expr)(t:TE):Prop:=
 ∀(pins:List (Addr×Obj))(s:Shared)(σ:St)(H:Hp)(Q:VK),Inv X pins σ H s->t σ H Q->wpAny (model X.prog X.w) X.A (eval e X.env) (EP X pins σ Q) X.xe s
def PT(X:Cx)(e:Expr)(t:TT):Prop:=
 ∀(pins:List (Addr×Obj))(s:Shared)(σ:St)(H:Hp)(Q:Bool->Hp->Prop),Inv X pins σ H s->t σ H Q->wpAny (model X.prog X.w) X.A (isTrue e X.env (eval e X.env)) (TP X pins σ Q) X.xe s
def PW(X:Cx)(e:Expr)(t:TT):Prop:=
 ∀(a:Sem Value)(pins:List (Addr×Obj))(s:Shared)(σ:St)(H:Hp)(Q:Bool->Hp->Prop),Inv X pins σ H s->t σ H Q->wpAny (model X.prog X.w) X.A (isTrue e X.env a) (TP X pins σ Q) X.xe s
theorem PW.pt{X:Cx}{e:Expr}{t:TT}(h:PW X e t):PT X e t:=h _
def PA(X:Cx)(es:List Expr)(t:TA):Prop:=
 ∀(pos:Pos)(pins:List (Addr×Obj))(s:Shared)(σ:St)(H:Hp)(Q:List V->Hp->Prop),Inv X pins σ H s->t σ H Q->wpAny (model X.prog X.w) X.A (spliced (backTo pos (starEach es X.env))) (AP X pins σ Q) X.xe s
def PS(X:Cx)(st:Stmt)(t:TS):Prop:=
 ∀(pins:List (Addr×Obj))(s:Shared)(σ:St)(H:Hp)(D:mB),Inv X pins σ H s->t D σ H->wpAny (model X.prog X.w) X.A (exec st X.env) (SP X pins D) X.xe s
def PSs(X:Cx)(st:List Stmt)(t:TS):Prop:=
 ∀(pins:List (Addr×Obj))(s:Shared)(σ:St)(H:Hp)(D:mB),Inv X pins σ H s->t D σ H->wpAny (model X.prog X.w) X.A (execs st X.env) (SP X pins D) X.xe s
theorem dL{b:Type}{t:Sem b}{Q c:b->Shared->Prop}{M:Model}{A:Around}{E:Value->Shared->Prop}{s:Shared}(h:wpAny M A t Q E s)(d:∀a s,Q a s->c a s):wpAny M A t c E s:=bX h d λ_ _ x=>x
section
variable{X:Cx}
def Gr(i:Nat):TE:=λσ H Q=>∃v,σ[i]?=some (some v)/\Q v H
def tC(v:V):TE:=λ_ H Q=>Q v H
theorem GR{i:Nat}{x:Str}{pos:Pos}(n:X.N[i]?=some x)(j:K6 X.env.scope x)(hd:(x==("__debug__":Str))=false:=by decide)(f:(x==("__classdict__":Str))=false:=by decide):PE X (.Name x pos) (Gr i):=by
 intro pins s σ H Q I h;obtain⟨v,e,h⟩:=h;obtain⟨m,hn,o⟩:=I.loc;obtain⟨u,r,l⟩:=o i x v n e j;have d:EP X pins σ Q u s:=⟨v,H,I,r,h⟩;rcases l with⟨b,k⟩|⟨b,c,g,a⟩
 ·exact qp (og I.ok.kind b hn k d) hd
 ·rcases b with b|b
  ·exact qp (wpAny_loadName_cell I.ok.kind b g a d) hd
  ·exact qp (wpAny_loadName_free I.ok.kind b g a d f) hd
theorem ai{i j pos}:PE X (.Constant (.int i) j pos) (tC (.int i)):=λ_ _ _ H _ I h=>wpAny_Constant_int ⟨.int i,H,I.tok _,⟨_,rfl⟩,h⟩
theorem i6{b j pos}:PE X (.Constant (.bool b) j pos) (tC (.bl b)):=λ_ _ _ H _ I h=>Constant_bool ⟨.bl b,H,I,rfl,h⟩
theorem Cv{j pos}:PE X (.Constant .none j pos) (tC .non):=λ_ _ _ H _ I h=>Constant_none ⟨.non,H,I,rfl,h⟩
theorem ad{x j pos}:PE X (.Constant (.str x) j pos) (tC (.str x)):=λ_ _ _ H _ I h=>Calls.Constant_str ⟨.str x,H,I.tok _,⟨_,rfl⟩,h⟩
def Gl(X:Cx)(x:Str):Prop:=X.env.kindOf x=some .globalImplicit
theorem kt{E:Value->Shared->Prop}{pins:List (Addr×Obj)}{s:Shared}{σ:St}{H:Hp}{x:Str}{u:Value}{pos:Pos}{Q:Value->Shared->Prop}(I:Inv X pins σ H s)(b:Gl X x)(a:X.mg x=some u)(h:Q u s)
  (hd:(x==("__debug__":Str))=false:=by decide):wpAny (model X.prog X.w) X.A (eval (.Name x pos) X.env) Q E s:=
 Calls.Name_function_global I.ok.kind b (Calls.loadGlobal_global (by rw[I.ok.glob];exact I.mod.glob.keeps I.bk) a h) hd
theorem nU{E:Value->Shared->Prop}{pins:List (Addr×Obj)}{s:Shared}{σ:St}{H:Hp}{x:Str}{u:Value}{pos:Pos}{Q:Value->Shared->Prop}(I:Inv X pins σ H s)(b:Gl X x)(c:X.mg x=none)(a:bootBuiltins x=some u)(h:Q u s)
  (hn:x≠"__name__":=by decide)(hd:(x==("__debug__":Str))=false:=by decide):wpAny (model X.prog X.w) X.A (eval (.Name x pos) X.env) Q E s:=by
 obtain⟨mb,h1,h2⟩:=I.mod.blt;exact Calls.Name_function_global I.ok.kind b (Calls.loadGlobal_builtin (by rw[I.ok.glob];exact I.mod.glob.keeps I.bk) c (by rw[I.ok.blt];exact h1.keeps I.bk) ((h2 x hn).trans a) h) hd
theorem sQ{x:Str}{v:V}{u:Value}{pos:Pos}(b:Gl X x)(a:X.mg x=some u)(r:dc v u)(hd:(x==("__debug__":Str))=false:=by decide):PE X (.Name x pos) (tC v):=
 λ_ _ _ H _ I h=>kt I b a ⟨v,H,I,r,h⟩ hd
theorem EW{x:Str}{v:V}{u:Value}{pos:Pos}(c:Gl X x)(b:X.mg x=none)(a:bootBuiltins x=some u)(r:dc v u)(hn:x≠"__name__":=by decide)(hd:(x==("__debug__":Str))=false:=by decide):PE X (.Name x pos) (tC v):=
 λ_ _ _ H _ I h=>nU I c b a ⟨v,H,I,r,h⟩ hn hd
variable{a b:Expr}{ta tb:TE}{pos:Pos}
def PC(X:Cx)(e:CmpOp)(a b:Expr)(t:TE):Prop:=
 ∀(pins:List (Addr×Obj))(s:Shared)(σ:St)(H:Hp)(Q:VK),Inv X pins σ H s->t σ H Q->
  wpAny (model X.prog X.w) X.A (eval a X.env) (λv d=>wpAny (model X.prog X.w) X.A (eval b X.env) (λu c=>wpAny (model X.prog X.w) X.A (compareOp e v u) (EP X pins σ Q) X.xe c) X.xe d) X.xe s
theorem vA(b:Expr){a:CmpOp}(h:a≠ .In)(h2:a≠ .NotIn):behindInMarks a b=false:=by
 have c:(a==CmpOp.In)=false:=by cases a<;>first|rfl|exact absurd rfl h
 have d:(a==CmpOp.NotIn)=false:=by cases a<;>first|rfl|exact absurd rfl h2
 cases b<;>simp[behindInMarks,c,d]
def Ku(ta:TE):TE:=λσ H Q=>ta σ H λx H1=>Q (.bl (decide (x=.non))) H1
def Iy(ta:TE):TE:=λσ H Q=>ta σ H λx H1=>Q (.bl (!decide (x=.non))) H1
theorem dc.none_iff{x:V}{v:Value}(r:dc x v):(v==Value.none)=decide (x=.non):=by
 cases x with
 |non=>cases r;rfl
 |bl _=>cases r;rfl
 |int _=>obtain⟨t,rfl⟩:=r;rfl
 |str _=>obtain⟨t,rfl⟩:=r;rfl
 |byt _=>obtain⟨t,rfl⟩:=r;rfl
 |flt _=>obtain⟨t,rfl⟩:=r;rfl
 |ref _=>cases r;rfl
 |ty _=>cases r;rfl
theorem GU{j pos'}(e:PE X a ta):PC X .Is a (.Constant .none j pos') (Ku ta):=by
 intro pins s σ H Q I h;refine dL (e pins s σ H _ I h) λv s1⟨x,H1,b,d,c⟩=>?_;exact Constant_none (is_none_gen ⟨.bl _,H1,b,by rw[d.none_iff];rfl,c⟩)
theorem EX{j pos'}(e:PE X a ta):PC X .IsNot a (.Constant .none j pos') (Iy ta):=by
 intro pins s σ H Q I h;refine dL (e pins s σ H _ I h) λv s1⟨x,H1,b,d,c⟩=>?_;exact Constant_none (isnot_none_gen ⟨.bl _,H1,b,by rw[d.none_iff];rfl,c⟩)
def tB(t:TE):TT:=λσ H Q=>t σ H λx H1=>∃c,x=.bl c/\Q c H1
theorem GS{c:CmpOp}{t:TE}(h:PC X c a b t)(h1:behindInMarks c b=false:=by first|exact vA _ Qd Qd|rfl):PE X (.Compare a [c] [b] pos) t:=λpins s σ H Q I hw=>wpAny_Compare1 (h pins s σ H Q I hw) h1
theorem sL{e:CmpOp}{t:TE}(h:PC X e a b t)(h1:behindInMarks e b=false:=by first|exact vA _ Qd Qd|rfl):PT X (.Compare a [e] [b] pos) (tB t):=by
 intro pins s σ H Q I hw;refine D1 (dL (h pins s σ H _ I hw) λv s1 h1=>dL h1 λu j h2=>dL h2 λc k⟨x,H1,f,i,g⟩=>?_) h1;obtain⟨d,rfl,q⟩:=g;cases i;exact dr ⟨H1,f,q⟩
theorem fe{e:Expr}{t:TE}(h:PE X e t)(g:∀a,isTrue e X.env a=(do let v<-a;standAt e.pos;holding [v] (truthy v)):=by intro _;rfl):PT X e (tB t):=by
 intro pins s σ H Q I hw;refine isTrue_plain (dL (h pins s σ H _ I hw) λv s1⟨x,H1,b,f,c⟩=>?_) (g _);obtain⟨d,rfl,q⟩:=c;cases f;exact dr ⟨H1,b,q⟩
variable{tA tB':TT}{rest:List Expr}
def IH(t u:TT):TT:=λσ H Q=>t σ H λc H1=>if c=true then u σ H1 Q else Q false H1
def Lk(t u:TT):TT:=λσ H Q=>t σ H λc H1=>if c=true then Q true H1 else u σ H1 Q
def Kq(t:TT):TT:=λσ H Q=>t σ H λc H1=>Q (!c) H1
theorem gb(b:PT X a tA):PW X (.BoolOp .And [a] pos) tA:=by
 intro d pins s σ H Q I h;refine isTrue_and (dL (b pins s σ H Q I h) λc s1 e=>?_);cases c with
 |true=>exact isTrue_and_nil e
 |false=>exact e
theorem dU(b:PT X a tA):PW X (.BoolOp .Or [a] pos) tA:=by
 intro d pins s σ H Q I h;refine isTrue_or (dL (b pins s σ H Q I h) λc s1 e=>?_);cases c with
 |false=>exact isTrue_or_nil e
 |true=>exact e
theorem gH(f:PT X a tA)(i:PW X (.BoolOp .And (b::rest) pos) tB'):PW X (.BoolOp .And (a::b::rest) pos) (IH tA tB'):=by
 intro g pins s σ H Q I h;refine isTrue_and (dL (f pins s σ H _ I h) λc s1⟨H1,d,e⟩=>?_);cases c with
 |true=>exact i g pins s1 σ H1 Q d e
 |false=>exact⟨H1,d,e⟩
theorem eQ(f:PT X a tA)(i:PW X (.BoolOp .Or (b::rest) pos) tB'):PW X (.BoolOp .Or (a::b::rest) pos) (Lk tA tB'):=by
 intro g pins s σ H Q I h;refine isTrue_or (dL (f pins s σ H _ I h) λc s1⟨H1,d,e⟩=>?_);cases c with
 |true=>exact⟨H1,d,e⟩
 |false=>exact i g pins s1 σ H1 Q d e
theorem ij(b:PT X a tA):PT X (.UnaryOp .Not a pos) (Kq tA):=by
 intro pins s σ H Q I h;exact isTrue_not (b pins s σ H (λc H1=>Q (!c) H1) I h)
def IG(ta tb:TE):TE:=λσ H Q=>ta σ H λx H1=>∃c,x=.bl c/\if c=true then tb σ H1 Q else Q (.bl false) H1
def Kp(ta tb:TE):TE:=λσ H Q=>ta σ H λx H1=>∃c,x=.bl c/\if c=true then Q (.bl true) H1 else tb σ H1 Q
theorem sP{b}{t:TE}(h:PE X a t):PE X (.BoolOp b [a] pos) t:=λpins s σ H Q I hw=>BoolOp_one (h pins s σ H Q I hw)
theorem xN(g:PE X a ta)(i:PE X (.BoolOp .And (b::rest) pos) tb):PE X (.BoolOp .And (a::b::rest) pos) (IG ta tb):=by
 intro pins s σ H Q I h;refine BoolOp_and (dL (g pins s σ H _ I h) λv s1⟨x,H1,e,f,d⟩=>?_);obtain⟨c,rfl,d⟩:=d;cases f;refine dr ?_;cases c with
 |true=>exact i pins s1 σ H1 Q e d
 |false=>exact⟨.bl false,H1,e,rfl,d⟩
theorem IX(g:PE X a ta)(i:PE X (.BoolOp .Or (b::rest) pos) tb):PE X (.BoolOp .Or (a::b::rest) pos) (Kp ta tb):=by
 intro pins s σ H Q I h;refine BoolOp_or (dL (g pins s σ H _ I h) λv s1⟨x,H1,e,f,d⟩=>?_);obtain⟨c,rfl,d⟩:=d;cases f;refine dr ?_;cases c with
 |false=>exact i pins s1 σ H1 Q e d
 |true=>exact⟨.bl true,H1,e,rfl,d⟩
def Lq(t:TT)(ta tb:TE):TE:=λσ H Q=>t σ H λc H1=>if c=true then ta σ H1 Q else tb σ H1 Q
theorem pS{c:Expr}(i:PT X c tA)(g:PE X a ta)(j:PE X b tb):PE X (.IfExp c a b pos) (Lq tA ta tb):=by
 intro pins s σ H Q I h;refine wpAny_IfExp (dL (i pins s σ H _ I h) λd s1⟨H1,e,f⟩=>?_);cases d with
 |true=>exact g pins s1 σ H1 Q e f
 |false=>exact j pins s1 σ H1 Q e f
end
def SqL(K:ah)(H:Hp)(a:Addr)(xs:List V):Prop:=
 Rd H a (.lst xs)\/
  ∃(o:Obj)(b:Array Value)(n:Nat),K.lookup a=some o/\o.cls=.type "list"/\o.dict=none/\o.data=.seq b n/\b.size<=sizeLine/\cS xs b.toList
def SqT(K:ah)(H:Hp)(a:Addr)(xs:List V):Prop:=
 Rd H a (.tup xs)\/
  ∃(o:Obj)(b:Array Value)(n:Nat),K.lookup a=some o/\o.cls=.type "tuple"/\o.data=.seq b n/\b.size<=sizeLine/\cS xs b.toList
def K5:Value->Option V
 |.none=>some .non
 |.bool b=>some (.bl b)
 |.int i _=>some (.int i)
 |.str x _=>some (.str x)
 |.bytes b _=>some (.byt b)
 |.float b _=>some (.flt b)
 |.ref a=>some (.ref a)
 |.type n=>some (.ty n)
 |_=>none
theorem dc.abs{x:V}{u:Value}(r:dc x u):K5 u=some x:=by
 cases x with
 |non=>cases r;rfl
 |bl _=>cases r;rfl
 |int _=>obtain⟨t,rfl⟩:=r;rfl
 |str _=>obtain⟨t,rfl⟩:=r;rfl
 |byt _=>obtain⟨t,rfl⟩:=r;rfl
 |flt _=>obtain⟨t,rfl⟩:=r;rfl
 |ref _=>cases r;rfl
 |ty _=>cases r;rfl
theorem dc.inj{x y:V}{u:Value}(r:dc x u)(q:dc y u):x=y:=Option.some.inj (r.abs.symm.trans q.abs)
theorem cS.inj:∀{xs ys:List V}{us:List Value},cS xs us->cS ys us->xs=ys
 |_,_,_,.nil,.nil=>rfl
 |_,_,_,.cons r t,.cons a t'=>by rw[r.inj a,cS.inj t t']
section
variable{X:Cx}{pins:List (Addr×Obj)}{σ:St}{H:Hp}{s:Shared}{a:Addr}{xs ys:List V}
theorem SqL.of{K:ah}(h:H a=some (.lst xs)):SqL K H a xs:=.inl (.inl h)
theorem SqT.of{K:ah}(h:H a=some (.tup xs)):SqT K H a xs:=.inl (.inl h)
theorem Inv.list(I:Inv X pins σ H s)(h:SqL X.K H a xs):∃b:List Value,cS xs b/\PlainL s.heap a b.toArray/\xs.length<=sizeLine:=by
 rcases h with h|⟨o,b,n,d,c,hd,f,g,r⟩
 ·obtain⟨z,b,n,r,e⟩:=h.ok I.hok;exact⟨b,r,⟨_,n,e,rfl,rfl,rfl⟩,z⟩
 ·refine⟨b.toList,r,⟨o,n,I.kIn a o d,c,hd,by simpa using f⟩,?_⟩;have e:=r.length;simp only[fb]at e;omega
theorem Inv.tuple(I:Inv X pins σ H s)(h:SqT X.K H a xs):∃b:List Value,cS xs b/\IsTup s.heap a b.toArray/\xs.length<=sizeLine:=by
 rcases h with h|⟨o,b,n,d,c,f,g,r⟩
 ·obtain⟨z,b,r,p⟩:=h.ok I.hok;exact⟨b,r,p,z⟩
 ·refine⟨b.toList,r,⟨o,I.kIn a o d,c,n,by simpa using f⟩,?_⟩;have e:=r.length;simp only[fb]at e;omega
theorem Inv.list_inj(I:Inv X pins σ H s)(h:SqL X.K H a xs)(h':SqL X.K H a ys):xs=ys:=by
 obtain⟨b,r,⟨o,n,e,_,_,d⟩,_⟩:=I.list h;obtain⟨its',f,⟨o',g,c,_,_,d'⟩,_⟩:=I.list h';rw[e]at c;cases c;rw[d]at d';injection d' with d1 _
 have:b=its':=by simpa using bL Array.toList d1
 subst this;exact r.inj f
theorem Inv.tuple_inj(I:Inv X pins σ H s)(h:SqT X.K H a xs)(h':SqT X.K H a ys):xs=ys:=by
 obtain⟨b,r,⟨o,e,_,n,d⟩,_⟩:=I.tuple h;obtain⟨its',f,⟨o',c,_,g,d'⟩,_⟩:=I.tuple h';rw[e]at c;cases c;rw[d]at d';injection d' with d1 _
 have:b=its':=by simpa using bL Array.toList d1
 subst this;exact r.inj f
end
abbrev Cx.wish(X:Cx)(E:Value->Shared->Prop):Cx:={X with xe:=E}
abbrev Cx.nox(X:Cx):Cx:=X.wish λ_ _=>False
theorem Cx.Ok.wish{X:Cx}(ok:X.Ok)(E:Value->Shared->Prop):(X.wish E).Ok :=
 ⟨ok.mod,ok.kind,ok.glob,ok.blt,ok.above,ok.inj,ok.has,ok.cab,ok.hd,ok.frames,ok.stk,ok.exf,ok.bs,ok.bsz,ok.noex,ok.exfs,ok.funs,ok.frf⟩
theorem Cx.Ok.unwish{X:Cx}{E:Value->Shared->Prop}(ok:(X.wish E).Ok):X.Ok:=
 ⟨ok.mod,ok.kind,ok.glob,ok.blt,ok.above,ok.inj,ok.has,ok.cab,ok.hd,ok.frames,ok.stk,ok.exf,ok.bs,ok.bsz,ok.noex,ok.exfs,ok.funs,ok.frf⟩
section
variable{X:Cx}{pins:List (Addr×Obj)}{σ:St}{H:Hp}{s:Shared}{E:Value->Shared->Prop}
theorem Inv.wish(I:Inv X pins σ H s)(E:Value->Shared->Prop):Inv (X.wish E) pins σ H s:=⟨I.ok.wish E,I.os,I.bare,I.base,I.loc,I.cell,I.free,I.freeC,I.pin,I.hok,I.len⟩
theorem Inv.unwish(I:Inv (X.wish E) pins σ H s):Inv X pins σ H s:=⟨I.ok.unwish,I.os,I.bare,I.base,I.loc,I.cell,I.free,I.freeC,I.pin,I.hok,I.len⟩
theorem SP.unwish{D:mB}{f:Flow}{s':Shared}(h:SP (X.wish E) pins D f s'):SP X pins D f s':=by
 cases f with
 |next=>obtain⟨a,H',I,q⟩:=h;exact⟨a,H',I.unwish,q⟩
 |brk=>obtain⟨a,H',I,q⟩:=h;exact⟨a,H',I.unwish,q⟩
 |cont=>obtain⟨a,H',I,q⟩:=h;exact⟨a,H',I.unwish,q⟩
 |ret u=>obtain⟨v,a,H',I,r,q⟩:=h;exact⟨v,a,H',I.unwish,r,q⟩
theorem PSs.nox{st:List Stmt}{t:TS}(h:PSs X.nox st t):PSs X st t:=λpins s σ H D I hw=>
 bX (h pins s σ H D (I.wish _) hw) (λ_ _ q=>q.unwish) λ_ _ z=>False.elim z
end
section
variable{X:Cx}{st:Stmt}{rest:List Stmt}{t u:TS}{e:Expr}{te:TE}{pos:Pos}
def Iz:TS:=λD σ H=>D.nx σ H
def BF(t u:TS):TS:=λD σ H=>t {D with nx:=u D} σ H
theorem aW:PSs X [] Iz:=λ_ _ σ H _ I h=>eU ⟨σ,H,I,h⟩
theorem aw(h1:PS X st t)(h2:PSs X rest u):PSs X (st::rest) (BF t u):=by
 intro pins s σ H D I h;refine fq (dL (h1 pins s σ H {D with nx:=u D} I h) λf s1 q=>?_);cases f with
 |next=>
  obtain⟨a,H',b,q⟩:=q;exact h2 pins s1 a H' D b q
 |ret v=>exact q
 |brk=>exact q
 |cont=>exact q
theorem am(h1:PS X st t):PSs X [st] t:=by
 intro pins s σ H D I h;refine fq (dL (h1 pins s σ H D I h) λf s1 q=>?_);cases f with
 |next=>exact eU q
 |ret v=>exact q
 |brk=>exact q
 |cont=>exact q
theorem Inv.quiet{pins:List (Addr×Obj)}{σ:St}{H:Hp}{s:Shared}(I:Inv X pins σ H s):interactive X.env=false:=by simp[interactive,I.ok.kind]
def IE(te:TE):TS:=λD σ H=>te σ H λ_ H1=>D.nx σ H1
theorem dJ(c:PE X e te)(d:swapsWith e none pos.line X.env=pure false:=by rfl):PS X (.Expr e pos) (IE te):=by
 intro pins s σ H D I h;exact wpAny_Expr_any (dL (c pins s σ H _ I h) λv s1⟨x,H1,a,f,b⟩=>⟨σ,H1,a,b⟩) I.quiet d
def Kn(te:TE):TS:=λD σ H=>te σ H D.rt
theorem aR(d:PE X e te):PS X (.Return (some e) pos) (Kn te):=by
 intro pins s σ H D I h;exact wpAny_Return_some (dL (d pins s σ H _ I h) λv s1⟨x,H1,a,c,b⟩=>⟨x,σ,H1,a,c,b⟩)
def IC(c:TT)(t u:TS):TS:=λD σ H=>c σ H λb H1=>if b=true then t D σ H1 else u D σ H1
theorem bA{c:Expr}{a b:List Stmt}{tc:TT}(g:PT X c tc)(j:PSs X a t)(i:PSs X b u):PS X (.If c a b pos) (IC tc t u):=by
 intro pins s σ H D I h;refine wpAny_If (dL (g pins s σ H _ I h) λd s1⟨H1,e,f⟩=>?_);cases d with
 |true=>exact j pins s1 σ H1 D e f
 |false=>exact i pins s1 σ H1 D e f
def BG:TS:=λ_ _ _=>False
theorem gi:PS X st BG:=λ_ _ _ _ _ _ h=>h.elim
theorem re{a:List Stmt}:PSs X a BG:=λ_ _ _ _ _ _ h=>h.elim
end
abbrev TG:=V->St->Hp->(St->Hp->Prop)->Prop
abbrev H_:=List V->St->Hp->(St->Hp->Prop)->Prop
def PG(X:Cx)(a:Expr)(t:TG):Prop:=
 ∀(pins:List (Addr×Obj))(s:Shared)(σ:St)(H:Hp)(v:V)(u:Value)(Q:St->Hp->Prop),Inv X pins σ H s->dc v u->t v σ H Q->
  wpAny (model X.prog X.w) X.A (assign a X.env u) (λ_ s'=>∃b H',Inv X pins b H' s'/\Q b H') X.xe s
def Kf(X:Cx)(ts:List Expr)(t:H_):Prop:=
 ∀(pins:List (Addr×Obj))(s:Shared)(σ:St)(H:Hp)(vs:List V)(us:List Value)(Q:St->Hp->Prop),Inv X pins σ H s->cS vs us->t vs σ H Q->
  wpAny (model X.prog X.w) X.A (assignInOrder ((assignEach ts X.env).map (·.2)) us) (λ_ s'=>∃a H',Inv X pins a H' s'/\Q a H') X.xe s
abbrev HZ:=V->V->V->Hp->(Hp->Prop)->Prop
def JU(X:Cx)(t:HZ):Prop:=
 ∀(pins:List (Addr×Obj))(s:Shared)(σ:St)(H:Hp)(o i v:V)(ov a u:Value)(Q:Hp->Prop),Inv X pins σ H s->dc o ov->dc i a->dc v u->t o i v H Q->
  wpAny (model X.prog X.w) X.A (setItem ov a u) (λ_ s'=>∃H',Inv X pins σ H' s'/\Q H') X.xe s
section
variable{X:Cx}{pos:Pos}
def vL(i:Nat):TG:=λv σ H Q=>Q (σ.set i (some v)) H
theorem db{i:Nat}{x:Str}(c:X.N.Nodup)(hi:X.N[i]?=some x)(a:Ii X.env.scope x)(d:X.fn x=true\/X.env.scope.names.lookup x=some .local:=by first|exact .inl rfl|exact .inr rfl|assumption):PG X (.Name x pos) (vL i):=by
 intro pins s σ H v u Q I r h;exact qF (kY I c hi a r (λs' b=>⟨_,H,b,h⟩) d)
def KZ:H_:=λvs σ H Q=>vs=[]/\Q σ H
def JF(t:TG)(u:H_):H_:=λvs σ H Q=>∃v r,vs=v::r/\t v σ H λa H'=>u r a H' Q
theorem oQ:Kf X [] KZ:=by
 intro pins s σ H vs us Q I r h;obtain⟨e,h⟩:=h;subst e;cases r;exact assignInOrder_nil ⟨σ,H,I,h⟩
theorem gU{e:Expr}{es:List Expr}{t:TG}{u:H_}(h1:PG X e t)(h2:Kf X es u)
  (f:(assignEach (e::es) X.env).map (·.2)=assign e X.env::(assignEach es X.env).map (·.2):=by rfl):Kf X (e::es) (JF t u):=by
 intro pins s σ H vs us Q I r h;obtain⟨v,i,g,h⟩:=h;subst g;cases r with
 |cons r d=>
  rw[f];refine assignInOrder_cons (dL (h1 pins s σ H _ _ _ I r h) λ_ s1⟨a,H1,b,c⟩=>?_);exact h2 pins s1 a H1 _ _ Q b d c
def KW(K:ah)(n:Nat)(t:H_):TG:=λv σ H Q=>∃a xs,v=.ref a/\SqT K H a xs/\xs.length=n/\t xs σ H Q
theorem sO{es:List Expr}{k:Nat}{t:H_}{n:Nat}(j:X.calm=true)(h:Kf X es t)
  (hn:(assignEach es X.env).length=n:=by rfl)(c:(assignEach es X.env).findIdx? (·.1)=none:=by rfl):PG X (.Tuple es k pos) (KW X.K n t):=by
 intro pins s σ H v u Q I r hw;obtain⟨a,xs,m,i,q,hw⟩:=hw;subst m;cases r;obtain⟨g,d,p,w⟩:=I.tuple i;refine assign_Tuple_tuple (I.ok.hd j) p (by simp[hn,<-q,d.length]) c λh' l=>?_;have f:Inv X pins σ H {s with heap:=h'}:=I.kept (t':=s.toks) λb o e=>l b o (bF (aV e)) e;exact h pins _ σ H xs _ Q f (by simpa using d) hw
def KY(to ti:TE)(t:HZ):TG:=λv σ H Q=>to σ H λo H1=>ti σ H1 λi H2=>t o i v H2 λa=>Q σ a
theorem GQ{o i:Expr}{to ti:TE}{t:HZ}(m:PE X o to)(hi:PE X i ti)(e:JU X t)
  (k:∀v,assign (.Subscript o i pos) X.env v=(do
   let ov<-holding [v] (eval o X.env);let a<-holding [v,ov] (eval i X.env)
   standAt pos
   holding [v,ov,a] (setItem ov a v)
   release [v,ov,a] []):=by intro _;rfl):PG X (.Subscript o i pos) (KY to ti t):=by
 intro pins s σ H v u Q I r h;rw[k];refine az (fT (dL (m pins s σ H _ I h) λov s1⟨x,H1,b,f,c⟩=>?_));refine az (fT (dL (hi pins s1 σ H1 _ b c) λa l⟨y,H2,g,j,p⟩=>?_));refine az (lI (az (fT (dL (e pins l σ H2 x y v ov a u _ g f j r p) λ_ w⟨d,n,q⟩=>?_))));exact wpAny_release ⟨σ,d,n,q⟩
def Eg(te:TE)(g:TG):TS:=λD σ H=>te σ H λx H1=>g x σ H1 D.nx
theorem sN{tg e:Expr}{te:TE}{g:TG}(i:PE X e te)(f:PG X tg g)(c:swapsWithSole [tg] e pos.line X.env=pure false:=by rfl)(hw:swappedStores [tg] e X.env=pure none:=by rfl)
  (h1:(assignEach [tg] X.env).map (·.2)=[assign tg X.env]:=by rfl):PS X (.Assign [tg] e pos) (Eg te g):=by
 intro pins s σ H D I h;refine wpAny_Assign_stores (dL (i pins s σ H _ I h) λv s1⟨x,H1,a,d,b⟩=>?_) c hw;rw[h1];exact dL (f pins s1 σ H1 x v _ a d b) λ_ j q=>q
theorem aY{i:Nat}{x:Str}{e:Expr}{te:TE}{pos':Pos}(l:X.N.Nodup)(hi:X.N[i]?=some x)(g:Ii X.env.scope x)(j:PE X e te)(c:swapsWith e (some (.Name x pos')) pos.line X.env=pure false:=by rfl)(k:X.fn x=true\/X.env.scope.names.lookup x=some .local:=by first|exact .inl rfl|exact .inr rfl|assumption):
  PS X (.Assign [.Name x pos'] e pos) (Eg te (vL i)):=by
 intro pins s σ H D I h;refine qG (dL (j pins s σ H _ I h) λv s1⟨y,H1,a,d,b⟩=>?_) c;exact kY a l hi g d (λm f=>⟨_,H1,f,b⟩) k
end
section
variable{X:Cx}{pos:Pos}
def Gq(c:TT)(tb:TS):TS:=λD σ H=>∃W:Nat->St->Hp->Prop,(∃m,W m σ H)/\∀m σ H,W m σ H->
 c σ H λb H1=>if b=true then∃N:St->Hp->Prop,(∀a H',N a H'->∃d,d<m/\W d a H')/\tb {D with nx:=N,ct:=N,bk:=D.nx} σ H1 else D.nx σ H1
theorem pO{c:Expr}{e:List Stmt}{tc:TT}{tb:TS}(w:PassesOwn (model X.prog X.w) X.A X.env X.xe)(z:PT X c tc)(A:PSs X e tb):PS X (.While c e [] pos) (Gq tc tb):=by
 intro pins s σ H D I h;obtain⟨W,⟨m0,C⟩,j⟩:=h;refine wpAny_While (codeAny_whileLoop (λn s'=>∃i H',Inv X pins i H' s'/\W n i H') ?_ m0 ⟨σ,H,I,C⟩);rintro n s1⟨d,H1,y,w1⟩;refine di w (dL (z pins s1 d H1 _ y (j n d H1 w1)) λb B⟨H2,u,k⟩=>?_);cases b with
 |true=>
  obtain⟨N,x,k⟩:=k;rw[aO rfl];refine di w (dL (A pins B d H2 _ u k) λf E l=>?_);cases f with
  |next=>
   obtain⟨a,g,q,t⟩:=l;obtain⟨m,p,o⟩:=x a g t;exact⟨m,p,a,g,q,o⟩
  |cont=>
   obtain⟨a,g,q,t⟩:=l;obtain⟨m,p,o⟩:=x a g t;exact⟨m,p,a,g,q,o⟩
  |brk=>exact l
  |ret v=>exact l
 |false=>
  rw[aG ba];exact eU ⟨d,H2,u,k⟩
end
structure It where
 go:Nat->Hp->Prop
 yld:Nat->Hp->V->Hp->Prop
 stop:Nat->Hp->Prop
def jy(X:Cx)(pins:List (Addr×Obj))(H:Hp)(b:Addr):Prop:=
 H b=none/\b≠X.env.locals/\b∉X.fs/\(b∈X.ex\/X.s₀.heap.objs.size<=b)/\(∀x c,X.env.cells.lookup x=some c->c≠b)/\∀p∈X.pn++pins,p.1≠b
theorem Inv.fpOk{X:Cx}{pins:List (Addr×Obj)}{σ:St}{H H':Hp}{s:Shared}{b:Addr}(I:Inv X pins σ H s)(a:s.heap.objs.size<=b)(hn:H' b=none):jy X pins H' b:=by
 refine⟨hn,kf (bo I.lt a),I.nofs a,.inr (af I.sz a),λx c e z=>?_,λp d z=>?_⟩
 ·obtain⟨v,q⟩:=I.cell x c e;exact absurd (bo q.lt (by rw[z];exact a)) (dw _)
 ·exact absurd (bo (aV (I.pin p d).1) (by rw[z];exact a)) (dw _)
structure wF(P:Program)(w:World)(K:ah)(tg:Expr)(J:It)(fp:List Addr)(it:Addr)(tn:Nat->Heap->Prop):Prop where
 mem:it∈fp
 obj:∀i h,tn i h->∀b∈fp,∃o,h.get? b=some o/\∀v,o.data≠ .cell v
 keep:∀i h h',tn i h->(∀b∈fp,∀o,h.get? b=some o->h'.get? b=some o)->tn i h'
 item:∀(X:Cx),X.prog=P->X.w=w->X.K=K->X.calm=true->∀(i:Nat)(pins:List (Addr×Obj))(s:Shared)(σ:St)(H:Hp)(E:Value->Shared->Prop),Inv X pins σ H s->(∀b∈fp,jy X pins H b)->tn i s.heap->J.go i H->
  wpAny (model P w) X.A (pyNext (.ref it)) (λr s1=>∃u,r=some u/\
   wpAny (model P w) X.A (letOwnedTupleGo tg (.ref it) u) (λ_ s2=>∃x H',Inv X pins σ H' s2/\dc x u/\J.yld i H x H'/\tn (i+1) s2.heap/\∀b∈fp,H' b=none) E s1) E s
 done:∀(X:Cx),X.prog=P->X.w=w->X.K=K->X.calm=true->∀(i:Nat)(pins:List (Addr×Obj))(s:Shared)(σ:St)(H:Hp)(E:Value->Shared->Prop),Inv X pins σ H s->(∀b∈fp,jy X pins H b)->tn i s.heap->J.stop i H->
  wpAny (model P w) X.A (pyNext (.ref it)) (λr s1=>r=none/\Inv X pins σ H s1) E s
 self:∀(A:Around)(i:Nat)(s:Shared)(Q:Value->Shared->Prop)(E:Value->Shared->Prop),tn i s.heap->Q (.ref it) s->wpAny (model P w) A (pyIter (.ref it)) Q E s
abbrev TI:=St->Hp->(It->Hp->Prop)->Prop
def K9(X:Cx)(pins:List (Addr×Obj))(σ:St)(tg:Expr)(R:It->Hp->Prop)(a:Value)(c:Shared):Prop:=
 ∃(it:Addr)(fp:List Addr)(tn:Nat->Heap->Prop)(J:It)(H':Hp),a=.ref it/\Inv X pins σ H' c/\wF X.prog X.w X.K tg J fp it tn/\tn 0 c.heap/\(∀b∈fp,jy X pins H' b)/\R J H'
def PI(X:Cx)(tg iter:Expr)(a:TI):Prop:=
 ∀(pins:List (Addr×Obj))(s:Shared)(σ:St)(H:Hp)(R:It->Hp->Prop),Inv X pins σ H s->a σ H R->
  wpAny (model X.prog X.w) X.A (eval iter X.env) (λv s1=>wpAny (model X.prog X.w) X.A (pyIter v) (K9 X pins σ tg R) X.xe s1) X.xe s
theorem rs{M:Model}{A:Around}{E:Value->Shared->Prop}{s:Shared}{tg:Expr}{it:Addr}{u:Value}{o:Obj}{n:String}{vs:Array Value}{Q:Unit->Shared->Prop}(b:s.heap.get? it=some o)(c:o.cls=.type n)(hd:o.data=.fields vs)
    (hn:["enumerate","zip","dict_itemiterator","dict_reverseitemiterator","odict_iterator","itertools.zip_longest","itertools.pairwise"].contains n=false)(a:Q () s):wpAny M A (letOwnedTupleGo tg (.ref it) u) Q E s:=by
  unfold letOwnedTupleGo;cases tg<;>first
    |exact bd a
    |(cases u<;>first
        |exact bd a
        | (refine az (wpAny_load b ?_)
           rw[c,hd];show wpAny M A (if(["enumerate","zip","dict_itemiterator","dict_reverseitemiterator","odict_iterator","itertools.zip_longest","itertools.pairwise"].contains n&&vs[0]? ==some (rawInt _))=true then _ else _) Q E s;rw[aG (by intro h;rw[hn,Bool.false_and]at h;cases h)];exact bd a))
def Ij(K:ah)(a:Addr):It:=
 ⟨λi H=>∃xs x,SqL K H a xs/\xs[i]?=some x,λi H x H'=>H'=H/\∀xs,SqL K H a xs->xs[i]?=some x,λi H=>∃xs,SqL K H a xs/\xs.length<=i⟩
def Lf(K:ah)(a:Addr):It:=
 ⟨λi H=>∃xs x,SqT K H a xs/\xs[i]?=some x,λi H x H'=>H'=H/\∀xs,SqT K H a xs->xs[i]?=some x,λi H=>∃xs,SqT K H a xs/\xs.length<=i⟩
def Id(lo:Int)(n:Nat):It:=⟨λi _=>i<n,λi H x H'=>H'=H/\x=.int (lo+i),λi _=>n<=i⟩
theorem Au{P:Program}{w:World}{K:ah}{tg:Expr}(a it:Addr):wF P w K tg (Ij K a) [it] it (λi h=>h.IsListIter it a i) where
 mem:=Qs
 obj:=λi h st b f=>by
  have e:b=it:=by simpa using f
  subst e;obtain⟨o,e,c,d⟩:=st;exact⟨o,e,λv z=>by rw[d]at z;cases z⟩
 keep:=λi h h' st k=>st.at λo e=>k it Qs o e
 item:=by
  intro X F hw q J i pins s σ H E I l st y;subst F hw q;obtain⟨xs,x,j,A⟩:=y;obtain⟨n,m,p,O⟩:=I.list j;obtain⟨u,R,Q⟩:=m.get A;obtain⟨G,B,T,D,t,C⟩:=l it Qs;refine wpAny_pyNext_list_item st p.isList (x:=u) (by simpa using R) λh' g S=>?_;have L:Inv X pins σ H {s with heap:=h'}:=I.turned (t':=s.toks) (λb o f e=>(S.2 b f).trans e) G B D t C;obtain⟨o,e,c,d⟩:=id g;exact⟨u,rfl,rs (s:={s with heap:=h'}) e c d Qd ⟨x,H,L,Q,⟨rfl,λys N=>by rw[I.list_inj N j];exact A⟩,g,λb f=>(l b f).1⟩⟩
 done:=by
  intro X F hw q J i pins s σ H E I l st y;subst F hw q;obtain⟨xs,j,A⟩:=y;obtain⟨n,m,p,O⟩:=I.list j;obtain⟨G,B,T,D,t,C⟩:=l it Qs;have U:=m.length;exact wpAny_pyNext_list_end (I.ok.hd J) st p.isList (by simp;omega) λh' M=>⟨rfl,I.turned (t':=s.toks) (λb o f e=>M b o f e) G B D t C⟩
 self:=λ_ _ _ _ _ st h=>wpAny_pyIter_listiter st h
theorem wW{P:Program}{w:World}{K:ah}{tg:Expr}(a it:Addr):wF P w K tg (Lf K a) [it] it (λi h=>h.IsTupleIter it a i) where
 mem:=Qs
 obj:=λi h st b g=>by
  have e:b=it:=by simpa using g
  subst e;obtain⟨o,e,c,d⟩:=st;exact⟨o,e,λv z=>by rw[d]at z;cases z⟩
 keep:=λi h h' st k=>st.at λo e=>k it Qs o e
 item:=by
  intro X F hw q J i pins s σ H E I m st y;subst F hw q;obtain⟨xs,x,l,A⟩:=y;obtain⟨f,n,p,O⟩:=I.tuple l;obtain⟨u,R,Q⟩:=n.get A;obtain⟨G,B,T,D,t,C⟩:=m it Qs;refine wpAny_pyNext_tuple_item st (show s.heap.IsTuple a f.toArray from p) (x:=u) (by simpa using R) λh' j S=>?_;have L:Inv X pins σ H {s with heap:=h'}:=I.turned (t':=s.toks) (λb o g e=>(S.2 b g).trans e) G B D t C;obtain⟨o,e,c,d⟩:=id j;exact⟨u,rfl,rs (s:={s with heap:=h'}) e c d Qd ⟨x,H,L,Q,⟨rfl,λys N=>by rw[I.tuple_inj N l];exact A⟩,j,λb g=>(m b g).1⟩⟩
 done:=by
  intro X F hw q J i pins s σ H E I m st y;subst F hw q;obtain⟨xs,l,A⟩:=y;obtain⟨f,n,p,O⟩:=I.tuple l;obtain⟨G,B,T,D,t,C⟩:=m it Qs;have U:=n.length;exact wpAny_pyNext_tuple_end (I.ok.hd J) st (show s.heap.IsTuple a f.toArray from p) (by simp;omega) λh' M=>⟨rfl,I.turned (t':=s.toks) (λb o g e=>M b o g e) G B D t C⟩
 self:=λ_ _ _ _ _ st h=>wpAny_pyIter_tupleiter st h
theorem wX{P:Program}{w:World}{K:ah}{tg:Expr}(it:Addr)(lo:Int)(n:Nat):wF P w K tg (Id lo n) [it] it (λi h=>IsRangeIter h it (lo+(i:Nat)*1) ((n:Int)-(i:Nat)) 1) where
 mem:=Qs
 obj:=λi h st b a=>by
  have e:b=it:=by simpa using a
  subst e;exact⟨_,st,λv z=>by
   have C:Data.fields _=Data.cell v:=z;cases C⟩
 keep:=λi h h' st k=>k it Qs _ st
 item:=by
  intro X u hw f j i pins s σ H E I d st l;subst u hw f;obtain⟨x,m,D,q,g,p⟩:=d it Qs;have W:=Walks.range (prog:=X.prog) (w:=X.w) (I.ok.hd j) it lo 1 n;refine W.item i s _ _ l st λv h' tk A c F=>?_;obtain⟨t,rfl⟩:=A;have y:Inv X pins σ H {s with heap:=h',toks:=tk}:=I.turned (λb o a e=>F b o (by simpa using a) e) x m q g p;refine⟨_,rfl,rs (s:={s with heap:=h',toks:=tk}) (n:="range_iterator") c rfl rfl Qd ⟨.int (lo+i),H,y,⟨t,?_⟩,⟨rfl,rfl⟩,c,λb a=>(d b a).1⟩⟩;rw[Int.mul_one]
 done:=by
  intro X u hw f j i pins s σ H E I d st l;subst u hw f;obtain⟨x,m,D,q,g,p⟩:=d it Qs;exact DQ (I.ok.hd j) st (by have:n<=i:=l;omega) λh' B=>⟨rfl,I.turned (t':=s.toks) (λb o a e=>B b o a e) x m q g p⟩
 self:=λ_ _ _ _ _ st h=>DR st h
section
variable{X:Cx}{tg:Expr}
def JE(K:ah)(tl:TE):TI:=λσ H R=>tl σ H λx H1=>∃a,x=.ref a/\(∃xs,SqL K H1 a xs)/\R (Ij K a) H1
def KT(K:ah)(tl:TE):TI:=λσ H R=>tl σ H λx H1=>∃a,x=.ref a/\(∃xs,SqT K H1 a xs)/\R (Lf K a) H1
theorem mW{l:Expr}{tl:TE}(k:PE X l tl):PI X tg l (JE X.K tl):=by
 intro pins s σ H R I h;refine dL (k pins s σ H _ I h) λv s1⟨x,H1,c,i,d⟩=>?_;obtain⟨a,e,⟨xs,g⟩,q⟩:=d;subst e;cases i;obtain⟨f,m,p,n⟩:=c.list g;refine wpAny_pyIter_list p.isList ?_;refine⟨s1.heap.objs.size,[s1.heap.objs.size],_,_,H1,rfl,c.kept (t':=s1.toks) λb o e=>aE _ e,Au a _,⟨_,bJ _ rfl,rfl,rfl⟩,λb j=>?_,q⟩;have e:b=s1.heap.objs.size:=by simpa using j
 subst e;exact c.fpOk (ao _) (c.hok.fresh (ao _))
theorem xM{l:Expr}{tl:TE}(k:PE X l tl):PI X tg l (KT X.K tl):=by
 intro pins s σ H R I h;refine dL (k pins s σ H _ I h) λv s1⟨x,H1,c,i,f⟩=>?_;obtain⟨a,e,⟨xs,g⟩,q⟩:=f;subst e;cases i;obtain⟨d,m,p,n⟩:=c.tuple g;refine wpAny_pyIter_tuple (show s1.heap.IsTuple a d.toArray from p) ?_;refine⟨s1.heap.objs.size,[s1.heap.objs.size],_,_,H1,rfl,c.kept (t':=s1.toks) λb o e=>aE _ e,wW a _,⟨_,bJ _ rfl,rfl,rfl⟩,λb j=>?_,q⟩;have e:b=s1.heap.objs.size:=by simpa using j
 subst e;exact c.fpOk (ao _) (c.hok.fresh (ao _))
theorem Cg{pins:List (Addr×Obj)}{σ:St}{H:Hp}{s:Shared}{R:It->Hp->Prop}{E:Value->Shared->Prop}{lo hi:Int}{t u v:Tok}{tk:Nat}(I:Inv X pins σ H s)(h1:-(2^62)<=lo)(h2:lo<2^62)(h:-(2^62)<=hi)(f:hi<2^62)
  (q:R (Id lo (hi-lo).toNat) H):wpAny (model X.prog X.w) X.A (pyIter (.ref s.heap.objs.size)) (K9 X pins σ tg R) E {s with heap:=s.heap.push {cls:=.type "range",data:=.fields #[.int lo t,.int hi u,.int 1 v]},toks:=tk}:=by
 refine wpAny_pyIter_range (IsRange.new ..) (small_one h1 h2 h f) ?_;have a:Inv X pins σ H {s with heap:=s.heap.push {cls:=.type "range",data:=.fields #[.int lo t,.int hi u,.int 1 v]},toks:=tk}:=I.kept λb o e=>aE _ e;refine⟨(s.heap.push {cls:=.type "range",data:=.fields #[.int lo t,.int hi u,.int 1 v]}).objs.size,[(s.heap.push {cls:=.type "range",data:=.fields #[.int lo t,.int hi u,.int 1 v]}).objs.size],_,_,H,rfl,
  a.kept (t':=tk) λb o e=>aE _ e,wX _ lo (hi-lo).toNat,?_,λb c=>?_,q⟩
 ·have d:lo+((0:Nat):Int)*1=lo:=Qs;have g:(((hi-lo).toNat:Nat):Int)-((0:Nat):Int)=Builtin.Range.rangeSize lo hi 1:=by rw[rangeSize_one];split<;>omega
  show IsRangeIter _ _ (lo+((0:Nat):Int)*1) ((((hi-lo).toNat:Nat):Int)-((0:Nat):Int)) 1;rw[d,g];exact bJ _ rfl
 ·have e:b=(s.heap.push {cls:=.type "range",data:=.fields #[.int lo t,.int hi u,.int 1 v]}).objs.size:=by simpa using c
  subst e;exact a.fpOk (ao _) (a.hok.fresh (ao _))
def JD(ta:TA):TI:=λσ H R=>ta σ H λvs H1=>∃j:Int,vs=[.int j]/\-(2^62)<=j/\j<2^62/\R (Id 0 j.toNat) H1
theorem iC{a:Expr}{ta:TA}{p pos:Pos}(i:Gl X "range")(l:X.mg "range"=none)(k:PA X [a] ta)(f:starEach [a] X.env=[(false,eval a X.env)]:=by rfl):PI X tg (.Call (.Name "range" p) [a] [] pos) (JD ta):=by
 intro pins s σ H R I h;refine Call_ (nU I i l boot_range (ke (dL (k pos pins s σ H _ I h) λus s1⟨vs,H1,c,g,b⟩=>?_) f rfl));obtain⟨j,e,b,m,q⟩:=b;subst e;cases g with
 |cons r d=>
  cases d;obtain⟨t,rfl⟩:=r;exact call_range_1 (Cg c Qo Qo b m (by simpa using q))
def Kw(d:TI)(g:TG)(tb:TS):TS:=λD σ H=>d σ H λJ H1=>∃W:Nat->Nat->St->Hp->Prop,(∃m,W 0 m σ H1)/\∀i m σ H,W i m σ H->
 (J.stop i H/\D.nx σ H)\/(J.go i H/\∃N:St->Hp->Prop,(∀a H',N a H'->∃c,c<m/\W (i+1) c a H')/\∀x H',J.yld i H x H'->g x σ H' λb H2=>tb {D with nx:=N,ct:=N,bk:=D.nx} b H2)
def mv(fp:List Addr)(h:Heap):List (Addr×Obj):=fp.filterMap λb=>(h.get? b).map λo=>(b,o)
theorem gr{fp:List Addr}{h:Heap}{b:Addr}{o:Obj}(a:b∈fp)(e:h.get? b=some o):(b,o)∈mv fp h:=kD.mpr ⟨b,a,by rw[e];rfl⟩
theorem AR{fp:List Addr}{h:Heap}{p:Addr×Obj}(c:p∈mv fp h):p.1∈fp/\h.get? p.1=some p.2:=by
 obtain⟨b,d,e⟩:=kD.mp c;cases q:h.get? b with
 |none=>rw[q]at e;cases e
 |some o=>
  rw[q]at e;have a:(b,o)=p:=Option.some.inj e;subst a;exact⟨d,q⟩
theorem Inv.pinned{pins:List (Addr×Obj)}{σ:St}{H:Hp}{s:Shared}{fp:List Addr}(I:Inv X pins σ H s)(h:∀b∈fp,jy X pins H b)(i:∀b∈fp,∃o,s.heap.get? b=some o/\∀v,o.data≠ .cell v):Inv X (pins++mv fp s.heap) σ H s:=
 I.pins_of λp g=>(bY.mp g).elim (λz=>I.pin p (aZ _ z)) λz=>by
  obtain⟨a,e⟩:=AR z;obtain⟨k,f,j,_⟩:=h p.1 a;obtain⟨o,c,d⟩:=i p.1 a;rw[e]at c;cases c;exact⟨e,k,f,j,d⟩
theorem Inv.unpinned{pins pl:List (Addr×Obj)}{σ:St}{H:Hp}{s:Shared}(I:Inv X (pins++pl) σ H s):Inv X pins σ H s:=I.pins_of λp a=>I.pin p (aZ _ (jE _ a))
theorem mr{iter:Expr}{y:List Stmt}{wi:TI}{g:TG}{tb:TS}{pos:Pos}(C:PassesOwn (model X.prog X.w) X.A X.env X.xe)(S:X.calm=true)(hi:PI X tg iter wi)(hg:PG X tg g)(p:PSs X y tb)
  (hs:∀x,foldedSetIterable iter X.env x=pure x:=by intro _;rfl):PS X (.For tg iter y [] pos) (Kw wi g tb):=by
 intro pins s σ H D I h;refine wpAny_For (dL (hi pins s σ H _ I h) λv s1 h1=>dL h1 λxa s2 h2=>?_) hs;obtain⟨it,fp,tn,J,H2,e,I2,T,M,V,W,⟨m0,w0⟩,E⟩:=h2;subst e;have t:∀{H':Hp},(∀b∈fp,H' b=none)->∀b∈fp,jy X pins H' b:=λhn b p=>⟨hn b p,(V b p).2⟩;refine codeAny_forLoop_any (λn s'=>∃i q H',Inv X pins q H' s'/\tn i s'.heap/\(∀b∈fp,H' b=none)/\W i n q H') ?_ m0 ⟨0,σ,H2,I2,M,λb p=>(V b p).1,w0⟩;rintro n Z⟨i,l,K,U,G,A,w3⟩;rcases E i n l K w3 with⟨stop,qn⟩|⟨go,N,hN,F⟩
 ·refine di C (dL (T.done X rfl rfl rfl S i pins Z l K X.xe U (t A) G stop) λr s4⟨O,I4⟩=>?_);subst O;exact eU ⟨l,K,I4,qn⟩
 ·refine di C (dL (T.item X rfl rfl rfl S i pins Z l K X.xe U (t A) G go) λr s4⟨u,O,h4⟩=>?_);subst O;refine di C (dL h4 λ_ s5⟨x,Y,I5,r5,y5,z,Q⟩=>?_);have R:=I5.pinned (t Q) (T.obj _ _ z);refine di C (dL (hg _ s5 l Y x u _ R r5 (F x Y y5)) λ_ s6⟨L,H6,I6,q6⟩=>?_);refine di C (dL (p _ s6 L H6 _ I6 q6) λf P w=>?_);have c:∀{a:St}{k:Hp},Inv X (pins++mv fp s5.heap) a k P->N a k->∃m,m<n/\∃i q H',Inv X pins q H' P/\tn i P.heap/\(∀b∈fp,H' b=none)/\W i m q H':=λ{a k}j B=>by
   obtain⟨m',hm,w7⟩:=hN a k B;refine⟨m',hm,i+1,a,k,j.unpinned,T.keep _ _ _ z λb p o e=>(j.pin (b,o) (aZ _ (aZ _ (gr p e)))).1,λb p=>?_,w7⟩;obtain⟨o,e,d⟩:=T.obj _ _ z b p;exact(j.pin (b,o) (aZ _ (aZ _ (gr p e)))).2.1
  cases f with
  |next=>obtain⟨a,k,j,B⟩:=w;exact c j B
  |cont=>obtain⟨a,k,j,B⟩:=w;exact c j B
  |brk=>obtain⟨a,k,j,w⟩:=w;exact⟨a,k,j.unpinned,w⟩
  |ret v=>obtain⟨x7,a,k,j,r7,w⟩:=w;exact⟨x7,a,k,j.unpinned,r7,w⟩
end
theorem qg{K:ah}{a:Addr}{xs:List V}{g:TG}{tb:TS}{D:mB}{σ:St}{H:Hp}(b:Nat->St->Hp->Prop)(h0:b 0 σ H)(l:∀i σ H,i<=xs.length->b i σ H->SqL K H a xs)
  (j:∀i x σ H,xs[i]?=some x->b i σ H->g x σ H λd H2=>tb {D with nx:=b (i+1),ct:=b (i+1),bk:=D.nx} d H2)(hd:∀σ H,b xs.length σ H->D.nx σ H):
  ∃W:Nat->Nat->St->Hp->Prop,(∃m,W 0 m σ H)/\∀i m σ H,W i m σ H->
   ((Ij K a).stop i H/\D.nx σ H)\/((Ij K a).go i H/\∃N:St->Hp->Prop,(∀c H',N c H'->∃h,h<m/\W (i+1) h c H')/\∀x H',(Ij K a).yld i H x H'->g x σ H' λd H2=>tb {D with nx:=N,ct:=N,bk:=D.nx} d H2):=by
 refine⟨λi m σ H=>m=xs.length-i/\i<=xs.length/\b i σ H,⟨xs.length,Qs,bV _,h0⟩,?_⟩;rintro i m σ H⟨rfl,hi,p⟩;have q:=l i σ H hi p;by_cases f:i<xs.length
 ·refine .inr ⟨⟨xs,xs[i],q,by simp[f]⟩,b (i+1),λc H' k=>⟨xs.length-(i+1),Qo,rfl,f,k⟩,λx H' y=>?_⟩;obtain⟨e,y⟩:=y;subst e;exact j i x σ _ (y xs q) p
 ·have e:i=xs.length:=Qo;subst e;exact .inl ⟨⟨xs,q,ao _⟩,hd σ H p⟩
theorem nZ{lo:Int}{n:Nat}{g:TG}{tb:TS}{D:mB}{σ:St}{H:Hp}(b:Nat->St->Hp->Prop)(h0:b 0 σ H)
  (h:∀i σ H,i<n->b i σ H->g (.int (lo+i)) σ H λd H2=>tb {D with nx:=b (i+1),ct:=b (i+1),bk:=D.nx} d H2)(hd:∀σ H,b n σ H->D.nx σ H):
  ∃W:Nat->Nat->St->Hp->Prop,(∃m,W 0 m σ H)/\∀i m σ H,W i m σ H->
   ((Id lo n).stop i H/\D.nx σ H)\/((Id lo n).go i H/\∃N:St->Hp->Prop,(∀a H',N a H'->∃f,f<m/\W (i+1) f a H')/\∀x H',(Id lo n).yld i H x H'->g x σ H' λd H2=>tb {D with nx:=N,ct:=N,bk:=D.nx} d H2):=by
 refine⟨λi m σ H=>m=n-i/\i<=n/\b i σ H,⟨n,Qs,bV _,h0⟩,?_⟩;rintro i m σ H⟨rfl,hi,p⟩;by_cases c:i<n
 ·refine .inr ⟨c,b (i+1),λa H' j=>⟨n-(i+1),Qo,rfl,c,j⟩,λx H' y=>?_⟩;obtain⟨e,y⟩:=y;subst e y;exact h i σ _ c p
 ·have e:i=n:=Qo;subst e;exact .inl ⟨ao _,hd σ H p⟩
abbrev R2:=V->V->Hp->VK->Prop
def ml(X:Cx)(f:Value->Value->Sem Value)(r:R2):Prop:=
 ∀(pins:List (Addr×Obj))(s:Shared)(σ:St)(H:Hp)(x y:V)(v u:Value)(Q:VK),Inv X pins σ H s->dc x v->dc y u->r x y H Q->
  wpAny (model X.prog X.w) X.A (f v u) (EP X pins σ Q) X.xe s
def K7(X:Cx)(f:Value->Sem Value)(r:V->Hp->VK->Prop):Prop:=
 ∀(pins:List (Addr×Obj))(s:Shared)(σ:St)(H:Hp)(x:V)(v:Value)(Q:VK),Inv X pins σ H s->dc x v->r x H Q->
  wpAny (model X.prog X.w) X.A (f v) (EP X pins σ Q) X.xe s
def iM(X:Cx)(f:Value)(r:List V->Hp->VK->Prop):Prop:=
 ∀(pins:List (Addr×Obj))(s:Shared)(σ:St)(H:Hp)(xs:List V)(us:List Value)(Q:VK),Inv X pins σ H s->cS xs us->r xs H Q->
  wpAny (model X.prog X.w) X.A (call f us) (EP X pins σ Q) X.xe s
def Kc(r:R2)(ta tb:TE):TE:=λσ H Q=>ta σ H λx H1=>tb σ H1 λy H2=>r x y H2 Q
def Lo(r:V->Hp->VK->Prop)(ta:TE):TE:=λσ H Q=>ta σ H λx H1=>r x H1 Q
def rI(C:Int->Int->Prop)(g:Int->Int->V):R2:=λx y H Q=>∃i j,x=.int i/\y=.int j/\C i j/\Q (g i j) H
def GM(g:Int->Int->V):R2:=λx y H Q=>∃i j,x=.int i/\y=.int j/\Q (g i j) H
def rU(g:Int->V):V->Hp->VK->Prop:=λx H Q=>∃i,x=.int i/\Q (g i) H
section
variable{X:Cx}{a b c:Expr}{ta tb tc:TE}{pos:Pos}
theorem HV(n:PE X a ta)(l:PE X b tb){pins:List (Addr×Obj)}{s:Shared}{σ:St}{H:Hp}{R:V->V->Hp->Prop}(I:Inv X pins σ H s)
  (h:ta σ H λx H1=>tb σ H1 λy H2=>R x y H2){Q:Value->Shared->Prop}{f:Value->Value->Sem Value}
  (o:∀v u e x y H2,Inv X pins σ H2 e->dc x v->dc y u->R x y H2->wpAny (model X.prog X.w) X.A (f v u) Q X.xe e):
  wpAny (model X.prog X.w) X.A (eval a X.env) (λv c=>wpAny (model X.prog X.w) X.A (eval b X.env) (λu d=>wpAny (model X.prog X.w) X.A (f v u) Q X.xe d) X.xe c) X.xe s:=by
 refine dL (n pins s σ H _ I h) λv s1⟨x,H1,g,j,i⟩=>?_;refine dL (l pins s1 σ H1 _ g i) λu e⟨y,H2,k,m,p⟩=>?_;exact o v u e x y H2 k j m p
theorem aF{c:Operator}{r:R2}(k:ml X (binaryOp c) r)(i:PE X a ta)(f:PE X b tb):PE X (.BinOp a c b pos) (Kc r ta tb):=by
 intro pins s σ H Q I h;exact wpAny_BinOp (HV i f I h λv u j x y H2 e g d q=>k pins j σ H2 x y v u Q e g d q)
theorem kM{b:UnaryOp}{r:V->Hp->VK->Prop}(g:K7 X (unaryOp b) r)(f:PE X a ta):PE X (.UnaryOp b a pos) (Lo r ta):=by
 intro pins s σ H Q I h;exact UnaryOp_ (dL (f pins s σ H _ I h) λv s1⟨x,H1,c,e,d⟩=>g pins s1 σ H1 x v Q c e d)
theorem IZ{f:Value->Value->Sem Value}{C:Int->Int->Prop}{g:Int->Int->Int}
  (a:∀(i j:Int)(t u:Tok)(s:Shared)(Q:Value->Shared->Prop)(E:Value->Shared->Prop),C i j->Q (.int (g i j) s.toks) {s with toks:=s.toks+1}->wpAny (model X.prog X.w) X.A (f (.int i t) (.int j u)) Q E s):
  ml X f (rI C λi j=>.int (g i j)):=by
 intro pins s σ H x y v u Q I d b h;obtain⟨i,j,rfl,rfl,c,q⟩:=h;obtain⟨t,rfl⟩:=d;obtain⟨t',rfl⟩:=b;exact a i j t t' s _ _ c ⟨.int (g i j),H,I.tok _,⟨_,rfl⟩,q⟩
theorem IY{f:Value->Value->Sem Value}{g:Int->Int->Int}
  (a:∀(i j:Int)(t u:Tok)(s:Shared)(Q:Value->Shared->Prop)(E:Value->Shared->Prop),Q (.int (g i j) s.toks) {s with toks:=s.toks+1}->wpAny (model X.prog X.w) X.A (f (.int i t) (.int j u)) Q E s):
  ml X f (GM λi j=>.int (g i j)):=by
 intro pins s σ H x y v u Q I c b h;obtain⟨i,j,rfl,rfl,q⟩:=h;obtain⟨t,rfl⟩:=c;obtain⟨t',rfl⟩:=b;exact a i j t t' s _ _ ⟨.int (g i j),H,I.tok _,⟨_,rfl⟩,q⟩
theorem GW{f:Value->Value->Sem Value}{g:Int->Int->Bool}
  (a:∀(i j:Int)(t u:Tok)(s:Shared)(Q:Value->Shared->Prop)(E:Value->Shared->Prop),Q (.bool (g i j)) s->wpAny (model X.prog X.w) X.A (f (.int i t) (.int j u)) Q E s):
  ml X f (GM λi j=>.bl (g i j)):=by
 intro pins s σ H x y v u Q I c b h;obtain⟨i,j,rfl,rfl,q⟩:=h;obtain⟨t,rfl⟩:=c;obtain⟨t',rfl⟩:=b;exact a i j t t' s _ _ ⟨.bl (g i j),H,I,rfl,q⟩
def Li(i j:Int):Prop:=0<j/\j<1073741824
def Lh(i j:Int):Prop:=0<=j/\j<=1000000/\i.natAbs<2^64
def Ie(i j:Int):Prop:=(-(2^64)<i/\i<2^64)\/(-(2^64)<j/\j<2^64)
theorem Ie.ok{i j:Int}(h:Ie i j):IntMulOk i j:=by
 rcases h with⟨h1,h2⟩|⟨h1,h2⟩
 ·exact .of_left (intBits_le_64 h1 h2)
 ·exact .of_right (intBits_le_64 h1 h2)
theorem bK:ml X (binaryOp .Add) (GM λi j=>.int (i+j)):=IY λ_ _ _ _ _ _ _ q=>add_int q
theorem gX:ml X (binaryOp .Sub) (GM λi j=>.int (i-j)):=IY λ_ _ _ _ _ _ _ q=>sub_int q
theorem mw:ml X (binaryOp .Mult) (rI Ie λi j=>.int (i*j)):=IZ λ_ _ _ _ _ _ _ a q=>mul_int q a.ok
theorem fP:ml X (binaryOp .FloorDiv) (rI Li λi j=>.int (i/j)):=IZ λi j _ _ _ _ _ a q=>by
 have h1:(0:Int)<j:=a.1;have h2:j<1073741824:=a.2;exact floordiv_int Qo (by rw[yQ i Qo];exact q) (.inl (DX Qo))
theorem dv:ml X (binaryOp .Mod) (rI (λ_ j=>0<j) λi j=>.int (i%j)):=IZ λi j _ _ _ _ _ a q=>by
 have h1:(0:Int)<j:=a;exact mod_int' Qo (by rw[Int.fmod_eq_emod_of_nonneg i Qo];exact q)
theorem sS:ml X (binaryOp .Pow) (rI Lh λi j=>.int (i^j.toNat)):=IZ λ_ _ _ _ _ _ _ a q=>pow_int_small a.1 a.2.1 a.2.2 q
theorem Ln{f:Value->Sem Value}{g:Int->Int}
  (a:∀(i:Int)(t:Tok)(s:Shared)(Q:Value->Shared->Prop)(E:Value->Shared->Prop),Q (.int (g i) s.toks) {s with toks:=s.toks+1}->wpAny (model X.prog X.w) X.A (f (.int i t)) Q E s):
  K7 X f (rU λi=>.int (g i)):=by
 intro pins s σ H x v Q I b h;obtain⟨i,rfl,q⟩:=h;obtain⟨t,rfl⟩:=b;exact a i t s _ _ ⟨.int (g i),H,I.tok _,⟨_,rfl⟩,q⟩
theorem iN:K7 X (unaryOp .USub) (rU λi=>.int (-i)):=Ln λ_ _ _ _ _ q=>neg_int q
end
def IK:V->V->Bool
 |.non,.non=>true|.non,.int _=>true|.int _,.non=>true|.non,.bl _=>true|.bl _,.non=>true|.non,.str _=>true|.str _,.non=>true
 |.int _,.int _=>true|.bl _,.bl _=>true|.str _,.str _=>true|.byt _,.byt _=>true
 |.int _,.str _=>true|.str _,.int _=>true|.bl _,.str _=>true|.str _,.bl _=>true
 |_,_=>false
def Lx:R2:=λx y H Q=>IK x y=true/\Q (.bl (decide (x=y))) H
def Lw:R2:=λx y H Q=>IK x y=true/\Q (.bl (!decide (x=y))) H
theorem Ai{i j:Int}:decide (V.int i=V.int j)=(i==j):=by
 rw[be];simp
theorem DA{i j:Bool}:decide (V.bl i=V.bl j)=(i==j):=by
 rw[be];simp
theorem jK{i j:Str}:decide (V.str i=V.str j)=(i==j):=by
 rw[be];simp
theorem Aj{i j:Array UInt8}:decide (V.byt i=V.byt j)=(i.toList==j.toList):=by
 rw[be];cases i;cases j;simp
section
variable{X:Cx}{a b c:Expr}{ta tb tc:TE}{pos:Pos}
theorem dq{pins:List (Addr×Obj)}{σ:St}{H:Hp}{s:Shared}{Q:VK}{k a:Bool}(I:Inv X pins σ H s)(q:Q (.bl k) H)(e:k=a):EP X pins σ Q (.bool a) s:=by
 subst e;exact⟨.bl k,H,I,rfl,q⟩
theorem b4:ml X (compareOp .Eq) Lx:=by
 intro pins s σ H x y v u Q I c a h;obtain⟨b,q⟩:=h;cases x with
 |non=>
  cases c;cases y with
  |non=>cases a;exact PySem.EqNone.eq_none_none (dq I q Qs)
  |bl j=>cases a;exact PySem.EqNone.eq_none_bool (dq I q Qs)
  |int j=>obtain⟨t',rfl⟩:=a;exact PySem.EqNone.eq_none_int (dq I q Qs)
  |str j=>obtain⟨t',rfl⟩:=a;exact PySem.EqNone.eq_none_str (dq I q Qs)
  |_=>exact absurd (show false=true from b) ba
 |bl i=>
  cases c;cases y with
  |non=>cases a;exact PySem.EqNone.eq_bool_none (dq I q Qs)
  |bl j=>cases a;exact eq_bool (dq I q DA)
  |str j=>obtain⟨t',rfl⟩:=a;exact PySem.EqMixed.eq_bool_str (dq I q Qs)
  |_=>exact absurd (show false=true from b) ba
 |int i=>
  obtain⟨t,rfl⟩:=c;cases y with
  |non=>cases a;exact PySem.EqNone.eq_int_none (dq I q Qs)
  |int j=>obtain⟨t',rfl⟩:=a;exact eq_int (dq I q Ai)
  |str j=>obtain⟨t',rfl⟩:=a;exact PySem.EqMixed.eq_int_str (dq I q Qs)
  |_=>exact absurd (show false=true from b) ba
 |str i=>
  obtain⟨t,rfl⟩:=c;cases y with
  |non=>cases a;exact PySem.EqNone.eq_str_none (dq I q Qs)
  |bl j=>cases a;exact PySem.EqMixed.eq_str_bool (dq I q Qs)
  |int j=>obtain⟨t',rfl⟩:=a;exact PySem.EqMixed.eq_str_int (dq I q Qs)
  |str j=>obtain⟨t',rfl⟩:=a;exact eq_str (dq I q jK)
  |_=>exact absurd (show false=true from b) ba
 |byt i=>
  obtain⟨t,rfl⟩:=c;cases y with
  |byt j=>obtain⟨t',rfl⟩:=a;exact PySem.W.eq_bytes (dq I q Aj)
  |_=>exact absurd (show false=true from b) ba
 |_=>cases y<;>exact absurd (show false=true from b) ba
theorem fc:ml X (compareOp .NotEq) Lw:=by
 intro pins s σ H x y v u Q I c a h;obtain⟨b,q⟩:=h;cases x with
 |non=>
  cases c;cases y with
  |non=>cases a;exact PySem.EqNone.ne_none_none (dq I q Qs)
  |bl j=>cases a;exact PySem.EqNone.ne_none_bool (dq I q Qs)
  |int j=>obtain⟨t',rfl⟩:=a;exact PySem.EqNone.ne_none_int (dq I q Qs)
  |str j=>obtain⟨t',rfl⟩:=a;exact PySem.EqNone.ne_none_str (dq I q Qs)
  |_=>exact absurd (show false=true from b) ba
 |bl i=>
  cases c;cases y with
  |non=>cases a;exact PySem.EqNone.ne_bool_none (dq I q Qs)
  |bl j=>cases a;exact ne_bool (dq I q (bL not DA))
  |str j=>obtain⟨t',rfl⟩:=a;exact PySem.EqMixed.ne_bool_str (dq I q Qs)
  |_=>exact absurd (show false=true from b) ba
 |int i=>
  obtain⟨t,rfl⟩:=c;cases y with
  |non=>cases a;exact PySem.EqNone.ne_int_none (dq I q Qs)
  |int j=>obtain⟨t',rfl⟩:=a;exact ne_int (dq I q (bL not Ai))
  |str j=>obtain⟨t',rfl⟩:=a;exact PySem.EqMixed.ne_int_str (dq I q Qs)
  |_=>exact absurd (show false=true from b) ba
 |str i=>
  obtain⟨t,rfl⟩:=c;cases y with
  |non=>cases a;exact PySem.EqNone.ne_str_none (dq I q Qs)
  |bl j=>cases a;exact PySem.EqMixed.ne_str_bool (dq I q Qs)
  |int j=>obtain⟨t',rfl⟩:=a;exact PySem.EqMixed.ne_str_int (dq I q Qs)
  |str j=>obtain⟨t',rfl⟩:=a;exact ne_str (dq I q (bL not jK))
  |_=>exact absurd (show false=true from b) ba
 |byt i=>
  obtain⟨t,rfl⟩:=c;cases y with
  |byt j=>obtain⟨t',rfl⟩:=a;exact PySem.W.ne_bytes (dq I q (bL not Aj))
  |_=>exact absurd (show false=true from b) ba
 |_=>cases y<;>exact absurd (show false=true from b) ba
theorem jn:ml X (compareOp .Lt) (GM λi j=>.bl (decide (i<j))):=GW λ_ _ _ _ _ _ _ q=>lt_int q
theorem rg:ml X (compareOp .LtE) (GM λi j=>.bl (decide (i<=j))):=GW λ_ _ _ _ _ _ _ q=>le_int q
theorem mY:ml X (compareOp .Gt) (GM λi j=>.bl (decide (j<i))):=GW λ_ _ _ _ _ _ _ q=>gt_int q
theorem j3:ml X (compareOp .In) (λx y H Q=>∃i j,x=.str i/\y=.str j/\Q (.bl (!(Builtin.Str.occurrences j i 0 j.length 1).isEmpty)) H):=by
 intro pins s σ H x y v u Q I b a h;obtain⟨i,j,rfl,rfl,q⟩:=h;obtain⟨t,rfl⟩:=b;obtain⟨t',rfl⟩:=a;exact in_str (dq I q rfl)
theorem aS(b:Expr){a:CmpOp}(h:a≠ .In:=by decide)(h2:a≠ .NotIn:=by decide):behindInMarks a b=false:=by
 have c:(a==CmpOp.In)=false:=by cases a<;>first|rfl|exact absurd rfl h
 have d:(a==CmpOp.NotIn)=false:=by cases a<;>first|rfl|exact absurd rfl h2
 cases b<;>simp[behindInMarks,c,d]
theorem kr{c:CmpOp}{r:R2}(k:ml X (compareOp c) r)(i:PE X a ta)(f:PE X b tb)(l:behindInMarks c b=false):PE X (.Compare a [c] [b] pos) (Kc r ta tb):=by
 intro pins s σ H Q I h;exact wpAny_Compare1 (HV i f I h λv u j x y H2 e g d q=>k pins j σ H2 x y v u Q e g d q) l
def FX(t:TE):TT:=λσ H Q=>t σ H λx H'=>∃k,x=.bl k/\Q k H'
theorem aI{d:CmpOp}{r:R2}(t:ml X (compareOp d) r)(p:PE X a ta)(n:PE X b tb)(w:behindInMarks d b=false):PT X (.Compare a [d] [b] pos) (FX (Kc r ta tb)):=by
 intro pins s σ H Q I h;refine D1 (dL (p pins s σ H _ I h) λv s1⟨x,H1,f,l,g⟩=>dL (n pins s1 σ H1 _ f g) λu q⟨y,H2,m,o,B⟩=>
  dL (t pins q σ H2 x y v u _ m l o B) λc D⟨z,i,A,j,k,e,C⟩=>?_) w
 subst e;cases j;exact dr ⟨i,A,C⟩
def BJ(r b:R2)(ta tb tc:TE):TE:=λσ H Q=>ta σ H λx H1=>tb σ H1 λy H2=>r x y H2 λz a=>∃k,z=.bl k/\
 (if k=true then tc σ a λd c=>b y d c Q else Q (.bl false) a)
theorem uX{i f:CmpOp}{r n:R2}(N:ml X (compareOp i) r)(g:ml X (compareOp f) n)(L:PE X a ta)(G:PE X b tb)(E:PE X c tc)
  (O:lastMarks [i,f] [b,c]=false:=by with_unfolding_all rfl):PE X (.Compare a [i,f] [b,c] pos) (BJ r n ta tb tc):=by
 intro pins s σ H Q I h;refine Compare_chain (dL (L pins s σ H _ I h) λv s1⟨x,H1,p,C,q⟩=>chain_link (dL (G pins s1 σ H1 _ p q) λu M⟨y,H2,D,l,R⟩=>
  dL (N pins M σ H2 x y v u _ D C l R) λd P⟨z,j,m,A,k,e,o⟩=>?_)) O
 subst e;cases A;refine dr ?_;cases k with
 |false=>exact ite_ff ⟨.bl false,j,m,rfl,o⟩
 |true=>exact ite_tt (chain_last (dL (E pins P σ j _ m o) λS t⟨J,w,B,F,K⟩=>g pins t σ w y J u S Q B l F K))
theorem Cm{i f:CmpOp}{r n:R2}(T:ml X (compareOp i) r)(g:ml X (compareOp f) n)(R:PE X a ta)(L:PE X b tb)(G:PE X c tc)
  (U:lastMarks [i,f] [b,c]=false:=by with_unfolding_all rfl):PT X (.Compare a [i,f] [b,c] pos) (FX (BJ r n ta tb tc)):=by
 intro pins s σ H Q I h;refine isTrue_chain (dL (R pins s σ H _ I h) λv s1⟨x,H1,p,E,q⟩=>test_link (dL (L pins s1 σ H1 _ p q) λu S⟨y,H2,F,l,W⟩=>
  dL (T pins S σ H2 x y v u _ F E l W) λd V⟨z,j,m,A,k,e,o⟩=>?_)) U
 subst e;cases A;refine dr ?_;cases k with
 |false=>
  obtain⟨k',N,M⟩:=o;cases N;exact ite_ff ⟨j,m,M⟩
 |true=>
  refine ite_tt (test_last (dL (G pins V σ j _ m o) λw' t⟨O,w,C,J,P⟩=>dL (g pins t σ w y O u w' _ C l J P) λd' s5⟨z2,D,K,B,k2,Y,Z⟩=>?_));subst Y;cases B;exact dr ⟨D,K,Z⟩
theorem nR:(sizeLine:Nat)<2^63:=by rw[sizeLine_eq];decide
theorem aM:ml X (binaryOp .Add) (λx y H Q=>∃i j,x=.str i/\y=.str j/\i.length+j.length<=sizeLine/\Q (.str (i++j)) H):=by
 intro pins s σ H x y v u Q I c a h;obtain⟨i,j,rfl,rfl,b,q⟩:=h;obtain⟨t,rfl⟩:=c;obtain⟨t',rfl⟩:=a;exact add_str (λt' tk=>⟨.str (i++j),H,I.tok _,⟨_,rfl⟩,q⟩) b
theorem kG{x:V}{us:List Value}(r:cS [x] us):∃u,us=[u]/\dc x u:=by
 cases r with
 |cons a b=>cases b;exact⟨_,rfl,a⟩
theorem tW{x y:V}{us:List Value}(r:cS [x,y] us):∃u a,us=[u,a]/\dc x u/\dc y a:=by
 cases r with
 |cons b c=>
  cases c with
  |cons d e=>cases e;exact⟨_,_,rfl,b,d⟩
theorem DH:iM X (.builtin "abs") (λxs H Q=>∃i,xs=[.int i]/\Q (.int (if i<0 then-i else i)) H):=by
 intro pins s σ H xs us Q I r h;obtain⟨i,rfl,q⟩:=h;obtain⟨u,rfl,t,rfl⟩:=kG r;exact call_abs_int λu tk=>⟨.int (if i<0 then-i else i),H,I.tok _,⟨_,rfl⟩,q⟩
theorem n_(b:X.calm=true):iM X (.builtin "max") (λxs H Q=>∃i j,xs=[.int i,.int j]/\Q (.int (if j>i then j else i)) H):=by
 intro pins s σ H xs us Q I r h;obtain⟨i,j,rfl,q⟩:=h;obtain⟨u,c,rfl,⟨t,rfl⟩,⟨t',rfl⟩⟩:=tW r;refine max_two_ints (I.ok.hd b) λh' tk k=>⟨_,H,I.kept k,?_,q⟩;by_cases a:j>i
 ·rw[aO a,aO a];exact⟨_,rfl⟩
 ·rw[aG a,aG a];exact⟨_,rfl⟩
theorem Ba(b:X.calm=true):iM X (.builtin "min") (λxs H Q=>∃i j,xs=[.int i,.int j]/\Q (.int (if j<i then j else i)) H):=by
 intro pins s σ H xs us Q I r h;obtain⟨i,j,rfl,q⟩:=h;obtain⟨u,c,rfl,⟨t,rfl⟩,⟨t',rfl⟩⟩:=tW r;refine min_two_ints (I.ok.hd b) λh' tk k=>⟨_,H,I.kept k,?_,q⟩;by_cases a:j<i
 ·rw[aO a,aO a];exact⟨_,rfl⟩
 ·rw[aG a,aG a];exact⟨_,rfl⟩
theorem oa:iM X (.type "int") (λxs H Q=>(∃i,xs=[.int i]/\Q (.int i) H)\/∃k,xs=[.bl k]/\Q (.int (if k then 1 else 0)) H):=by
 intro pins s σ H xs us Q I r h;rcases h with⟨i,rfl,q⟩|⟨k,rfl,q⟩
 ·obtain⟨u,rfl,t,rfl⟩:=kG r;exact call_int_int ⟨.int i,H,I,⟨_,rfl⟩,q⟩
 ·obtain⟨u,rfl,a⟩:=kG r;cases a;exact call_int_bool ⟨.int (if k then 1 else 0),H,I.tok _,⟨_,rfl⟩,q⟩
theorem eJ:iM X (.type "str") (λxs H Q=>∃i,xs=[.int i]/\i.natAbs.log2<1920/\Q (.str (toString i)) H):=by
 intro pins s σ H xs us Q I r h;obtain⟨i,rfl,a,q⟩:=h;obtain⟨u,rfl,t,rfl⟩:=kG r;exact PySem.P.str_of_int a ⟨.str _,H,I.tok _,⟨_,rfl⟩,q⟩
end
structure ObjM(h:Heap)(x dx C:Addr)(mA:Str->Option Value):Prop where
 obj:h.get? x=some (fI C dx)
 ns:h.Ns1 dx mA
 ne:dx≠x
theorem A0{h:Heap}{dx:Addr}{mA:Str->Option Value}(n:h.Ns1 dx mA):∃c,h.get? dx=some c/\∀name,PySem.W.lookIn name c=some (mA name):=by
 obtain⟨o,es,k,g,hd,d,_,i⟩:=n;refine⟨o,g,λname=>?_⟩;have e:=i name;unfold nsFind findBy at e;rw[<-Array.find?_toList]at e;unfold PySem.W.lookIn;rw[hd];dsimp only;split
 ·rename_i y q;rw[q]at e;exact bL some e
 ·rename_i q;rw[q]at e;have a:es.toList.any (·.refKey)=false:=by
   rw[List.any_eq_false];intro y f;obtain⟨z,t,b⟩:=d y (Array.mem_toList_iff.mp f);simp[DictEntry.refKey,b]
  have j:¬es.toList.any (·.refKey)=true:=by rw[a];exact ba
  rw[aG j];exact bL some e
theorem ObjM.look{h:Heap}{x dx C:Addr}{mA:Str->Option Value}(I:ObjM h x dx C mA):∃a,PySem.W.InstAt h x (fI C dx) C (some a)/\∀name,PySem.W.lookIn name a=some (mA name):=
 let⟨a,c,b⟩:=A0 I.ns
 ⟨a,⟨I.obj,rfl,rfl,c⟩,b⟩
section
variable{prog:Program}{w:World}{A:Around}{E:Value->Shared->Prop}{s:Shared}{K:ah}{x dx C f:Addr}{mA:Str->Option Value}{name:Str}{v:Value}
theorem Fw{a:Bool}{Q:Value->Shared->Prop}(X:K.In s.heap)(I:ObjM s.heap x dx C mA)(g:lX K C name=true)(c:qK K C=true)
  (f:cW K (.ref C) name=some none)(d:mA name=some v)(b:PySem.W.handedIn v=true)(h:Q v {s with toks:=s.toks+1}):
  wpAny (model prog w) A (getAttr (.ref x) name a) Q E s:=by
 obtain⟨i,J,e⟩:=I.look;exact PySem.W.get_value X J (oK g).1 (PySem.W.findObj_own c f rfl (by rw[e,d])) b h
theorem Dq{pl:Sem Bool}{Q:Value×List Value->Shared->Prop}(X:K.In s.heap)(I:ObjM s.heap x dx C mA)(a:lX K C name=true)
  (g:cW K (.ref C) name=some (some (.ref f)))(d:qJ K (.ref f)=true)(b:mA name=none)(h:Q (.ref f,[.ref x]) s):
  wpAny (model prog w) A (getMethod (.ref x) name pl) Q E s:=by
 obtain⟨c,J,e⟩:=I.look;exact PySem.W.method_fn X J (oK a).1 (oK a).2 g (beq_iff_eq.mp d) (by show(PySem.W.lookIn name c).map (·.isSome)=some false;rw[e,b];rfl) h
theorem Er{ns:List Str}{Q:Unit->Shared->Prop}(X:K.In s.heap)(I:ObjM s.heap x dx C mA)
  (k:cW K (.ref C) "__setattr__"=some (some (.builtin "object.__setattr__")))(q:PySem.W.plainOver K C=true)(t:PySem.W.takerIn K C name=some none)(j:qK K C=true)
  (hw:PySem.Within mA ns)(l:ns.length<=sizeLine)
  (h:∀h',ObjM h' x dx C (λy=>if y=name then some v else mA y)->Heap.SameBut dx s.heap h'->Q () {s with heap:=h',toks:=s.toks+2}):
  wpAny (model prog w) A (setAttr (.ref x) name v) Q E s:=by
 obtain⟨B,J,D⟩:=I.look;refine PySem.W.set_plain X J k (PySem.W.osa_open (s:={s with toks:=s.toks+1}) (r:=none) X J q t λb=>?_);obtain⟨u,m,g⟩:=PySem.W.any_some j;have o:s.heap.get? x=some ⟨.ref C,some dx,.plain,#[]⟩:=I.obj;refine az (bd (az (az (wpAny_loadPart o (az (PySem.W.Looks.here (s:={s with toks:=s.toks+1}) (PySem.W.looks_clsIn X m) ?_))))));rw[g];refine bd (a:=some dx) (az (bd (az ?_)));refine wpAny_nsSet1 (s:={s with toks:=s.toks+1}) I.ns λh' d c=>?_;obtain⟨z,p,n,i,e,f⟩:=d.count (PySem.Within.cons name v hw);refine az (wpAny_lookBehind i (by rw[e];exact pastItsLine_dict (af f (by rw[aK];omega))) ?_);exact bd (h _ ⟨(c.2 _ (Ne.symm I.ne)).trans I.obj,d,I.ne⟩ c)
theorem C_{R:Result->Shared->Prop}{vs:List Value}{kw:List (Str×Value)}(X:K.In s.heap)(b:mI K C=true)
  (hi:cW K (.ref C) "__init__"=some (some (.ref f)))(a:PySem.W.typeIn K (.ref f)=some (.type "function"))
  (h:codeAny (model prog w) (A.under (.builtin "type.__call__" ⟨.ref C::vs,kw⟩)) (.call (.ref f) ⟨.ref (s.heap.objs.size+1)::vs,kw⟩) (PySem.W.InitBack (s.heap.objs.size+1) R)
   {s with heap:=(s.heap.push dO).push (fI C s.heap.objs.size)}):
  codeAny (model prog w) A (.call (.ref C) ⟨vs,kw⟩) R s:=by
 obtain⟨c,g,d,t,os⟩:=s;exact PySem.W.make_core (PySem.W.makes_of X b) (PySem.W.looks_findIn X hi) (λself=>PySem.W.bind_fn X self a) (.inl rfl) h
end
def jY(f:Str)(v:V):List (Str×V)->List (Str×V)
 |[]=>[(f,v)]
 |(g,x)::r=>if g=f then(g,v)::r else(g,x)::jY f v r
theorem ot(f g:Str)(v:V):∀fs:List (Str×V),(jY f v fs).lookup g=if g=f then some v else fs.lookup g
 |[]=>by
  show List.lookup g [(f,v)]=_;by_cases h:g=f
  ·have a:(g==f)=true:=beq_iff_eq.mpr h;simp only[List.lookup,a,aO h]
  ·have a:(g==f)=false:=beq_eq_false_iff_ne.mpr h;simp only[List.lookup,a,aG h]
 |(k,x)::r=>by
  have c:=ot f g v r;rw[show jY f v ((k,x)::r)=(if k=f then(k,v)::r else(k,x)::jY f v r)from rfl];by_cases b:k=f
  ·rw[aO b];by_cases h:g=k
   ·have a:(g==k)=true:=beq_iff_eq.mpr h;simp only[List.lookup,a,aO (h.trans b)]
   ·have a:(g==k)=false:=beq_eq_false_iff_ne.mpr h;simp only[List.lookup,a,aG (λe:g=f=>h (e.trans b.symm))]
  ·rw[aG b];by_cases h:g=k
   ·have a:(g==k)=true:=beq_iff_eq.mpr h;simp only[List.lookup,a,aG (λe:g=f=>b (h.symm.trans e))]
   ·have a:(g==k)=false:=beq_eq_false_iff_ne.mpr h;simp only[List.lookup,a];exact c
theorem nV(f:Str)(v:V):∀fs:List (Str×V),f∈(jY f v fs).map (·.1)/\∀g,g∈fs.map (·.1)->g∈(jY f v fs).map (·.1)
 |[]=>⟨by simp[jY],λg h=>by simp at h⟩
 |(k,x)::r=>by
  obtain⟨c,b⟩:=nV f v r;rw[show jY f v ((k,x)::r)=(if k=f then(k,v)::r else(k,x)::jY f v r)from rfl];by_cases a:k=f
  ·rw[aO a];subst a;exact⟨Qs,λg h=>by simpa using h⟩
  ·rw[aG a];refine⟨?_,λg h=>?_⟩
   ·rw[b7];exact aB _ c
   ·rw[b7]at h⊢;rcases aq.mp h with e|e
    ·exact aq.mpr (.inl e)
    ·exact aB _ (b g e)
theorem ou(f:Str)(v:V):∀fs:List (Str×V),(jY f v fs).length<=fs.length+1
 |[]=>by simp[jY]
 |(k,x)::r=>by
  have b:=ou f v r;rw[show jY f v ((k,x)::r)=(if k=f then(k,v)::r else(k,x)::jY f v r)from rfl];by_cases a:k=f
  ·rw[aO a,aK,aK];omega
  ·rw[aG a,aK,aK];omega
theorem RelO.some_of{v:V}{o:Option Value}(r:RelO (some v) o):∃u,o=some u/\dc v u:=by
 cases o with
 |none=>exact(show False from r).elim
 |some u=>exact⟨u,rfl,r⟩
theorem RelO.none_of{o:Option Value}(r:RelO none o):o=none:=by
 cases o with
 |none=>rfl
 |some u=>exact(show False from r).elim
theorem A6{v:V}{u:Value}(r:dc v u):PySem.W.handedIn u=true:=by
 cases v with
 |non=>cases(show u=Value.none from r);rfl
 |bl b=>cases(show u=Value.bool b from r);rfl
 |int i=>obtain⟨t,e⟩:=(show∃t,u=Value.int i t from r);cases e;rfl
 |str x=>obtain⟨t,e⟩:=(show∃t,u=Value.str x t from r);cases e;rfl
 |byt b=>obtain⟨t,e⟩:=(show∃t,u=Value.bytes b t from r);cases e;rfl
 |flt b=>obtain⟨t,e⟩:=(show∃t,u=Value.float b t from r);cases e;rfl
 |ref a=>cases(show u=Value.ref a from r);rfl
 |ty n=>cases(show u=Value.type n from r);rfl
section
variable{P:Program}{w:World}{H H':Hp}{h h':Heap}{a C dx:Addr}{fs fs':List (Str×V)}
theorem oR(hok:lW P w H h)(e:H a=some (.ins C dx fs)):∃mA,ObjM h a dx C mA/\(∀f,RelO (fs.lookup f) (mA f))/\PySem.Within mA (fs.map (·.1))/\fs.length<=1000/\H dx=some (.own a):=by
 obtain⟨d,z,ne,b,mA,n,r,q⟩:=(show gf P w H h a (.ins C dx fs)from hok a _ e);exact⟨mA,⟨b,n,ne⟩,r,q,z,d⟩
end
structure yM(K:ah)(C:Addr):Prop where
 pg:lX K C Str.empty=true
 hd:qK K C=true
 po:PySem.W.plainOver K C=true
 sa:cW K (.ref C) "__setattr__"=some (some (.builtin "object.__setattr__"))
theorem yM.get{K:ah}{C:Addr}(c:yM K C)(f:Str):lX K C f=true:=c.pg
def iU(K:ah)(C:Addr)(f:Str):Prop:=cW K (.ref C) f=some none
theorem iU.taker{K:ah}{C:Addr}{f:Str}(n:iU K C f):PySem.W.takerIn K C f=some none:=by
 unfold PySem.W.takerIn;rw[show cW K (.ref C) f=some none from n];rfl
structure Bg(K:ah)(C:Addr)(m:Str)(f:Addr):Prop where
 at_:cW K (.ref C) m=some (some (.ref f))
 fn:qJ K (.ref f)=true
 kp:de K (.ref f)=true
section
variable{X:Cx}{pins:List (Addr×Obj)}{σ:St}{H:Hp}{s:Shared}{a C dx:Addr}{fs:List (Str×V)}{f:Str}{v:V}{A:Around}{E:Value->Shared->Prop}
theorem qe{b:Bool}{Q:Value->Shared->Prop}(I:Inv X pins σ H s)(e:H a=some (.ins C dx fs))(c:yM X.K C)(n:iU X.K C f)(l:fs.lookup f=some v)
  (h:∀u s',Inv X pins σ H s'->dc v u->Q u s'):wpAny (model X.prog X.w) A (getAttr (.ref a) f b) Q E s:=by
 obtain⟨mA,O,r,_,_,_⟩:=oR I.hok e;obtain⟨u,g,d⟩:=RelO.some_of (v:=v) (o:=mA f) (by rw[<-l];exact r f);exact Fw I.kIn O (c.get f) c.hd n g (A6 d) (h u _ (I.tok _) d)
theorem qd{m:Str}{g:Addr}{pl:Sem Bool}{Q:Value×List Value->Shared->Prop}(I:Inv X pins σ H s)(e:H a=some (.ins C dx fs))(c:yM X.K C)(k:Bg X.K C m g)(l:fs.lookup m=none)
  (h:Q (.ref g,[.ref a]) s):wpAny (model X.prog X.w) A (getMethod (.ref a) m pl) Q E s:=by
 obtain⟨mA,O,r,_,_,_⟩:=oR I.hok e;have hn:mA m=none:=RelO.none_of (by rw[<-l];exact r m);exact Dq I.kIn O (c.get m) k.at_ k.fn hn h
theorem pE{y:V}{u:Value}{Q:Unit->Shared->Prop}(I:Inv X pins σ H s)(e:H a=some (.ins C dx fs))(c:yM X.K C)(n:iU X.K C f)(w:fs.length<1000)(k:dc y u)
  (h:∀s',Inv X pins σ (upd H a (.ins C dx (jY f y fs))) s'->Q () s'):wpAny (model X.prog X.w) A (setAttr (.ref a) f u) Q E s:=by
 obtain⟨mA,O,r,i,_,j⟩:=oR I.hok e;have l:(fs.map (·.1)).length<=sizeLine:=by rw[ay,sizeLine_eq];omega
 refine Er I.kIn O c.sa c.po n.taker c.hd i l λh' d v=>h _ ?_;have hd:∃o,h'.get? dx=some o:=let⟨o,_,_,t,_⟩:=d.ns;⟨o,t⟩;refine I.write (x:=a) (e:=dx) (by rw[e];exact True.intro) (.inr j) (λb q m z=>(v.2 b m).trans z) hd ?_;refine⟨by rw[b5 O.ne];exact j,?_,O.ne,d.obj,_,d.ns,λg=>?_,λg p=>?_⟩
 ·have:=ou f y fs;omega
 ·show RelO ((jY f y fs).lookup g) (if g=f then some u else mA g);rw[ot];by_cases q:g=f
  ·rw[aO q,aO q];exact k
  ·rw[aG q,aG q];exact r g
 ·by_cases q:g=f
  ·rw[q];exact(nV f y fs).1
  ·refine(nV f y fs).2 g (i g λz=>p ?_);show(if g=f then some u else mA g)=none;rw[aG q];exact z
theorem Inv.made(I:Inv X pins σ H s):Inv X pins σ (upd (upd H s.heap.objs.size (.own (s.heap.objs.size+1))) (s.heap.objs.size+1) (.ins C s.heap.objs.size []))
  {s with heap:=(s.heap.push dO).push (fI C s.heap.objs.size)}:=by
 have c:(s.heap.push dO).get? s.heap.objs.size=some dO:=bJ s.heap rfl;have f:((s.heap.push dO).push (fI C s.heap.objs.size)).get? (s.heap.objs.size+1)=some (fI C s.heap.objs.size):=by
  have:=bJ (s.heap.push dO) (o:=fI C s.heap.objs.size) rfl;rwa[dQ]at this
 have i:(s.heap.push dO).Ns s.heap.objs.size (λ_=>none):=⟨dO,#[],_,c,rfl,(λe g=>absurd g Qs),λ_=>rfl⟩;have d:=I.laid (a:=s.heap.objs.size) (o:=.own (s.heap.objs.size+1)) (h':=s.heap.push dO) (t':=s.toks) (λb u q=>aE _ q) (ao _) ⟨_,c⟩;refine d.laid (a:=s.heap.objs.size+1) (o:=.ins C s.heap.objs.size []) (t':=s.toks) (λb u q=>aE _ q) (gv (dQ _ _)) ?_;have ne:s.heap.objs.size≠s.heap.objs.size+1:=bF (f7 _);refine⟨by rw[b5 ne,ak],bV _,ne,f,λ_=>none,(Heap.Ns1.of_empty i).at λo q=>aE _ q,λ_=>True.intro,λy h=>absurd rfl h⟩
theorem FL{prog:Program}{w:World}{env:Env}{e:Expr}{f:Str}{pos:Pos}{s:Shared}{Q:Value->Shared->Prop}(b:attributeBase e f env (eval e env)=eval e env)
  (h:wpAny (model prog w) A (eval e env) (λo a=>wpAny (model prog w) A (getAttr o f true) Q E a) E s):wpAny (model prog w) A (eval (.Attribute e f pos) env) Q E s:=
 Attribute_any_ h (by rw[arm_eval_Attribute,b])
end
def Kx(K:ah)(ta:TE)(f:Str):TE:=λσ H Q=>ta σ H λx H1=>∃a C dx fs v,x=.ref a/\H1 a=some (.ins C dx fs)/\yM K C/\iU K C f/\fs.lookup f=some v/\Q v H1
def Kz(K:ah)(ta tv:TE)(f:Str):TS:=λD σ H=>tv σ H λy H1=>ta σ H1 λx H2=>∃a C dx fs,x=.ref a/\H2 a=some (.ins C dx fs)/\yM K C/\iU K C f/\fs.length<1000/\
 D.nx σ (upd H2 a (.ins C dx (jY f y fs)))
def JY(X:Cx)(b:Operator)(a:V->V->Hp->VK->Prop):Prop:=
 ∀(pins:List (Addr×Obj))(s:Shared)(σ:St)(H:Hp)(x y:V)(u v:Value)(Q:VK),Inv X pins σ H s->dc x u->dc y v->a x y H Q->wpAny (model X.prog X.w) X.A (inplaceOp b u v) (EP X pins σ Q) X.xe s
def Ez(K:ah)(ta tv:TE)(d:V->V->Hp->VK->Prop)(f:Str):TS:=λD σ H=>ta σ H λx H1=>∃a C dx fs v,x=.ref a/\H1 a=some (.ins C dx fs)/\yM K C/\iU K C f/\fs.lookup f=some v/\
 tv σ H1 λy H2=>d v y H2 λz c=>∃b fs',c a=some (.ins C b fs')/\fs'.length<1000/\D.nx σ (upd c a (.ins C b (jY f z fs')))
section
variable{X:Cx}{o e value:Expr}{f:Str}{pos pos' tpos:Pos}{ta tv:TE}
theorem sR(m:PE X e ta)(i:attributeBase e f X.env (eval e X.env)=eval e X.env):PE X (.Attribute e f pos) (Kx X.K ta f):=by
 intro pins s σ H Q I h;refine FL i (dL (m pins s σ H _ I h) λu s1⟨x,H1,b,k,a,C,dx,fs,v,ex,d,c,n,l,q⟩=>?_);subst ex;obtain rfl:u=Value.ref a:=k;exact qe b d c n l λo p g j=>⟨v,H1,g,j,q⟩
theorem Cp(m:PE X o ta)(e:PE X value tv)(g:swapsWith value (some (.Attribute o f pos')) pos.line X.env=pure false):PS X (.Assign [.Attribute o f pos'] value pos) (Kz X.K ta tv f):=by
 intro pins s σ H D I h;refine plainObj_wpAny_Assign_Attribute (dL (e pins s σ H _ I h) λu s1⟨y,H1,b,i,q⟩=>dL (m pins s1 σ H1 _ b q) λov v⟨x,H2,j,k,a,C,dx,fs,ex,d,c,n,l,t⟩=>?_) g;subst ex;obtain rfl:ov=Value.ref a:=k;exact pE j d c n l i λw p=>⟨σ,_,p,t⟩
theorem AE{g:Operator}{e:V->V->Hp->VK->Prop}(K:PE X o ta)(k:PE X value tv)(d:JY X g e):PS X (.AugAssign (.Attribute o f tpos) g value pos) (Ez X.K ta tv e f):=by
 intro pins s σ H D I h;refine wpAny_AugAssign_AttributeAny (dL (K pins s σ H _ I h) λov s1⟨x,H1,i,G,a,C,dx,fs,v,ex,j,c,n,l,q⟩=>?_);subst ex;obtain rfl:ov=Value.ref a:=G;refine qe i j c n l λu L A F=>dL (k pins L σ H1 _ A q) λB N⟨y,H2,M,w,O⟩=>dL (d pins N σ H2 v y u B _ M F w O) λS R⟨z,Q,t,p,m,fs',b,P,J⟩=>?_;exact pE t b c n P p λT E=>⟨σ,_,E,J⟩
def KI:V->V->Hp->VK->Prop:=λx y H Q=>∃i j,x=.int i/\y=.int j/\Q (.int (i+j)) H
theorem HJ:JY X .Add KI:=by
 rintro pins s σ H x y u v Q I a b⟨i,j,rfl,rfl,q⟩;obtain⟨t,rfl⟩:=(show∃t,u=Value.int i t from a);obtain⟨t',rfl⟩:=(show∃t',v=Value.int j t' from b);exact PyProof.Rows.iadd_int ⟨.int (i+j),H,I.tok _,⟨_,rfl⟩,q⟩
end
section
variable{X:Cx}{pins:List (Addr×Obj)}{σ:St}{H:Hp}{s:Shared}{A:Around}{E:Value->Shared->Prop}{Q:Value->Shared->Prop}{c:Value}{b:Bool}
inductive nw(K:ah)(H:Hp):V->Value->Prop where
 |non:nw K H .non (.type "NoneType")
 |bl (x:Bool):nw K H (.bl x) (.type "bool")
 |int (i:Int):nw K H (.int i) (.type "int")
 |str (x:Str):nw K H (.str x) (.type "str")
 |flt (x:UInt64):nw K H (.flt x) (.type "float")
 |lst {a:Addr} {xs:List V} (e:H a=some (.lst xs)):nw K H (.ref a) (.type "list")
 |frz {a:Addr} {o:Obj} {xs:List V} (e:H a=some (.frz o (.lst xs))):nw K H (.ref a) (.type "list")
 |tup {a:Addr} {xs:List V} (e:H a=some (.tup xs)):nw K H (.ref a) (.type "tuple")
 |dK {a:Addr} {kvs:List (mH×V)} (e:H a=some (.dK kvs)):nw K H (.ref a) (.type "dict")
 |dT {a:Addr} {kvs:List (List mH×V)} (e:H a=some (.dT kvs)):nw K H (.ref a) (.type "dict")
 | ins {a C dx:Addr} {fs:List (Str×V)} (e:H a=some (.ins C dx fs)) (cl:yM K C) (ha:cW K (.ref C) "__class__"=some (some (.builtin "object.__class__")))
   (hn:PySem.W.specialIn K (.builtin "object.__class__") "__get__"=some (some (.builtin "getset_descriptor.__get__"))) (htk:PySem.W.takesIn K (.builtin "object.__class__")=some true)
   (hm:Bi K C (.type "object")=some true):nw K H (.ref a) (.ref C)
theorem A4{x:V}{u t:Value}(I:Inv X pins σ H s)(f:dc x u)(ty:nw X.K H x t)(e:bz X.K t c=some b)(h:∀tk,Q (.bool b) {s with toks:=tk}):
  wpAny (model X.prog X.w) A (call (.builtin "isinstance") [u,c]) Q E s:=by
 cases ty with
 |non=>cases(show u=Value.none from f);exact dA PySem.W.kitx_none I.kIn True.intro e (λz=>nomatch z) h
 |bl y=>cases(show u=Value.bool y from f);exact dA PySem.W.kitx_bool I.kIn True.intro e (λz=>nomatch z) h
 |int i=>obtain⟨t,q⟩:=(show∃t,u=Value.int i t from f);cases q;exact dA PySem.W.kitx_int I.kIn True.intro e (λz=>nomatch z) h
 |str y=>obtain⟨t,q⟩:=(show∃t,u=Value.str y t from f);cases q;exact dA PySem.W.kitx_str I.kIn True.intro e (λz=>nomatch z) h
 |flt y=>obtain⟨t,q⟩:=(show∃t,u=Value.float y t from f);cases q;exact dA PySem.W.kitx_float I.kIn True.intro e (λz=>nomatch z) h
 | @lst a xs d=>
  cases(show u=Value.ref a from f);obtain⟨_,_,n,_,h1⟩:=(show gf X.prog X.w H s.heap a (.lst xs)from I.hok a _ d);exact dA PySem.W.kitx_list I.kIn ⟨_,h1,rfl⟩ e (λz=>nomatch z) h
 | @frz a m xs d=>
  cases(show u=Value.ref a from f);obtain⟨_,_,_,n,_,h1⟩:=(show gf X.prog X.w H s.heap a (.frz m (.lst xs))from I.hok a _ d);exact dA PySem.W.kitx_list I.kIn ⟨_,h1,rfl⟩ e (λz=>nomatch z) h
 | @tup a xs d=>
  cases(show u=Value.ref a from f);obtain⟨_,_,_,p⟩:=(show gf X.prog X.w H s.heap a (.tup xs)from I.hok a _ d);obtain⟨o,h1,h2,_⟩:=p;exact dA PySem.W.kitx_tuple I.kIn ⟨o,h1,h2⟩ e (λz=>nomatch z) h
 | @dK a g d=>
  cases(show u=Value.ref a from f);obtain⟨_,_,vs,_,p⟩:=(show gf X.prog X.w H s.heap a (.dK g)from I.hok a _ d);obtain⟨o,es,v,h1,h2,_⟩:=p;exact dA PySem.W.kitx_dict I.kIn ⟨o,h1,h2.1⟩ e (λz=>nomatch z) h
 | @dT a g d=>
  cases(show u=Value.ref a from f);obtain⟨_,_,xs,_,o,es,v,h1,h2,_⟩:=(show gf X.prog X.w H s.heap a (.dT g)from I.hok a _ d);exact dA PySem.W.kitx_dict I.kIn ⟨o,h1,h2.1⟩ e (λz=>nomatch z) h
 | @ins a C dx fs d cl k hn j l=>
  cases(show u=Value.ref a from f);obtain⟨mA,O,_⟩:=oR I.hok d;obtain⟨w,J,_⟩:=O.look;exact dA (PySem.W.kitx_own (cl.get _) cl.hd k hn j l) I.kIn J e (λz=>nomatch z) h
end
structure cF(k:Nat)(A:Around):Prop where
 hd:A.handled=none
 dp:A.depth+k+5<recursionLimit
 un:A.units+4*k+200<cLine
 gd:A.guards=some []
theorem cF.mono{j k:Nat}{A:Around}(r:cF k A)(h:j<=k):cF j A:=⟨r.hd,by have:=r.dp;omega,by have:=r.un;omega,r.gd⟩
theorem cF.deeper{k:Nat}{A:Around}(r:cF (k+1) A)(env:Env):cF k (A.deeper env):=
 ⟨r.hd,by have:=r.dp;show A.depth+1+k+5<_;omega,by have:=r.un;show A.units+3+4*k+200<_;omega,r.gd⟩
theorem xW{A:Around}{C:Addr}{us:List Value}{kw:List (Str×Value)}:(A.under (.builtin "type.__call__" ⟨.ref C::us,kw⟩)).depth=A.depth+1:=by
 first|rfl|simp[Around.under,Code.weight,Code.isCreation,Code.isGuard,Code.isCaller,Code.frames,Code.isFrame,guardIds]
theorem xV{A:Around}{C:Addr}{us:List Value}{kw:List (Str×Value)}:(A.under (.builtin "type.__call__" ⟨.ref C::us,kw⟩)).units=A.units+1:=by
 first|rfl|simp[Around.under,Code.cUnits,Code.frames,Code.isFrame]
theorem cF.make{k:Nat}{A:Around}(r:cF (k+1) A)(C:Addr)(us:List Value)(kw:List (Str×Value)):cF k (A.under (.builtin "type.__call__" ⟨.ref C::us,kw⟩)):=
 ⟨r.hd,by have:=r.dp;rw[xW];omega,by have:=r.un;rw[xV];omega,by first|exact r.gd|(simpa[Around.under,Code.isGuard,guardIds]using r.gd)⟩
theorem cF.depth{k:Nat}{A:Around}(r:cF k A):A.depth<recursionLimit:=by have:=r.dp;omega
theorem cF.units{k:Nat}{A:Around}(r:cF k A):A.units+64<cLine:=by have:=r.un;omega
def Av:TA:=λ_ H Q=>Q [] H
def uA(ta:TE)(a:TA):TA:=λσ H Q=>ta σ H λx H1=>a σ H1 λxs H2=>Q (x::xs) H2
section
variable{X:Cx}{e:Expr}{es:List Expr}{te:TE}{t:TA}{pos:Pos}
theorem ac:PA X [] Av:=λ_ _ _ _ H Q I h=>Calls.spliced_nil ⟨[],H,I,.nil,h⟩
theorem aa(i:PE X e te)(j:PA X es t)(c:starEach (e::es) X.env=(false,eval e X.env)::starEach es X.env:=by rfl):PA X (e::es) (uA te t):=by
 intro pos pins s σ H Q I h;rw[c];show wpAny _ _ (spliced ((false,eval e X.env)::backTo pos (starEach es X.env))) _ _ s;refine Calls.spliced_cons (dL (i pins s σ H _ I h) λu s1⟨x,H1,a,d,b⟩=>?_);exact dL (j pos pins s1 σ H1 _ a b) λus l⟨xs,H2,f,g,k⟩=>⟨x::xs,H2,f,.cons d g,k⟩
def Kl(t:TA):TE:=λσ H Q=>t σ H λxs H1=>xs.length<=sizeLine/\∀p,H1 p=none->Q (.ref p) (upd H1 p (.tup xs))
def Kr(t:TA):TE:=λσ H Q=>t σ H λxs H1=>xs.length<=sizeLine/\∀p,H1 p=none->Q (.ref p) (upd H1 p (.lst xs))
theorem cM{c}(h:PA X es t):PE X (.Tuple es c pos) (Kl t):=by
 intro pins s σ H Q I d;refine wpAny_Tuple_spliced (dL (h pos pins s σ H _ I d) λus s1⟨xs,H1,a,r,z,q⟩=>⟨by rw[<-r.length];exact z,?_⟩);have f:H1 s1.heap.objs.size=none:=a.hok.fresh (ao _);refine⟨.ref s1.heap.objs.size,upd H1 s1.heap.objs.size (.tup xs),a.laid (t':=s1.toks) (λb u e=>aE _ e) (ao _) ?_,rfl,q _ f⟩;exact⟨z,us,r,⟨_,bJ _ rfl,rfl,_,rfl⟩⟩
theorem cA(h:PA X es t):PE X (.List es pos) (Kr t):=by
 intro pins s σ H Q I c;refine wpAny_List_spliced (dL (h pos pins s σ H _ I c) λus s1⟨xs,H1,a,r,z,q⟩=>⟨by rw[<-r.length];exact z,?_⟩);have d:H1 s1.heap.objs.size=none:=a.hok.fresh (ao _);refine⟨.ref s1.heap.objs.size,upd H1 s1.heap.objs.size (.lst xs),a.laid (t':=s1.toks) (λb u e=>aE _ e) (ao _) ?_,rfl,q _ d⟩;exact⟨z,us,0,r,bJ _ rfl⟩
end
abbrev Sp:=List V->Hp->VK->XK->Prop
abbrev Ar:=List Env->Hp->Shared->XK->Value->Shared->Prop
structure Env0(P:Program)(w:World)(K:ah)(mg:Str->Option Value)(base:Heap)(A:Around)(outer:List Env)(s:Shared)(H:Hp):Prop where
 frames:A.frames=some outer
 mod:Mod K mg base
 bs:∀b o,base.get? b=some o->s.heap.get? b=some o/\H b=none
 bsz:base.objs.size<=s.heap.objs.size
 funs:s.heap.FunFrames base outer
 frf:∀b∈je outer,H b=none
 hok:lW P w H s.heap
 bare:AllBare s.gens
def CE(outer:List Env)(P:Program)(w:World)(H:Hp)(s:Shared)(Q:VK)(u:Value)(s':Shared):Prop:=
 ∃v H',s'.os=s.os/\AllBare s'.gens/\Un (je outer) [] H H' s.heap s'.heap/\lW P w H' s'.heap/\dc v u/\Q v H'
def CR(CX:Ar)(outer:List Env)(P:Program)(w:World)(H:Hp)(s:Shared)(Q:VK)(E:XK)(r:Result)(s':Shared):Prop:=
 match r with
 |.ok (.ret u)=>CE outer P w H s Q u s'
 |.ok _=>False
 |.error e=>CX outer H s E e s'
structure FnOk(P:Program)(w:World)(K:ah)(mg:Str->Option Value)(base:Heap)(CX:Ar)(k:Nat)(f:Addr)(fd:FuncData)(ps:List Str)(sp:Sp):Prop where
 len:∀vs H Q E,sp vs H Q E->vs.length=ps.length
 run:∀(A:Around)(outer:List Env)(s:Shared)(H:Hp)(args:Args)(us:List Value)(vs:List V)(Q:VK)(E:XK),cF k A->Env0 P w K mg base A outer s H->BindsTo s fd args (ps.zip us)->cS vs us->sp vs H Q E->
  codeAny (model P w) A (.call (.ref f) args) (CR CX outer P w H s Q E) s
theorem FnOk.mono{P:Program}{w:World}{K:ah}{mg:Str->Option Value}{base:Heap}{CX:Ar}{j k:Nat}{f:Addr}{fd:FuncData}{ps:List Str}{sp:Sp}(F:FnOk P w K mg base CX j f fd ps sp)(h:j<=k):
  FnOk P w K mg base CX k f fd ps sp:=⟨F.len,λA outer s H args us vs Q E a=>F.run A outer s H args us vs Q E (a.mono h)⟩
theorem Env0.make{P:Program}{w:World}{K:ah}{mg:Str->Option Value}{base:Heap}{A:Around}{outer:List Env}{s:Shared}{H:Hp}(e:Env0 P w K mg base A outer s H)(C:Addr)(us:List Value)(kw:List (Str×Value)):
  Env0 P w K mg base (A.under (.builtin "type.__call__" ⟨.ref C::us,kw⟩)) outer s H:=⟨by first|exact e.frames|(simpa[Around.under,Code.envs,Code.isFrame,pushEnvs]using e.frames),e.mod,e.bs,e.bsz,e.funs,e.frf,e.hok,e.bare⟩
section
variable{X:Cx}{pins:List (Addr×Obj)}{σ:St}{H:Hp}{s s':Shared}
theorem Inv.env0(I:Inv X pins σ H s):Env0 X.prog X.w X.K X.mg X.base X.A X.stack s H:=
 ⟨I.ok.frames,I.ok.mod,I.bs,af I.ok.bsz I.sz,I.stack,I.stkFree,I.hok,I.bare⟩
theorem Inv.after{Q:VK}{u:Value}(I:Inv X pins σ H s)(h:CE X.stack X.prog X.w H s Q u s'):EP X pins σ Q u s':=by
 obtain⟨v,H',os,bare,un,hok,r,q⟩:=h;obtain⟨c,g,d,t,a⟩:=s';obtain rfl:a=s.os:=os;exact⟨v,H',I.call (h':=c) (g':=g) (d':=d) (t':=t) (ch:=[]) un hok bare (λb z=>absurd z Qs),r,q⟩
end
def qT(sp:Sp)(dvs:List V)(E:XK)(t:TA):TE:=λσ H Q=>t σ H λvs H1=>sp (vs++dvs) H1 Q E
def yX(C:Addr)(m:Str)(sp:Sp)(dvs:List V)(E:XK)(ta:TE)(t:TA):TE:=λσ H Q=>ta σ H λx H1=>∃a dx fs,x=.ref a/\H1 a=some (.ins C dx fs)/\fs.lookup m=none/\
 t σ H1 λvs H2=>sp (x::(vs++dvs)) H2 Q E
def FY(C:Addr)(sp:Sp)(dvs:List V)(E:XK)(t:TA):TE:=λσ H Q=>t σ H λvs H1=>∀x dx,H1 x=none->H1 dx=none->dx≠x->
 sp (.ref x::(vs++dvs)) (upd (upd H1 dx (.own x)) x (.ins C dx [])) (λv H2=>v=.non/\Q (.ref x) H2) E
def i8(K:ah)(fd:FuncData)(ps:List Str)(ds:List Value):Prop:=
 ∀(s:Shared)(us:List Value),K.In s.heap->(us++ds).length=ps.length->BindsTo s fd ⟨us,[]⟩ (ps.zip (us++ds))
theorem i8.all{K:ah}{fd:FuncData}{ps:List Str}(h:∀us:List Value,us.length=ps.length->bindArgs fd ⟨us,[]⟩=pure (ps.zip us)):i8 K fd ps []:=λs us _ a=>by
 rw[bq]at a⊢;exact .of_eq (h us a)
def kz(CX:Ar)(X:Cx)(E:XK):Prop:=∀(pins:List (Addr×Obj))(σ:St)(H:Hp)(s:Shared)(e:Value)(s':Shared),Inv X pins σ H s->CX X.stack H s E e s'->X.xe e s'
section
variable{X:Cx}{CX:Ar}{k:Nat}{f C:Addr}{fd:FuncData}{ps:List Str}{sp:Sp}{dvs:List V}{ds:List Value}{E:XK}{x m:Str}{p pos apos:Pos}{e o:Expr}{es:List Expr}{ta:TE}{t:TA}
theorem sF{pins:List (Addr×Obj)}{σ:St}{H:Hp}{s:Shared}{Q:VK}{us:List Value}{vs:List V}(F:FnOk X.prog X.w X.K X.mg X.base CX k f fd ps sp)(g:cF k X.A)(c:i8 X.K fd ps ds)(hd:cS dvs ds)(d:kz CX X E)
  (I:Inv X pins σ H s)(r:cS vs us)(h:sp (vs++dvs) H Q E):wpAny (model X.prog X.w) X.A (call (.ref f) us) (EP X pins σ Q) X.xe s:=by
 have b:cS (vs++dvs) (us++ds):=r.append hd;have i:(us++ds).length=ps.length:=by rw[<-b.length];exact F.len _ _ _ _ h
 refine qo (codeAny_mono (F.run X.A X.stack s H ⟨us,[]⟩ (us++ds) (vs++dvs) Q E g I.env0 (c s us I.kIn i) b h) λr s' a=>?_);cases r with
 |error e=>exact d pins σ H s e s' I a
 |ok j=>
  cases j with
  |ret u=>exact I.after a
  |next=>exact False.elim a
  |brk=>exact False.elim a
  |cont=>exact False.elim a
theorem zM(F:FnOk X.prog X.w X.K X.mg X.base CX k f fd ps sp)(n:cF k X.A)(i:Gl X x)(o:X.mg x=some (.ref f))(d:de X.K (.ref f)=true)(g:i8 X.K fd ps ds)(hd:cS dvs ds)(j:kz CX X E)
  (m:PA X (e::es) t)(b:(x==("__debug__":Str))=false:=by decide)(l:starEach (e::es) X.env=(false,eval e X.env)::starEach es X.env:=by rfl)(a:(backTo pos (starEach es X.env)).any (·.1)=false:=by rfl):
  PE X (.Call (.Name x p) (e::es) [] pos) (qT sp dvs E t):=by
 intro pins s σ H Q I h;refine ft (kt I i o ?_ b);refine kC (h₀:=X.base) I.ok.mod.kin d (dL (m pos pins s σ H _ I h) λus s1⟨vs,H1,c,r,q⟩=>⟨c.kIn,?_⟩) l a;exact sF F n g hd j c r q
theorem Cz(F:FnOk X.prog X.w X.K X.mg X.base CX k f fd ps sp)(c:cF k X.A)(i:Gl X x)(g:X.mg x=some (.ref f))(d:de X.K (.ref f)=true)(e:i8 X.K fd ps ds)(hd:cS dvs ds)(b:kz CX X E)
  (a:(x==("__debug__":Str))=false:=by decide):PE X (.Call (.Name x p) [] [] pos) (qT sp dvs E Av):=by
 intro pins s σ H Q I h;refine ft (kt I i g ?_ a);exact Gc I.kIn d (sF (us:=[]) F c e hd b I .nil h)
theorem ES{pl:Sem Bool}(y:PE X o ta)(c:yM X.K C)(j:Bg X.K C m f)(F:FnOk X.prog X.w X.K X.mg X.base CX k f fd ps sp)(A:cF k X.A)(p:i8 X.K fd ps ds)(hd:cS dvs ds)(v:kz CX X E)(z:PA X (e::es) t)
  (d:starEach (e::es) X.env=(false,eval e X.env)::starEach es X.env:=by rfl)(b:(backTo pos (starEach es X.env)).any (·.1)=false:=by rfl)
  (D:eval (.Call (.Attribute o m apos) (e::es) [] pos) X.env=(do
   let ov<-eval o X.env
   standAt apos.atName
   let(f,first)<-holding [ov] (getMethod ov m pl)
   callWith pos f first (backTo pos (starEach (e::es) X.env)) (backToKw pos (keywordEach [] X.env))):=by rfl):
  PE X (.Call (.Attribute o m apos) (e::es) [] pos) (yX C m sp dvs E ta t):=by
 intro pins s σ H Q I h;refine D2 (pl:=pl) (dL (y pins s σ H _ I h) λu s1⟨x,H1,g,w,a,dx,fs,ex,n,l,q⟩=>?_) D;subst ex;obtain rfl:u=Value.ref a:=w;refine qd g n c j l ?_;refine kC (first:=[.ref a]) (h₀:=X.base) I.ok.mod.kin j.kp (dL (z pos pins s1 σ H1 _ g q) λus G⟨vs,H2,i,r,B⟩=>⟨i.kIn,?_⟩) d b;exact sF (us:=.ref a::us) (vs:=.ref a::vs) F A p hd v i (.cons rfl r) B
theorem Cw{pl:Sem Bool}(n:PE X o ta)(c:yM X.K C)(d:Bg X.K C m f)(F:FnOk X.prog X.w X.K X.mg X.base CX k f fd ps sp)(p:cF k X.A)(g:i8 X.K fd ps ds)(hd:cS dvs ds)(i:kz CX X E)
  (t:eval (.Call (.Attribute o m apos) [] [] pos) X.env=(do
   let ov<-eval o X.env
   standAt apos.atName
   let(f,first)<-holding [ov] (getMethod ov m pl)
   callWith pos f first (backTo pos (starEach [] X.env)) (backToKw pos (keywordEach [] X.env))):=by rfl):
  PE X (.Call (.Attribute o m apos) [] [] pos) (yX C m sp dvs E ta Av):=by
 intro pins s σ H Q I h;refine D2 (pl:=pl) (dL (n pins s σ H _ I h) λu s1⟨x,H1,b,j,a,dx,fs,ex,e,l,q⟩=>?_) t;subst ex;obtain rfl:u=Value.ref a:=j;refine qd b e c d l ?_;exact Gc (first:=[.ref a]) b.kIn d.kp (sF (us:=[.ref a]) (vs:=[.ref a]) F p g hd i b (.cons rfl .nil) q)
structure Mk(K:ah)(C f:Addr):Prop where
 makes:mI K C=true
 init:cW K (.ref C) "__init__"=some (some (.ref f))
 fn:qJ K (.ref f)=true
 kp:de K (.ref C)=true
theorem Cd{pins:List (Addr×Obj)}{σ:St}{H:Hp}{s:Shared}{Q:VK}{us:List Value}{vs:List V}(M:Mk X.K C f)(F:FnOk X.prog X.w X.K X.mg X.base CX k f fd ps sp)(l:cF (k+1) X.A)(i:i8 X.K fd ps ds)(hd:cS dvs ds)
  (j:kz CX X E)(I:Inv X pins σ H s)(r:cS vs us)
  (h:∀x dx,H x=none->H dx=none->dx≠x->sp (.ref x::(vs++dvs)) (upd (upd H dx (.own x)) x (.ins C dx [])) (λv H2=>v=.non/\Q (.ref x) H2) E):
  wpAny (model X.prog X.w) X.A (call (.ref C) us) (EP X pins σ Q) X.xe s:=by
 have c:=h (s.heap.objs.size+1) s.heap.objs.size (I.hok.fresh (kU _)) (I.hok.fresh (ao _)) (bF (f7 _));have b:=Inv.made (C:=C) I;have d:cS (V.ref (s.heap.objs.size+1)::(vs++dvs)) (Value.ref (s.heap.objs.size+1)::(us++ds)):=.cons rfl (r.append hd);have p:(Value.ref (s.heap.objs.size+1)::us++ds).length=ps.length:=by
  have e:=d.length;rw[F.len _ _ _ _ c]at e;exact e.symm
 refine qo (C_ (f:=f) I.kIn M.makes M.init (beq_iff_eq.mp M.fn) (codeAny_mono (F.run _ X.stack _ _ ⟨Value.ref (s.heap.objs.size+1)::us,[]⟩ (Value.ref (s.heap.objs.size+1)::(us++ds)) _ _ E (l.make C us [])
  (b.env0.make C us []) (i _ (Value.ref (s.heap.objs.size+1)::us) b.kIn p) d c) λr s' a=>?_))
 cases r with
 |error e=>exact j pins σ _ _ e s' b a
 |ok q=>
  cases q with
  |ret u=>
   obtain⟨v,H',m,g,n,o⟩:=b.after a;subst n;exact⟨g,⟨V.ref (s.heap.objs.size+1),H',m,rfl,o⟩⟩
  |next=>exact False.elim a
  |brk=>exact False.elim a
  |cont=>exact False.elim a
theorem EU(M:Mk X.K C f)(F:FnOk X.prog X.w X.K X.mg X.base CX k f fd ps sp)(m:cF (k+1) X.A)(g:Gl X x)(n:X.mg x=some (.ref C))(d:i8 X.K fd ps ds)(hd:cS dvs ds)(i:kz CX X E)
  (l:PA X (e::es) t)(b:(x==("__debug__":Str))=false:=by decide)(j:starEach (e::es) X.env=(false,eval e X.env)::starEach es X.env:=by rfl)(a:(backTo pos (starEach es X.env)).any (·.1)=false:=by rfl):
  PE X (.Call (.Name x p) (e::es) [] pos) (FY C sp dvs E t):=by
 intro pins s σ H Q I h;refine ft (kt I g n ?_ b);refine kC (h₀:=X.base) I.ok.mod.kin M.kp (dL (l pos pins s σ H _ I h) λus s1⟨vs,H1,c,r,q⟩=>⟨c.kIn,?_⟩) j a;exact Cd M F m d hd i c r q
end
def PK(X:Cx)(kws:List Keyword)(t:TA):Prop:=
 ∀(pos:Pos)(pins:List (Addr×Obj))(s:Shared)(σ:St)(H:Hp)(Q:List V->Hp->Prop),Inv X pins σ H s->t σ H Q->wpAny (model X.prog X.w) X.A (evalAll ((backToKw pos (keywordEach kws X.env)).map (·.2))) (AP X pins σ Q) X.xe s
section
variable{X:Cx}{CX:Ar}{k:Nat}{f C:Addr}{fd:FuncData}{ps ks:List Str}{sp:Sp}{E:XK}{x m:Str}{p pos apos kpos:Pos}{e o:Expr}{es:List Expr}{kws:List Keyword}{te ta:TE}{t tk:TA}{nm:Option Str}
theorem GP:PK X [] Av:=λ_ _ _ _ H Q I h=>wpAny_evalAll_nil ⟨[],H,I,.nil,h⟩
theorem EQ(g:PE X e te)(i:PK X kws t):PK X (⟨nm,e,kpos⟩::kws) (uA te t):=by
 intro pos pins s σ H Q I h;show wpAny _ _ (evalAll ((do let v<-eval e X.env;standAt pos;pure v)::(backToKw pos (keywordEach kws X.env)).map (·.2))) _ _ s;refine wpAny_evalAll_cons (az (dL (g pins s σ H _ I h) λu s1⟨x,H1,a,c,b⟩=>az (lI (bd ?_))));exact dL (i pos pins s1 σ H1 _ a b) λus k⟨xs,H2,d,f,j⟩=>⟨x::xs,H2,d,.cons c f,j⟩
variable{g:List Value->List Value->List Value}{gV:List V->List V->List V}
end
structure bD(N P:List Str)(sc:Scope):Prop where
 kind:sc.kind=.function
 co:sc.isCoroutine=false
 gen:sc.isGenerator=false
 nd:N.Nodup
 pre:N.take P.length=P
 par:∀x∈P,sc.names.lookup x=some .local \/sc.names.lookup x=some .cell
 nofree:∀y∈sc.names,y.2≠ .free
theorem rH{b:Str->Option NameKind}{x:Str}:∀{a:List (Str×Value)}{m:Str->Option Value},(∀v,(x,v)∉a)->bindL b a m x=m x
 |[],_,_=>rfl
 |(n,v)::r,m,h=>by
  unfold bindL;rw[rH λw hw=>h w (aB _ hw)];split
  ·have:x≠n:=by rintro rfl;exact h v aA
   simp[this]
  ·rfl
theorem rK{b:Str->Option NameKind}{x:Str}:∀{a:List (Str×Value)}{m:Str->Option Value},(∀v,(x,v)∉a)->bindC b a m x=m x
 |[],_,_=>rfl
 |(n,v)::r,m,h=>by
  unfold bindC;rw[rK λw hw=>h w (aB _ hw)];split
  ·rfl
  ·have:x≠n:=by rintro rfl;exact h v aA
   simp[this]
theorem rJ{a:Str->Option NameKind}{x:Str}{v:Value}:∀{P:List Str}{vs:List Value}{i:Nat}{m:Str->Option Value},P.Nodup->P[i]?=some x->vs[i]?=some v->a x=some .local ->
  bindL a (P.zip vs) m x=some v
 |[],_,_,_,_,h,_,_=>by simp at h
 |_::_,[],_,_,_,_,h,_=>by simp at h
 |p::P,w::vs,0,m,nd,h1,h2,b=>by
  simp at h1 h2;subst h1;subst h2;show bindL a ((p,w)::P.zip vs) m p=_;unfold bindL;rw[rH λv c=>(mK.mp nd).1 (wK c).1,aO b];simp
 |p::P,w::vs,i+1,m,nd,h1,h2,b=>by
  show bindL a ((p,w)::P.zip vs) m x=_;unfold bindL;exact rJ (i:=i) (mK.mp nd).2 (by simpa using h1) (by simpa using h2) b
theorem rO{a:Str->Option NameKind}{x:Str}{v:Value}:∀{P:List Str}{vs:List Value}{i:Nat}{m:Str->Option Value},P.Nodup->P[i]?=some x->vs[i]?=some v->a x≠some .local ->
  bindC a (P.zip vs) m x=some v
 |[],_,_,_,_,h,_,_=>by simp at h
 |_::_,[],_,_,_,_,h,_=>by simp at h
 |p::P,w::vs,0,m,nd,h1,h2,b=>by
  simp at h1 h2;subst h1;subst h2;show bindC a ((p,w)::P.zip vs) m p=_;unfold bindC;rw[rK λv c=>(mK.mp nd).1 (wK c).1,aG b];simp
 |p::P,w::vs,i+1,m,nd,h1,h2,b=>by
  show bindC a ((p,w)::P.zip vs) m x=_;unfold bindC;exact rO (i:=i) (mK.mp nd).2 (by simpa using h1) (by simpa using h2) b
def kI(N:List Str)(vs:List V):St:=vs.map some++List.replicate (N.length-vs.length) none
def jA(CX:Ar)(P:Program)(w:World)(K:ah)(mg:Str->Option Value)(base:Heap)(N:List Str)(qual:Str)(scope:Scope)(f:Addr)(b:Value)(A:Around)(outer:List Env)(s:Shared)(H:Hp)(E:XK):Cx where
 prog:=P
 w:=w
 K:=K
 mg:=mg
 base:=base
 A:=A.deeper (envOfC qual scope s.heap.objs.size f b)
 N:=N
 s₀:=s
 H₀:=H
 env:=envOfC qual scope s.heap.objs.size f b
 outer:=outer
 stack:=envOfC qual scope s.heap.objs.size f b::outer
 ex:=[]
 calm:=true
 fn:=λ_=>true
 pn:=[]
 xe:=λe s'=>wpAny (model P w) (A.deeper (envOfC qual scope s.heap.objs.size f b)) (leaving (envOfC qual scope s.heap.objs.size f b) e) (λ_ a=>CX outer H s E e a) (λc a=>CX outer H s E c a) s'
theorem vW{a:Scope}{n:Nat}{x:Str}(h:a.names.lookup x=some .cell):∃c,(cellsFrom n a.names []).lookup x=some c:=by
 have q:=DU a.names n [] (.inl h);exact bh.mp q
theorem rq{CX:Ar}{P:Program}{w:World}{K:ah}{mg:Str->Option Value}{base:Heap}{N ps:List Str}{qual:Str}{scope:Scope}{f:Addr}{o:Value}{A:Around}{outer:List Env}{s s1:Shared}{H:Hp}{E:XK}{us:List Value}{vs:List V}
  (S:bD N ps scope)(hd:A.handled=none)(d:Env0 P w K mg base A outer s H)(G:vs.length=ps.length)(r:cS vs us)
  (x:InCallC s s.heap.objs.size (bindL (envOfC qual scope s.heap.objs.size f o).kindOf (ps.zip us) λ_=>none) (cellsFrom (s.heap.objs.size+1) scope.names []) (bindC (envOfC qual scope s.heap.objs.size f o).kindOf (ps.zip us) λ_=>none) s1):
  Inv (jA CX P w K mg base N qual scope f o A outer s H E) [] (kI N vs) H s1:=by
 have C:ps.length<=N.length:=by have:=bL List.length S.pre;rw[bT]at this;omega
 obtain⟨h1,tk,rfl,t⟩:=x.done;have g:∀b:Addr,b∉(jA CX P w K mg base N qual scope f o A outer s H E).ex:=λb z=>absurd (show b∈([]:List Addr)from z) Qs;refine⟨⟨d.mod,S.kind,rfl,rfl,ao _,λy z c h1 h2=>?_,λy j=>?_,λy c _ h=>?_,λ_=>hd,Around.frames_deeper d.frames,.inr ⟨rfl,rfl⟩,λb z=>absurd z (g b),d.bs,d.bsz,λb _ _=>g b,λb z=>absurd z (g b),d.funs,d.frf⟩,
  rfl,d.bare,Un.kept t,⟨_,x.toInCall.ns,λi y v h1 h2 I=>?_⟩,λy c h=>⟨_,x.cell y c h⟩,d.hok.fresh (ao _),λy c h=>?_,λp l=>absurd (show p∈([]:List (Addr×Obj))from l) Qs,d.hok.kept t,?_⟩
 ·exact name_of_addr x.apart (iq h1) (iq h2)
 ·have j:scope.names.lookup y=some .cell \/scope.names.lookup y=some .free:=j;rcases j with j|j
  ·exact vW j
  ·exact absurd rfl (S.nofree _ (iq j))
 ·exact iV (x.above y c (iq h))
 ·have hi:i<vs.length:=by
   unfold kI at h2;by_cases hi:i<vs.length
   ·exact hi
   ·rw[fz (by simpa using hi)]at h2;rw[Br]at h2;split at h2<;>cases h2
  have F:vs[i]?=some v:=by
   unfold kI at h2;rw[ii (by simpa using hi),cE]at h2;cases e:vs[i]? with
   |none=>rw[e]at h2;cases h2
   |some a=>rw[e]at h2;cases h2;rfl
  obtain⟨u,B,D⟩:=r.get F;have l:ps[i]?=some y:=by
   rw[<-S.pre,List.getElem?_take_of_lt Qo];exact h1
  have m:ps.Nodup:=by rw[<-S.pre];exact S.nd.sublist (List.take_sublist _ _)
  refine⟨u,D,?_⟩;rcases S.par y (bR l)with k|k
  ·exact .inl ⟨k,rJ m l B k⟩
  ·obtain⟨c,e⟩:=vW (n:=s.heap.objs.size+1) k;refine .inr ⟨.inl k,c,e,?_⟩;have q:=x.cell y c e;rw[rO m l B (by show scope.names.lookup y≠_;rw[k];decide)]at q;exact q
 ·exact d.hok.fresh (iV (x.above y c (iq h)))
 ·unfold kI;show _=N.length;rw[ae,ay,nG];omega
theorem F9{CX:Ar}{P:Program}{w:World}{K:ah}{mg:Str->Option Value}{base:Heap}{k:Nat}{f:Addr}{name qual:Str}{c:Arguments}{d:List Stmt}{scope:Scope}{M kV l O a ct R:Value}{L Y:Option Addr}
  {D:Array (Option Value)}{N ps:List Str}{sp:Sp}(X:K.lookup f=some ⟨R,Y,.func (cT name qual c d scope M kV l O L a ct),D⟩)(C:gZ K a qual=true)(S:bD N ps scope)
  (len:∀vs H Q E,sp vs H Q E->vs.length=ps.length)
  (h:∀(A:Around)(outer:List Env)(s:Shared)(H:Hp)(vs:List V)(Q:VK)(E:XK),cF k (A.deeper (envOfC qual scope s.heap.objs.size f a))->sp vs H Q E->
   ∃t,PSs (jA CX P w K mg base N qual scope f a A outer s H E) d t/\t {nx:=λ_ H'=>Q .non H',rt:=Q} (kI N vs) H):
  FnOk P w K mg base CX (k+1) f (cT name qual c d scope M kV l O L a ct) ps sp:=by
 refine⟨len,λA outer s H args us vs Q E F m W r z=>?_⟩;have hl:=len _ _ _ _ z;have G:K.In s.heap:=m.mod.kin.keeps λb o e=>(m.bs b o e).1;have lim:s.heap.NoLimit:=m.mod.nolimit.keeps λb o e=>(m.bs b o e).1;have i:∀y∈ps.zip us,scope.names.lookup y.1=some .local \/(scope.names.lookup y.1=some .cell/\((cellsFrom (s.heap.objs.size+1) scope.names []).lookup y.1).isSome=true):=λ⟨n,v⟩U=>by
  rcases S.par n (wK U).1 with q|q
  ·exact .inl q
  ·exact .inr ⟨q,DU _ _ _ (.inl q)⟩
 refine codeAny_call_function F.depth (G _ _ X) rfl S.co S.gen rfl (PySem.W.codeRec_of G C) (W _ _ _ _ ?_);refine wpAny_newFunctionEnv_cells S.kind i λenv Z s1 x=>?_;subst Z;refine⟨lim.keeps x.toInCall.keep,codeAny_func ?_⟩;obtain⟨t,ht,T⟩:=h A outer s H vs Q E (F.deeper _) z;have I:Inv (jA CX P w K mg base N qual scope f a A outer s H E) [] (kI N vs) H s1:=rq S F.hd m hl r x;refine bX (ht [] s1 (kI N vs) H _ I T) (λfl s' j=>?_) λe s' j=>j;have p:∀{g:St}{H':Hp}{v:V}{u:Value},Inv (jA CX P w K mg base N qual scope f a A outer s H E) [] g H' s'->dc v u->Q v H'->CE outer P w H s Q u s':=
  λ{g H' v u}J B q=>⟨v,H',J.os,J.bare,J.base,J.hok,B,q⟩
 cases fl with
 |ret u=>
  obtain⟨v,g,H',J,B,q⟩:=j;exact p J B q
 |next=>
  obtain⟨g,H',J,q⟩:=j;exact p (v:=V.non) (u:=Value.none) J rfl q
 |brk=>
  obtain⟨_,_,_,q⟩:=j;exact False.elim q
 |cont=>
  obtain⟨_,_,_,q⟩:=j;exact False.elim q
section
variable{X:Cx}{x:Str}{p pos:Pos}{e:Expr}{es:List Expr}{t:TA}{id T:String}{r:List V->Hp->VK->Prop}
def Ll(r:List V->Hp->VK->Prop)(t:TA):TE:=λσ H Q=>t σ H λvs H1=>r vs H1 Q
theorem bP(i:iM X (.builtin id) r)(j:Gl X x)(m:X.mg x=none)(f:bootBuiltins x=some (.builtin id))(l:PA X (e::es) t)(hn:x≠"__name__":=by decide)(b:(x==("__debug__":Str))=false:=by decide)
  (k:starEach (e::es) X.env=(false,eval e X.env)::starEach es X.env:=by rfl)(a:(backTo pos (starEach es X.env)).any (·.1)=false:=by rfl):PE X (.Call (.Name x p) (e::es) [] pos) (Ll r t):=by
 intro pins s σ H Q I h;refine ft (nU I j m f ?_ hn b);exact PyProof.Rows.callWith_builtin1 (dL (l pos pins s σ H _ I h) λus s1⟨vs,H1,c,g,d⟩=>i pins s1 σ H1 vs us Q c g d) k a
theorem d9(i:iM X (.type T) r)(j:Gl X x)(m:X.mg x=none)(f:bootBuiltins x=some (.type T))(l:PA X (e::es) t)(hn:x≠"__name__":=by decide)(b:(x==("__debug__":Str))=false:=by decide)
  (k:starEach (e::es) X.env=(false,eval e X.env)::starEach es X.env:=by rfl)(a:(backTo pos (starEach es X.env)).any (·.1)=false:=by rfl):PE X (.Call (.Name x p) (e::es) [] pos) (Ll r t):=by
 intro pins s σ H Q I h;refine ft (nU I j m f ?_ hn b);exact ke (dL (l pos pins s σ H _ I h) λus s1⟨vs,H1,c,g,d⟩=>i pins s1 σ H1 vs us Q c g d) k a
end
theorem F5{P:Program}{w:World}{k:mH}{u:Value}(r:dc (kV k) u):(lR P w).is k u=true:=by
 cases k with
 |inl i=>obtain⟨t,e⟩:=(show∃t,u=Value.int i t from r);subst e;exact vF P w i t
 |inr x=>obtain⟨t,e⟩:=(show∃t,u=Value.str x t from r);subst e;exact fk P w x t
def JV(i:Expr):Prop:=∀ov a,subscripted i false ov a=operate [ov,a] (getItem ov a)
theorem Eh{prog:Program}{w:World}{A:Around}{E:Value->Shared->Prop}{s:Shared}{env:Env}{value a:Expr}{pos:Pos}{T id:String}{Q:Value->Shared->Prop}
  (m:typeLookup (.type T) "__getitem__"=pure (some (.builtin id)))(l:JV a)
  (h:wpAny (model prog w) A (eval value env) (λo d=>wpAny (model prog w) A (eval a env) (λi b=>b.TypeIs o T/\wpAny (model prog w) A (getItem o i) Q E b) E d) E s):
  wpAny (model prog w) A (eval (.Subscript value a pos) env) Q E s:=by
 refine Subscript_ (bX h (λo d g=>bX g (λi b c=>?_) λ_ _ x=>x) λ_ _ x=>x);obtain⟨k,c⟩:=c;unfold subscriptTail;refine az ?_;rw[getitemInPython_of_ne k.not_modules];refine az (wpAny_specialOf k m ?_);have f:wpAny (model prog w) A (subscripted a false o i) (λr e=>wpAny (model prog w) A (letTemporaryGo value o r>>=λ_=>pure r) Q E e) E b:=by
  rw[l o i];exact wpAny_operating (bX c (λr e j=>az (wpAny_letTemporaryGo (bd j))) λ_ _ x=>x)
 first
  |exact bd (az f)
  |exact az (bd (az f))
  |exact az f
end L2
namespace HT
open PySem PyProof.Rows
section
variable{prog:Program}{w:World}{A:Around}{E:Value->Shared->Prop}{s:Shared}
theorem FI{t b:Addr}{vs ws:List Value}{Q:Value->Shared->Prop}(u:IsTup s.heap t vs.toArray)(q:IsTup s.heap b ws.toArray)(k:vs≠ [])
  (h1:ws=[]->Q (.ref t) s)(h2:ws≠ []->Q (.ref s.heap.objs.size) {s with heap:=s.heap.push {cls:=.type "tuple",data:=.seq (vs++ws).toArray }})
  (j:vs.length+ws.length<=sizeLine):wpAny (model prog w) A (binaryOp .Add (.ref t) (.ref b)) Q E s:=by
 obtain⟨⟨cls,dd,data,p⟩,h,m,n,hd⟩:=id u;obtain⟨⟨l,c,i,d⟩,a,g,o,f⟩:=id q;simp only at m hd g f;subst m hd g f;have e:vs.toArray++ws.toArray=(vs++ws).toArray:=Qs;by_cases hw:ws=[]
 ·exact concat_meets ⟨_,h,rfl⟩ ⟨_,a,rfl⟩ noFill_tuple_add seq_tuple_add DW Bo (Bj _ _)
   (tuple_addW1 t b vs.toArray ws.toArray n o dd c p d (by simpa using k) (by simp[hw])) ⟨h,a,h1 hw⟩
 ·refine concat_meets ⟨_,h,rfl⟩ ⟨_,a,rfl⟩ noFill_tuple_add seq_tuple_add DW Bo (Bj _ _)
   (tuple_addW2 t b vs.toArray ws.toArray n o dd c p d (by simpa using k) (by simpa using hw) (by rw[bj,bj];exact j)) ⟨h,a,?_⟩
  rw[e];exact h2 hw
def sIx(n d:Nat):Option Int->Nat
 |none=>d
 |some v=>if v<0 then(v+(n:Int)).toNat else min v.toNat n
theorem Cc(n d:Nat):sIx n d none=d:=rfl
theorem sE(n d k:Nat):sIx n d (some (k:Int))=min k n:=by
 show(if(k:Int)<0 then((k:Int)+(n:Int)).toNat else min (k:Int).toNat n)=min k n;rw[aG Qo,kW]
theorem GG(n d:Nat)(hd:d<=n)(o:Option Int):sIx n d o<=n:=by
 cases o with
 |none=>exact hd
 |some v=>
  show(if v<0 then(v+(n:Int)).toNat else min v.toNat n)<=n;by_cases a:v<0
  ·rw[aO a];omega
  ·rw[aG a];exact Nat.min_le_right _ _
theorem Am(v:Int)(n d:Nat):(if v<0 then max (v+(n:Int)) 0 else min v (n:Int))=((sIx n d (some v):Nat):Int):=by
 show(if v<0 then max (v+(n:Int)) 0 else min v (n:Int))=(((if v<0 then(v+(n:Int)).toNat else min v.toNat n):Nat):Int);by_cases a:v<0
 ·simp only[aO a];omega
 ·simp only[aG a];omega
theorem yJ(lo hi:Option Int)(n:Nat):Builtin.Slice.sliceAdjust lo hi 1 (n:Int)=(((sIx n 0 lo:Nat):Int),((sIx n n hi:Nat):Int)):=by
 have h1:¬((1:Int)<0):=Qo;unfold Builtin.Slice.sliceAdjust;simp only[h1,if_false];refine Prod.ext ?_ ?_
 ·cases lo with
  |none=>rfl
  |some v=>exact Am v n 0
 ·cases hi with
  |none=>rfl
  |some v=>exact Am v n n
theorem xL(i j:Nat):Builtin.Slice.slicePlaces (i:Int) (j:Int) 1=j-i:=by
 unfold Builtin.Slice.slicePlaces;have h1:(1:Int)>0:=Qo;simp only[h1,if_true,Int.ediv_one];split<;>omega
theorem pB{v:Value}{o:Option Int}{Q:Option Int->Shared->Prop}(p:IsPart v o)(h:Q o s):wpAny (model prog w) A (Builtin.Slice.slicePartIndex v) Q E s:=by
 cases p with
 |none=>exact slicePart_none h
 |int i t=>exact slicePart_int h
theorem nM{e:Addr}{c d:Value}{lo hi:Option Int}{n:Nat}{Q:Int×Int×Nat->Shared->Prop}(g:s.heap.IsSliceOf e c d .none)(pl:IsPart c lo)(i:IsPart d hi)
  (h:Q (((sIx n 0 lo:Nat):Int),1,sIx n n hi-sIx n 0 lo) s):wpAny (model prog w) A (Builtin.Slice.sliceApplied (.ref e) (pure (n:Int))) Q E s:=by
 obtain⟨os,b,f,a⟩:=id g;unfold Builtin.Slice.sliceApplied Builtin.Slice.sliceFields;refine az (az (jB b a (x:=c) rfl (az (jB b a (x:=d) rfl (az (jB b a (x:=.none) rfl (bd ?_)))))));refine az (slicePart_none ?_);show wpAny _ _ (if((1:Int)==0)=true then _ else _) _ _ s;rw[aG Qd];refine az (pB pl (az (pB i (az (bd ?_)))));show wpAny _ _ (match Builtin.Slice.sliceAdjust lo hi 1 (n:Int)with|(lo,hi)=>pure (lo,(1:Int),Builtin.Slice.slicePlaces lo hi 1)) _ _ s;rw[yJ lo hi n];show wpAny _ _ (pure (((sIx n 0 lo:Nat):Int),(1:Int),Builtin.Slice.slicePlaces ((sIx n 0 lo:Nat):Int) ((sIx n n hi:Nat):Int) 1)) _ _ s;rw[xL];exact bd h
theorem Ct(xs:Array Value)(i k:Nat):((List.range k).filterMap λ(m:Nat)=>xs[((i:Int)+(m:Int)*1).toNat]?).toArray=((xs.toList.drop i).take k).toArray:=by
 have e:(λ(m:Nat)=>xs[((i:Int)+(m:Int)*1).toNat]?)=λm=>xs[i+m]?:=by
  funext m;have:((i:Int)+(m:Int)*1).toNat=i+m:=Qo;rw[this]
 rw[e];have:=pick_run xs i k;rw[List.filterMap_map]at this;have a:((λx=>xs[x]?)∘λx=>i+x)=λm=>xs[i+m]?:=rfl;rw[a]at this;rw[this]
theorem nn{t g:Addr}{a:Array Value}{l k:Value}{lo hi:Option Int}{Q:Value->Shared->Prop}(c:IsTup s.heap t a)(j:s.heap.IsSliceOf g l k .none)(pl:IsPart l lo)(n:IsPart k hi)
  (hw:¬(sIx a.size 0 lo=0/\sIx a.size a.size hi=a.size))
  (h:Q (.ref s.heap.objs.size) {s with heap:=s.heap.push {cls:=.type "tuple",data:=.seq ((a.toList.drop (sIx a.size 0 lo)).take (sIx a.size a.size hi-sIx a.size 0 lo)).toArray }})
  (o:a.size<=sizeLine):wpAny (model prog w) A (getItem (.ref t) (.ref g)) Q E s:=by
 have b:sizeOk (.seq ((a.toList.drop (sIx a.size 0 lo)).take (sIx a.size a.size hi-sIx a.size 0 lo)).toArray):=by
  show((a.toList.drop (sIx a.size 0 lo)).take (sIx a.size a.size hi-sIx a.size 0 lo)).toArray.size<=sizeLine;rw[bj,bT,ig,fb];omega
 have v:sIx a.size a.size hi<=a.size:=GG _ _ (ao _) hi;obtain⟨os,d,e,p⟩:=id j;have i:s.TypeIs (.ref g) "slice":=⟨os,d,e⟩;unfold getItem
 try with_reducible refine fT ?_
 first|refine az (bd ?_)|skip
 refine az (wpAny_sequenceKey c.typeIs Qd ?_);refine az (wpAny_callSpecial?_slot (name:=Str.ofString "__getitem__") c.typeIs rQ
  (wpAny_call_entry rQ c.typeIs entry_tuple_getitem ?_ (args_tuple_getitem _ _)))
 show wpAny _ _ (Builtin.Tuple.tupleItemsOf (.ref t)>>=_) _ _ s;refine az (tupleItemsOf_ c ?_);refine az (wpAny_typeOf i ?_);rw[aO Qd];refine az (nM j pl n ?_);have f:¬((((sIx a.size 0 lo:Nat):Int)==0&&(1:Int)==1&&(sIx a.size a.size hi-sIx a.size 0 lo)==a.size)=true):=by
  intro q;rw[bc,bc]at q;have u:((sIx a.size 0 lo:Nat):Int)=0:=eq_of_beq q.1.1;have x:sIx a.size a.size hi-sIx a.size 0 lo=a.size:=eq_of_beq q.2;exact hw ⟨Qo,Qo⟩
 show wpAny _ _ (if(((sIx a.size 0 lo:Nat):Int)==0&&(1:Int)==1&&(sIx a.size a.size hi-sIx a.size 0 lo)==a.size)=true then _ else _) _ _ s;rw[aG f,Ct]
 first
  |exact az (m:=Builtin.Tuple.tupleExact _) (fK (bd ⟨_,rfl,bd h⟩) b)
  |exact az (m:=Builtin.Tuple.tupleExact _) (fK (az (bd (bd ⟨_,rfl,bd h⟩))) b)
  |exact az (az (m:=Builtin.Tuple.tupleExact _) (fK (bd (bd ⟨_,rfl,bd h⟩)) b))
  |exact az (az (m:=Builtin.Tuple.tupleExact _) (fK (bd ⟨_,rfl,bd h⟩) b))
end
end HT
namespace L2
open PySem PySem.Spec PyProof.Rows
abbrev TO:=St->Hp->(Option Int->Hp->Prop)->Prop
def PO(X:Cx)(e:Option Expr)(t:TO):Prop:=
 ∀(pins:List (Addr×Obj))(s:Shared)(σ:St)(H:Hp)(Q:Option Int->Hp->Prop),Inv X pins σ H s->t σ H Q->
  wpAny (model X.prog X.w) X.A (evalPart e X.env) (λu s'=>∃o H',Inv X pins σ H' s'/\IsPart u o/\Q o H') X.xe s
def Ef:TO:=λ_ H Q=>Q none H
def Ix(t:TE):TO:=λσ H Q=>t σ H λx H1=>∃i,x=.int i/\Q (some i) H1
theorem xY{ns:List Int}:∀{us:List Value},cS (ns.map V.int) us->IntsAre us ns:=by
 induction ns with
 |nil=>intro us r;rw[List.map_nil]at r;cases r;exact .nil
 |cons n ns a=>
  intro us r;rw[b7]at r;cases r with
  |cons b c=>
   obtain⟨t,e⟩:=b;subst e;exact .cons n t (a c)
section
variable{X:Cx}{e:Expr}{te:TE}{lo hi:Option Expr}{tl th:TO}{pos p2:Pos}
theorem fj:PO X none Ef:=by
 intro pins s σ H Q I h;rw[evalPart_none];exact bd ⟨none,H,I,.none,h⟩
theorem bi(h:PE X e te):PO X (some e) (Ix te):=by
 intro pins s σ H Q I hw;rw[evalPart_some];refine dL (h pins s σ H _ I hw) λu s1⟨x,H1,a,c,b⟩=>?_;obtain⟨i,rfl,q⟩:=b;obtain⟨t,rfl⟩:=c;exact⟨some i,H1,a,.int i t,q⟩
def Kd(X:Cx)(r:V->Option Int->Option Int->Hp->VK->Prop):Prop:=
 ∀(pins:List (Addr×Obj))(s:Shared)(σ:St)(H:Hp)(x:V)(v a c:Value)(lo hi:Option Int)(b:Addr)(Q:VK),Inv X pins σ H s->dc x v->s.heap.IsSliceOf b a c .none->IsPart a lo->IsPart c hi->r x lo hi H Q->
  ∃T id,typeLookup (.type T) "__getitem__"=pure (some (.builtin id))/\s.TypeIs v T/\wpAny (model X.prog X.w) X.A (getItem v (.ref b)) (EP X pins σ Q) X.xe s
def Lp(r:V->Option Int->Option Int->Hp->VK->Prop)(te:TE)(tl th:TO):TE:=λσ H Q=>te σ H λx H1=>tl σ H1 λl H2=>th σ H2 λu a=>r x l u a Q
theorem bM{r:V->Option Int->Option Int->Hp->VK->Prop}(w:Kd X r)(t:PE X e te)(E:PO X lo tl)(z:PO X hi th):PE X (.Subscript e (.Slice lo hi none p2) pos) (Lp r te tl th):=by
 intro pins s σ H Q I h;refine Subscript_ (dL (t pins s σ H _ I h) λv s1⟨x,H1,g,m,i⟩=>?_);refine wpAny_Slice (dL (E pins s1 σ H1 _ g i) λd y⟨l,H2,o,pl,B⟩=>dL (z pins y σ H2 _ o B) λc a⟨u,f,A,j,D⟩=>?_);rw[evalPart_none];refine bd ?_;have k:Inv X pins σ f {a with heap:=a.heap.push {cls:=.type "slice",data:=.fields #[d,c,.none]}}:=A.kept (t':=a.toks) λb F q=>aE _ q;obtain⟨T,id,n,C,p⟩:=w pins {a with heap:=a.heap.push {cls:=.type "slice",data:=.fields #[d,c,.none]}} σ f x v d c l u a.heap.objs.size Q k m (Heap.IsSliceOf.new ..) pl j D;show wpAny (model X.prog X.w) X.A (subscriptTail e (.Slice lo hi none p2) v (.ref a.heap.objs.size)) (EP X pins σ Q) X.xe {a with heap:=a.heap.push {cls:=.type "slice",data:=.fields #[d,c,.none]}};exact tail_any (ops:=[.ref a.heap.objs.size,v]) C n p Qw
def kQ(xs:List V)(lo hi:Option Int):List V:=(xs.drop (HT.sIx xs.length 0 lo)).take (HT.sIx xs.length xs.length hi-HT.sIx xs.length 0 lo)
theorem ow(xs:List V)(lo hi:Option Int):(kQ xs lo hi).length<=xs.length:=by
 unfold kQ;rw[bT,ig];omega
def KA(K:ah):V->Option Int->Option Int->Hp->VK->Prop:=λx lo hi H Q=>∃a xs,x=.ref a/\SqT K H a xs/\
 ¬(HT.sIx xs.length 0 lo=0/\HT.sIx xs.length xs.length hi=xs.length)/\∀p,H p=none->Q (.ref p) (upd H p (.tup (kQ xs lo hi)))
theorem ss:Kd X (KA X.K):=by
 intro pins s σ H x v m l lo hi n Q I k g pl i h;obtain⟨a,xs,rfl,j,hw,q⟩:=h;cases k;obtain⟨d,r,f,e⟩:=I.tuple j;have c:d.toArray.size=xs.length:=by rw[bj];exact r.length.symm
 refine⟨"tuple",_,PyProof.Rows.slot_tuple_getitem.lookup,f.typeIs,?_⟩;refine HT.nn f g pl i (by rw[c];exact hw) ?_ (by rw[c];exact e);rw[c];refine⟨.ref s.heap.objs.size,_,I.laid (t':=s.toks) (o:=.tup (kQ xs lo hi)) (λb p q=>aE _ q) (ao _) ?_,rfl,q _ (I.hok.fresh (ao _))⟩;exact⟨af (ow xs lo hi) e,_,(r.drop (HT.sIx xs.length 0 lo)).take (HT.sIx xs.length xs.length hi-HT.sIx xs.length 0 lo),IsTup.new _ _⟩
def IS(K:ah):R2:=λx y H Q=>∃a b xs ys,x=.ref a/\y=.ref b/\SqT K H a xs/\SqT K H b ys/\xs≠ []/\xs.length+ys.length<=sizeLine/\
 (ys=[]->Q (.ref a) H)/\(ys≠ []->∀p,H p=none->Q (.ref p) (upd H p (.tup (xs++ys))))
theorem cS.nil_iff{xs:List V}{us:List Value}(r:cS xs us):us=[]↔xs=[]:=by
 cases r with
 |nil=>simp
 |cons _ _=>simp
theorem E1:ml X (binaryOp .Add) (IS X.K):=by
 intro pins s σ H x y v u Q I n j h;obtain⟨a,b,xs,ys,rfl,rfl,p,k,l,e,g,t⟩:=h;cases n;cases j;obtain⟨i,d,m,_⟩:=I.tuple p;obtain⟨f,c,p2,_⟩:=I.tuple k;refine HT.FI m p2 (λz=>l (d.nil_iff.mp z)) (λz=>⟨.ref a,H,I,rfl,g (c.nil_iff.mp z)⟩) (λz=>?_) (by rw[<-d.length,<-c.length];exact e);refine⟨.ref s.heap.objs.size,_,I.laid (t':=s.toks) (o:=.tup (xs++ys)) (λb A q=>aE _ q) (ao _) ?_,rfl,t (λw=>z (c.nil_iff.mpr w)) _ (I.hok.fresh (ao _))⟩;exact⟨by rw[ae];exact e,_,d.append c,IsTup.new _ _⟩
end
def Dk(n:Nat)(i:Int):Option Nat:=if 0<=i then(if i<n then some i.toNat else none)else if-(n:Int)<=i then some (i+n).toNat else none
def yI{a:Type}(xs:List a)(i:Int):Option a:=(Dk xs.length i).bind λj=>xs[j]?
theorem Aa{n:Nat}{i:Int}{j:Nat}(h:Dk n i=some j):seqIndex? i n=some j/\j<n/\-(n:Int)<=i/\i<n:=by
 unfold Dk at h;by_cases h0:0<=i
 ·rw[aO h0]at h;by_cases h1:i<n
  ·rw[aO h1]at h;have e:i.toNat=j:=Option.some.inj h;exact⟨by rw[seqIndex_of h0 h1,e],Qo,Qo,h1⟩
  ·rw[aG h1]at h;cases h
 ·rw[aG h0]at h;by_cases h1:-(n:Int)<=i
  ·rw[aO h1]at h;have e:(i+n).toNat=j:=Option.some.inj h;exact⟨by rw[seqIndex_neg Qo h1,e],Qo,h1,Qo⟩
  ·rw[aG h1]at h;cases h
theorem tM{a:Type}{xs:List a}{i:Int}{v:a}(h:yI xs i=some v):∃j,seqIndex? i xs.length=some j/\xs[j]?=some v/\j<xs.length/\-(xs.length:Int)<=i/\i<xs.length:=by
 unfold yI at h;cases e:Dk xs.length i with
 |none=>rw[e]at h;cases h
 |some j=>
  rw[e]at h;obtain⟨h1,h2,b,c⟩:=Aa e;exact⟨j,h1,h,h2,b,c⟩
theorem fE{a:Type}{xs:List a}{j:Nat}{v:a}(h:xs[j]?=some v):yI xs (j:Int)=some v:=by
 have b:j<xs.length:=(b8.mp h).1;have e:Dk xs.length (j:Int)=some j:=by
  unfold Dk;rw[aO Qo,aO Qo];simp
 unfold yI;rw[e];exact h
theorem lF{a:Type}(xs:List a)(v:a):yI (xs++[v]) (-1)=some v:=by
 have b:(xs++[v]).length=xs.length+1:=Qs;have e:Dk (xs++[v]).length (-1)=some xs.length:=by
  unfold Dk;rw[b,aG Qd,aO Qo];congr 1;omega
 unfold yI;rw[e];show(xs++[v])[xs.length]?=some v;simp
def FP(b:Expr):Prop:=∀o i,subscripted b false o i=operate [o,i] (getItem o i)
def JX(X:Cx)(r:R2):Prop:=
 ∀(value a:Expr)(pins:List (Addr×Obj))(s:Shared)(σ:St)(H:Hp)(x y:V)(v u:Value)(Q:VK),Inv X pins σ H s->dc x v->dc y u->r x y H Q->
  subscripted a false v u=operate [v,u] (getItem v u)->wpAny (model X.prog X.w) X.A (subscriptTail value a v u) (EP X pins σ Q) X.xe s
def JW(X:Cx)(id:String)(r:V->List V->Hp->VK->Prop):Prop:=
 ∀(pins:List (Addr×Obj))(s:Shared)(σ:St)(H:Hp)(x:V)(xs:List V)(v:Value)(us:List Value)(Q:VK),Inv X pins σ H s->dc x v->cS xs us->r x xs H Q->
  wpAny (model X.prog X.w) X.A (call (.builtin id) (v::us)) (EP X pins σ Q) X.xe s
section
variable{X:Cx}{a b:Expr}{ta tb:TE}{pos:Pos}
theorem bE{r:R2}(j:JX X r)(i:PE X a ta)(f:PE X b tb)(c:FP b):PE X (.Subscript a b pos) (Kc r ta tb):=by
 intro pins s σ H Q I h;exact Subscript_ (HV i f I h λv u k x y H2 e g d q=>j a b pins k σ H2 x y v u Q e g d q (c _ _))
def KE(K:ah):R2:=λx y H Q=>∃p xs i v,x=.ref p/\y=.int i/\SqL K H p xs/\yI xs i=some v/\Q v H
def IQ(K:ah):R2:=λx y H Q=>∃p xs i v,x=.ref p/\y=.int i/\SqT K H p xs/\yI xs i=some v/\Q v H
def KD:R2:=λx y H Q=>∃z i c,x=.str z/\y=.int i/\z.length<=sizeLine/\yI z.cps.toList i=some c/\Q (.str ⟨#[c]⟩) H
theorem d_:JX X (KE X.K):=by
 intro value c pins s σ H x y v u Q I n m h f;obtain⟨p,xs,i,z,rfl,rfl,l,o,q⟩:=h;cases n;obtain⟨t,rfl⟩:=m;obtain⟨b,r,pl,C⟩:=I.list l;obtain⟨j,h1,h2,D,A,k⟩:=tM o;obtain⟨w,g,e⟩:=r.get h2;have B:=r.length;have hn:=nR;have a:EP X pins σ Q w s:=⟨z,H,I,e,q⟩;by_cases h0:0<=i
 ·have d:i.toNat=j:=by
   rw[seqIndex_of h0 k]at h1;exact Option.some.inj h1
  exact item_listR pl.isList h0 Qo (by rw[d];simpa using g) a f
 ·have d:(i+(b.toArray.size:Int)).toNat=j:=by
   rw[seqIndex_neg Qo A]at h1;rw[bj,<-B];exact Option.some.inj h1
  exact subscriptTail_builtinR (x:=w) pl.isList.typeIs slot_list_getitem.lookup
   (wpAny_getItem_list_neg (Q:=λr s'=>r=w/\EP X pins σ Q r s') pl.isList Qo (by rw[bj]<;>omega) Qo (by rw[d];simpa using g) ⟨rfl,a⟩) f
theorem bB:JX X (IQ X.K):=by
 intro value a pins s σ H x y v u Q I k g h e;obtain⟨p,xs,i,z,rfl,rfl,f,l,q⟩:=h;cases k;obtain⟨t,rfl⟩:=g;obtain⟨d,r,pl,A⟩:=I.tuple f;obtain⟨j,h1,h2,C,B,o⟩:=tM l;obtain⟨w,m,c⟩:=r.get h2;have n:=r.length;have hn:=nR;have b:EP X pins σ Q w s:=⟨z,H,I,c,q⟩;exact subscriptTail_builtinR (x:=w) pl.typeIs slot_tuple_getitem.lookup
  (getItem_tuple (j:=j) (Q:=λr s'=>r=w/\EP X pins σ Q r s') pl Qo Qo (by rw[bj,<-n];exact h1) (by simpa using m) ⟨rfl,b⟩) e
theorem qa:JX X KD:=by
 intro value a pins s σ H x y v u Q I g e h b;obtain⟨z,i,c,rfl,rfl,o,k,q⟩:=h;obtain⟨t,rfl⟩:=g;obtain⟨t',rfl⟩:=e;obtain⟨j,h1,h2,p,l,d⟩:=tM k;have n:z.cps.toList.length=z.length:=by simp[Str.length]
 rw[n]at h1 l d;have hn:=nR;exact tail_any (typeIs_str s z t) slot_str_getitem.lookup (getItem_str (c:=c) (by
  have f:decide (i< -(2^63:Int))=false:=aP Qo;have m:decide (i>=2^63)=false:=aP Qo;rw[f,m,Bool.or_false]) (by rw[h1];simpa using h2) ⟨.str ⟨#[c]⟩,H,I.tok _,⟨_,rfl⟩,q⟩) b
theorem xU(a:List Value)(n j:Nat)(u:Value):Obj.mapSeq (·.setIfInBounds j u) {cls:=.type "list",data:=.seq a.toArray n}={cls:=.type "list",data:=.seq (a.set j u).toArray n}:=by
 simp[Obj.mapSeq]
theorem Inv.lst{pins:List (Addr×Obj)}{σ:St}{H:Hp}{s:Shared}{p:Addr}{xs:List V}(I:Inv X pins σ H s)(h:H p=some (.lst xs)):
  ∃(a:List Value)(n:Nat),cS xs a/\s.heap.get? p=some {cls:=.type "list",data:=.seq a.toArray n}/\xs.length<=sizeLine:=by
 obtain⟨z,a,n,r,e⟩:=I.hok p _ h;exact⟨a,n,r,e,z⟩
theorem Inv.lstUpd{pins:List (Addr×Obj)}{σ:St}{H:Hp}{s:Shared}{p:Addr}{xs ys:List V}{a its':List Value}{n c:Nat}{f:Obj->Obj}(I:Inv X pins σ H s)(h:H p=some (.lst xs))
  (j:s.heap.get? p=some {cls:=.type "list",data:=.seq a.toArray n})(d:f {cls:=.type "list",data:=.seq a.toArray n}={cls:=.type "list",data:=.seq its'.toArray c})(r:cS ys its')(g:ys.length<=sizeLine)(t:Nat):
  Inv X pins σ (upd H p (.lst ys)) {s with heap:=s.heap.update p f,toks:=t}:=by
 have e:(s.heap.update p f).get? p=some {cls:=.type "list",data:=.seq its'.toArray c}:=by
  rw[jf f j (by rw[d]<;>rfl),d]
 refine I.write (x:=p) (e:=p) (by rw[h];trivial) (.inl rfl) (λb u i q=>(b6 _ _ (Ne.symm i)).trans q) ⟨_,e⟩ ?_;exact⟨g,its',c,r,e⟩
def IO:V->V->V->Hp->(Hp->Prop)->Prop:=λo i v H Q=>∃p xs k j,o=.ref p/\i=.int k/\H p=some (.lst xs)/\Dk xs.length k=some j/\Q (upd H p (.lst (xs.set j v)))
theorem BY:JU X IO:=by
 intro pins s σ H o i v ov A u Q I w z m h;obtain⟨p,xs,k,j,rfl,rfl,e,x,q⟩:=h;cases w;obtain⟨t,rfl⟩:=z;obtain⟨a,n,r,c,y⟩:=I.lst e;obtain⟨h1,h2,l,f⟩:=Aa x;have d:=r.length;have hn:=nR;have g:Inv X pins σ (upd H p (.lst (xs.set j v))) {s with heap:=s.heap.update p (Obj.mapSeq (·.setIfInBounds j u))}:=
  I.lstUpd e c (xU a n j u) (r.set m j) (by rw[List.length_set];exact y) s.toks
 by_cases h0:0<=k
 ·have b:k.toNat=j:=by
   rw[seqIndex_of h0 f]at h1;exact Option.some.inj h1
  exact PySem.W.ki_setAt c h0 Qo (by rw[bj,<-d];exact f) (by rw[b];exact⟨_,g,q⟩)
 ·have b:(k+(a.toArray.size:Int)).toNat=j:=by
   rw[seqIndex_neg Qo l]at h1;rw[bj,<-d];exact Option.some.inj h1
  exact PySem.W.ki_setBack c Qo (by rw[bj,<-d];exact l) Qo (by rw[b];exact⟨_,g,q⟩)
theorem so(lo hi:Option Int)(n:Nat):(sliceBounds lo hi none n).1=((HT.sIx n 0 lo:Nat):Int)/\(sliceBounds lo hi none n).2.1=((HT.sIx n n hi:Nat):Int)/\(sliceBounds lo hi none n).2.2=1:=by
 refine⟨?_,?_,rfl⟩
 ·cases lo with
  |none=>simp[sliceBounds,HT.sIx]
  |some i=>
   simp only[sliceBounds,HT.sIx,Option.getD_none,show(1:Int)>0 by decide,if_true];by_cases h:i<0
   ·simp only[h,if_true]<;>omega
   ·simp only[h,if_false]<;>omega
 ·cases hi with
  |none=>simp[sliceBounds,HT.sIx]
  |some i=>
   simp only[sliceBounds,HT.sIx,Option.getD_none,show(1:Int)>0 by decide,if_true];by_cases h:i<0
   ·simp only[h,if_true]<;>omega
   ·simp only[h,if_false]<;>omega
theorem qv(a:List Value)(lo hi:Option Int):slicePick a.toArray lo hi none=((a.drop (HT.sIx a.length 0 lo)).take (HT.sIx a.length a.length hi-HT.sIx a.length 0 lo)).toArray:=by
 obtain⟨h1,h2,b⟩:=so lo hi a.toArray.size;unfold slicePick;rw[h1,h2,b];simp only[sliceRange_one,pick_run,bj]<;>rfl
def KC(K:ah):V->Option Int->Option Int->Hp->VK->Prop:=λx lo hi H Q=>∃a xs,x=.ref a/\SqL K H a xs/\∀p,H p=none->Q (.ref p) (upd H p (.lst (kQ xs lo hi)))
theorem Em:Kd X (KC X.K):=by
 intro pins s σ H x v m l lo hi n Q I k f pl g h;obtain⟨a,xs,rfl,j,q⟩:=h;cases k;obtain⟨e,r,d,i⟩:=I.list j;have c:=r.length;refine⟨"list",_,slot_list_getitem.lookup,d.isList.typeIs,?_⟩;refine Bh d.isList f pl g .none Qs ?_ (by rw[bj]<;>omega);rw[qv,<-c];refine⟨.ref s.heap.objs.size,_,I.laid (t':=s.toks) (o:=.lst (kQ xs lo hi)) (λb p q=>aE _ q) (ao _) ?_,rfl,q _ (I.hok.fresh (ao _))⟩;exact⟨af (ow xs lo hi) i,_,0,(r.drop (HT.sIx xs.length 0 lo)).take (HT.sIx xs.length xs.length hi-HT.sIx xs.length 0 lo),bJ _ rfl⟩
def nq:V->Bool
 |.non=>true
 |.bl _=>true
 |.int _=>true
 |.str _=>true
 |_=>false
def F_:V->V->Bool
 |.non,.non=>true
 |.bl a,.bl b=>a==b
 |.bl a,.int b=>(if a then 1 else 0)==b
 |.int a,.bl b=>a==(if b then 1 else 0)
 |.int a,.int b=>a==b
 |.str a,.str b=>a==b
 |_,_=>false
theorem HN{A:Around}{s:Shared}{y x:V}{u v:Value}(e:dc y u)(c:dc x v)(f:nq y=true)(d:nq x=true):SeqAt.EqAt A s u v (F_ y x):=by
 cases y with
 |non=>
  cases e;cases x with
  |non=>cases c;exact SeqAt.EqAt.same _
  |bl b=>cases c;exact SeqAt.EqAt.none_bool b
  |int b=>obtain⟨t,rfl⟩:=c;exact SeqAt.EqAt.none_int b t
  |str b=>obtain⟨t,rfl⟩:=c;exact SeqAt.EqAt.none_str b t
  |_=>exact absurd (show false=true from d) ba
 |bl a=>
  cases e;cases x with
  |non=>cases c;exact SeqAt.EqAt.bool_none a
  |bl b=>cases c;exact SeqAt.EqAt.bool_bool a b
  |int b=>obtain⟨t,rfl⟩:=c;exact SeqAt.EqAt.bool_int a b t
  |str b=>obtain⟨t,rfl⟩:=c;exact SeqAt.EqAt.bool_str a b t
  |_=>exact absurd (show false=true from d) ba
 |int a=>
  obtain⟨t',rfl⟩:=e;cases x with
  |non=>cases c;exact SeqAt.EqAt.int_none a t'
  |bl b=>cases c;exact SeqAt.EqAt.int_bool a t' b
  |int b=>obtain⟨t,rfl⟩:=c;exact SeqAt.EqAt.int_int a t' b t
  |str b=>obtain⟨t,rfl⟩:=c;exact SeqAt.EqAt.int_str a t' b t
  |_=>exact absurd (show false=true from d) ba
 |str a=>
  obtain⟨t',rfl⟩:=e;cases x with
  |non=>cases c;exact SeqAt.EqAt.str_none a t'
  |bl b=>cases c;exact SeqAt.EqAt.str_bool a t' b
  |int b=>obtain⟨t,rfl⟩:=c;exact SeqAt.EqAt.str_int a t' b t
  |str b=>obtain⟨t,rfl⟩:=c;exact SeqAt.EqAt.str_str a t' b t
  |_=>exact absurd (show false=true from d) ba
 |_=>exact absurd (show false=true from f) ba
def yC(x:V)(u:Value):Bool:=match u with
 |.none=>F_ .non x
 |.bool b=>F_ (.bl b) x
 |.int i _=>F_ (.int i) x
 |.str z _=>F_ (.str z) x
 |_=>false
theorem Dx{x y:V}{u:Value}(r:dc y u)(f:nq y=true):yC x u=F_ y x:=by
 cases y with
 |non=>cases r;rfl
 |bl b=>cases r;rfl
 |int i=>obtain⟨t,rfl⟩:=r;rfl
 |str z=>obtain⟨t,rfl⟩:=r;rfl
 |_=>exact absurd (show false=true from f) ba
theorem nv{x:V}:∀{xs:List V}{us:List Value},cS xs us->xs.all nq=true->us.any (yC x)=xs.any λy=>F_ y x
 |_,_,.nil,_=>rfl
 |y::xs,u::us,.cons r t,f=>by
  rw[List.all_cons,bc]at f;rw[List.any_cons,List.any_cons,Dx r f.1,nv t f.2]
theorem ls{A:Around}{s:Shared}{x:V}{v:Value}(c:dc x v)(b:nq x=true):∀{xs:List V}{us:List Value},cS xs us->xs.all nq=true->∀u∈us,SeqAt.EqAt A s u v (yC x u)
 |_,_,.nil,_=>λu a=>by cases a
 |y::xs,u::us,.cons r t,f=>λd a=>by
  rw[List.all_cons,bc]at f;rcases aq.mp a with rfl|a
  ·rw[Dx r f.1];exact HN r c f.1 b
  ·exact ls c b t f.2 d a
def tR(x:V)(xs:List V):Bool:=xs.any λy=>F_ y x
def KG(K:ah)(neg:Bool):R2:=λx y H Q=>∃p xs,y=.ref p/\(SqL K H p xs\/SqT K H p xs)/\nq x=true/\xs.all nq=true/\Q (.bl (if neg then !tR x xs else tR x xs)) H
theorem iD:ml X (compareOp .In) (KG X.K false):=by
 intro pins s σ H x y v u Q I c e h;obtain⟨p,xs,rfl,b,d,fs,q⟩:=h;cases e;rcases b with b|b
 ·obtain⟨a,r,pl,f⟩:=I.list b;refine SeqAt.in_listAt (yC x) pl.isList (λw hw=>ls c d r fs w (by simpa using hw)) ⟨.bl _,H,I,rfl,?_⟩;rw[show a.toArray.any (yC x)=a.any (yC x)by simp,nv r fs];exact q
 ·obtain⟨a,r,pl,f⟩:=I.tuple b;refine SeqAt.in_tupleAt (yC x) pl (λw hw=>ls c d r fs w (by simpa using hw)) ⟨.bl _,H,I,rfl,?_⟩;rw[show a.toArray.any (yC x)=a.any (yC x)by simp,nv r fs];exact q
theorem mX:ml X (compareOp .NotIn) (KG X.K true):=by
 intro pins s σ H x y v u Q I c e h;obtain⟨p,xs,rfl,b,d,fs,q⟩:=h;cases e;rcases b with b|b
 ·obtain⟨a,r,pl,f⟩:=I.list b;refine SeqAt.notIn_listAt (yC x) pl.isList (λw hw=>ls c d r fs w (by simpa using hw)) ⟨.bl _,H,I,rfl,?_⟩;rw[show a.toArray.any (yC x)=a.any (yC x)by simp,nv r fs];exact q
 ·obtain⟨a,r,pl,f⟩:=I.tuple b;refine SeqAt.notIn_tupleAt (yC x) pl (λw hw=>ls c d r fs w (by simpa using hw)) ⟨.bl _,H,I,rfl,?_⟩;rw[show a.toArray.any (yC x)=a.any (yC x)by simp,nv r fs];exact q
theorem eL:iM X (.builtin "len") (λxs H Q=>∃p ys,xs=[.ref p]/\(SqL X.K H p ys\/SqT X.K H p ys)/\Q (.int ys.length) H):=by
 intro pins s σ H xs us Q I r h;obtain⟨p,ys,rfl,b,q⟩:=h;obtain⟨u,rfl,f⟩:=kG r;cases f;have hn:=nR;rcases b with b|b
 ·obtain⟨c,d,pl,e⟩:=I.list b;have a:=d.length;exact Calls.call_len_list pl.isList (by simp only[bj]<;>omega) ⟨.int ys.length,H,I.tok _,⟨s.toks+1,by rw[bj,a]⟩,q⟩
 ·obtain⟨c,d,pl,e⟩:=I.tuple b;have a:=d.length;exact len_tuple pl (by simp only[bj]<;>omega) ⟨.int ys.length,H,I.tok _,⟨s.toks+1,by rw[bj,a]⟩,q⟩
theorem cP:iM X (.builtin "len") (λxs H Q=>∃z,xs=[.str z]/\z.length<=sizeLine/\Q (.int z.length) H):=by
 intro pins s σ H xs us Q I r h;obtain⟨z,rfl,a,q⟩:=h;obtain⟨u,rfl,t,rfl⟩:=kG r;have hn:=nR;exact len_str Qo ⟨.int z.length,H,I.tok _,⟨_,rfl⟩,q⟩
theorem qz:iM X (.type "tuple") (λxs H Q=>∃p ys,xs=[.ref p]/\((SqL X.K H p ys/\∀l,H l=none->Q (.ref l) (upd H l (.tup ys)))\/(SqT X.K H p ys/\Q (.ref p) H))):=by
 intro pins s σ H xs us Q I r h;obtain⟨p,ys,rfl,h⟩:=h;obtain⟨u,rfl,k⟩:=kG r;cases k;rcases h with⟨c,q⟩|⟨c,q⟩
 ·obtain⟨a,d,pl,i⟩:=I.list c;have g:=d.length;refine call_tuple_list pl.isList (λh' kp=>?_) (by simp only[bj]<;>omega);have f:Inv X pins σ H {s with heap:=h'}:=I.kept (t':=s.toks) kp;have j:Inv X pins σ (upd H h'.objs.size (.tup ys)) {s with heap:=h'.push {cls:=.type "tuple",data:=.seq a.toArray}}:=
   f.laid (t':=s.toks) (λb o e=>aE _ e) (ao _) (show gf X.prog X.w _ _ _ (.tup ys)from⟨i,a,d,IsTup.new _ _⟩)
  exact⟨.ref h'.objs.size,_,j,rfl,q _ (f.hok.fresh (ao _))⟩
 ·obtain⟨a,d,pl,i⟩:=I.tuple c;exact call_tuple_same pl ⟨.ref p,H,I,rfl,q⟩
def Lj(K:ah)(T:String)(x:V)(H:Hp):Prop:=match x with
 |.str _=>T="str"
 |.int _=>T="int"
 | .ref p=>(T="list"/\∃xs,SqL K H p xs)\/(T="tuple"/\∃o,K.lookup p=some o/\o.cls=.type "tuple"/\o.dict=none)\/
   (T="dict"/\((∃a,H p=some (.dK a))\/∃a,H p=some (.dT a)))\/(T="set"/\∃S n,H p=some (.set S n))
 |_=>False
theorem Bz{pins:List (Addr×Obj)}{σ:St}{H:Hp}{s:Shared}{T:String}{x:V}{v:Value}(I:Inv X pins σ H s)(r:dc x v)(ty:Lj X.K T x H):
  s.TypeIs v T/\∀a,v=.ref a->∃g,s.heap.get? a=some g/\g.dict=none:=by
 cases x with
 |str z=>
  obtain⟨t,rfl⟩:=r;cases(show T="str"from ty);exact⟨typeIs_str s z t,λ_ e=>nomatch e⟩
 |int i=>
  obtain⟨t,rfl⟩:=r;cases(show T="int"from ty);exact⟨typeIs_int s i t,λ_ e=>nomatch e⟩
 |ref p=>
  cases r;rcases ty with⟨rfl,xs,hq⟩|⟨rfl,o,b,hc,hd⟩|⟨rfl,b⟩|⟨rfl,S,n,b⟩
  ·obtain⟨h,_,pl,_⟩:=I.list hq;refine⟨pl.isList.typeIs,λa e=>?_⟩;cases e;obtain⟨o,n,e,c,hd,_⟩:=pl;exact⟨o,e,hd⟩
  ·refine⟨⟨o,I.kIn p o b,hc⟩,λa e=>?_⟩;cases e;exact⟨o,I.kIn _ o b,hd⟩
  ·have z:∃o,s.heap.get? p=some o/\o.ExactDict:=by
    rcases b with⟨d,b⟩|⟨d,b⟩
    ·obtain⟨_,_,_,_,o,_,_,e,ex,_⟩:=I.hok p _ b;exact⟨o,e,ex⟩
    ·obtain⟨_,_,_,_,o,_,_,e,ex,_⟩:=I.hok p _ b;exact⟨o,e,ex⟩
   obtain⟨o,e,ex⟩:=z;refine⟨⟨o,e,ex.1⟩,λa f=>?_⟩;cases f;exact⟨o,e,ex.2.1⟩
  ·obtain⟨o,_,_,_,e,ex,_⟩:=I.hok p _ b;refine⟨⟨o,e,ex.1⟩,λa f=>?_⟩;cases f;exact⟨o,e,ex.2.1⟩
 |_=>exact False.elim ty
def Lr(K:ah)(T:String)(r:V->List V->Hp->VK->Prop)(to:TE)(t:TA):TE:=λσ H Q=>to σ H λx H1=>Lj K T x H1/\t σ H1 λxs H2=>r x xs H2 Q
variable{o e:Expr}{es:List Expr}{to:TE}{t:TA}{name:Str}{apos cpos:Pos}{T id:String}{r:V->List V->Hp->VK->Prop}
theorem dW(q:PlainAttrs T)(slot:Slot T name id)(f:typeOf (.builtin id)=pure (.type "method_descriptor"))(y:JW X id r)(w:PE X o to)(p:PA X (e::es) t)
  (b:attributeBase o name X.env (eval o X.env)=eval o X.env:=by rfl)
  (d:((backTo cpos (starEach (e::es) X.env)).all (λx=>!x.1)&&(backToKw cpos (keywordEach [] X.env)).all (λx=>x.1.isSome)
   &&decide ((e::es).length +([]:List Keyword).length +(if([]:List Keyword).isEmpty then 0 else 1)<30))=true:=by rfl)
  (c:(apos.endLine==cpos.line)=true:=by rfl) (l:starEach (e::es) X.env=(false,eval e X.env)::starEach es X.env:=by rfl) (a:(backTo cpos (starEach es X.env)).any (·.1)=false:=by rfl):
  PE X (.Call (.Attribute o name apos) (e::es) [] cpos) (Lr X.K T r to t):=by
 intro pins s σ H Q I h;refine DS b d c rfl (dL (w pins s σ H _ I h) λv s1⟨x,H1,g,i,ty,k⟩=>?_);obtain⟨h1,h2⟩:=Bz g i ty;refine⟨T,id,q,slot,f,h1,h2,?_⟩;have j:=p cpos pins s1 σ H1 _ g k;rw[l]at j⊢;refine Calls.callWith_builtin (by show(false||(backTo cpos (starEach es X.env)).any (·.1))=false;rw[a]<;>rfl) (Calls.evalArgs_plain ?_);exact dL j λus u⟨vs,H2,m,n,z⟩=>y pins u σ H2 x vs v us Q m i n z
end
def LO(X:Cx)(id:String)(r:V->List V->Hp->VK->Prop):Prop:=
 ∀(pins:List (Addr×Obj))(s:Shared)(σ:St)(H:Hp)(x:V)(xs:List V)(v:Value)(us:List Value)(Q:VK),Inv X pins σ H s->dc x v->cS xs us->r x xs H Q->
  wpAny (model X.prog X.w) X.A (call (.builtin id) (v::us)) (EP X pins σ Q) X.xe s
theorem cS.one:∀{x:V}{us:List Value},cS [x] us->∃u,us=[u]/\dc x u
 |_,_,.cons r .nil=>⟨_,rfl,r⟩
section
variable{X:Cx}{pins:List (Addr×Obj)}{σ:St}{H:Hp}{s:Shared}{l b:Addr}{xs ys zs:List V}
theorem Inv.lset{a its':List Value}{n:Nat}{f:Array Value->Array Value}{t':Nat}(I:Inv X pins σ H s)(c:H l=some (.lst xs))
  (e:s.heap.get? l=some {cls:=.type "list",data:=.seq a.toArray n})(d:f a.toArray=its'.toArray)(b:cS ys its')(h:ys.length<=sizeLine):
  Inv X pins σ (upd H l (.lst ys)) {s with heap:=s.heap.update l (Obj.mapSeq f),toks:=t'}:=by
 have q:=PySem.IsL.update e f;rw[d]at q;refine I.write (x:=l) (e:=l) (by rw[c];exact trivial) (.inl rfl) (λj u g i=>(b6 s.heap (Obj.mapSeq f) (Ne.symm g)).trans i) ⟨_,q⟩ ?_;exact⟨h,its',_,b,q⟩
theorem Inv.lnew{a:List Value}{t':Nat}(I:Inv X pins σ H s)(b:cS ys a)(c:ys.length<=sizeLine):
  Inv X pins σ (upd H s.heap.objs.size (.lst ys)) {s with heap:=s.heap.push {cls:=.type "list",data:=.seq a.toArray},toks:=t'}:=
 I.laid (λ_ _ q=>aE _ q) (ao _) ⟨c,a,0,b,bJ _ rfl⟩
theorem Inv.fresh(I:Inv X pins σ H s):H s.heap.objs.size=none:=I.hok.fresh (ao _)
theorem Inv.lstM(I:Inv X pins σ H s)(b:H l=some (.lst xs)):xs.length<=sizeLine/\∃(a:List Value)(n:Nat),cS xs a/\xs.length=a.length/\s.heap.get? l=some {cls:=.type "list",data:=.seq a.toArray n}:=by
 obtain⟨z,a,n,r,e⟩:=I.hok l _ b;exact⟨z,a,n,r,r.length,e⟩
end
section
variable{X:Cx}
def EH:V->List V->Hp->VK->Prop:=λx vs H Q=>∃l xs y,x=.ref l/\vs=[y]/\H l=some (.lst xs)/\xs.length<sizeLine/\Q .non (upd H l (.lst (xs++[y])))
theorem gA:LO X "list.append" EH:=by
 intro pins s σ H x vs v us Q I f c h;obtain⟨l,xs,y,rfl,rfl,b,g,q⟩:=h;cases f;obtain⟨u,rfl,d⟩:=c.one;obtain⟨z,a,n,r,i,e⟩:=I.lstM b;refine call_meets F.slot_list_append ⟨_,e,rfl⟩ F.entry_list_append (F.args_list_append_2 _ _) (qH l a.toArray n u (by rw[bj];omega)) ⟨e,?_⟩;refine⟨.non,_,I.lset (its':=a++[u]) b e Qs (r.append (.cons d .nil)) ?_,rfl,q⟩;rw[ae,cZ];omega
def KH:R2:=λx y H Q=>∃l b xs zs,x=.ref l/\y=.ref b/\H l=some (.lst xs)/\H b=some (.lst zs)/\xs.length+zs.length<=sizeLine/\∀p,H p=none->Q (.ref p) (upd H p (.lst (xs++zs)))
theorem eR:ml X (binaryOp .Add) KH:=by
 intro pins s σ H x y v u Q I k g h;obtain⟨l,b,xs,zs,rfl,rfl,f,j,t,q⟩:=h;cases k;cases g;obtain⟨z,c,n,r,A,e⟩:=I.lstM f;obtain⟨p,a,w,m,i,o⟩:=I.lstM j;refine PySem.P.add_list e o ?_ (by rw[bj,bj];omega);have d:c.toArray++a.toArray=(c++a).toArray:=Qs;rw[d];exact⟨.ref _,_,I.lnew (t':=s.toks) (r.append m) (by rw[ae];omega),rfl,q _ I.fresh⟩
end
section
variable{prog:Program}{w:World}{A:Around}{E:Value->Shared->Prop}{s:Shared}
set_option maxRecDepth 100000 in
end
end L2
namespace Att
open PySem PySem.W PySem.Calls PyProof.Rows
theorem oI{P:Params}{h:Heap}:∀(ns:List Int)(vs:List Value),WellAll P h vs (ns.map WData.int)->IntsAre vs ns:=by
 intro ns;induction ns with
 |nil=>
  intro vs w;rw[List.map_nil]at w;cases w;exact .nil
 |cons n ns c=>
  intro vs w;rw[b7]at w;cases w with
  |cons a b=>
   cases a;exact .cons _ _ (c _ b)
theorem AA{l:OpenLaw}{n:Nat}(hn:l.most=some n){P:Params}{h:Heap}{args:List WData}{c:List Value}
  (b:l.row.toRowW.claim.pre args=true)(k:WellAll P h c args):
  ∃a vs ns,c=[Value.ref a]/\args=[WData.list (ns.map WData.int)]/\h.get? a=some {cls:=.type "list",data:=.seq vs.toArray}/\IntsAre vs ns/\ns.length<=n:=by
 have j:WShape.hasAll [] args [.list .int]=true:=(pre_splitW b).1;have m:l.pre.holds [] {args:=args}=true:=(pre_splitW b).2;obtain⟨d,r,rfl,h1,h2⟩:=hasAllW_cons j;obtain rfl:=hasAllW_nil h2;obtain⟨xs,rfl,s⟩:=hasW_list h1;obtain⟨ns,rfl⟩:=items_int s;have e:ns.length<=n:=by
  unfold OpenLaw.pre at m;have i:(WTm.not (.lt (.lit (.int (n:Int))) (.len (.arg 0)))).holds [] {args:=[.list (ns.map .int)]}=true:=by
   have i:=(holds_andW m).1;rw[hn]at i;exact i
  have g:=condW_of i (w_not (w_lt w_lit (w_len_list (w_arg rfl))));rw[ay]at g;refine Nat.le_of_not_lt λq=>?_;have o:(n:Int)<((ns.length:Nat):Int):=Qo
  first
   |(rw[aH o]at g;exact absurd g Qd)
   |(simp at g;omega)
 cases k with
 |cons w1 w2=>
  cases w2;cases w1 with
  |list p f=>exact⟨_,_,ns,rfl,rfl,p,oI ns _ f,e⟩
theorem AF(l:OpenLaw)(args:List WData):l.row.toRowW.claim.post args (.bool true) args=true:=
 postW_of (r:=l.row.toRowW) (X:=(true==true))
  (show WShape.has [] (.bool true) .bool=true by first|rfl|decide|simp[WShape.has,WShape.arms,WShape.armsAll])
  (show(WTm.eq .res (.lit (.bool true))).value [] {args:=args,res:=some (.bool true),after:=args}=some (.bool (true==true))from w_eq_bool (w_res rfl) w_lit) rfl
theorem v_{l:OpenLaw}{n:Nat}{q:Program}{c:List Str}{A:(Str->Option Value)->Heap->Prop}{y:World->Heap->Prop}{d:DefRec}
  (hn:l.most=some n)(u:d.params.defaults=[])
  (m:∀(w:World)(s₀ b:Shared)(mg mb:Str->Option Value)(i:Addr)(o:Obj)(t p e:Value)(a:Addr)(vs:List Value)(ns:List Int),
   Ground q c [] A w s₀ mg mb b.heap->y w b.heap->
   b.heap.get? i=some o->o.data=.func (docDef d.name d.params d.body d.scope t p e)->b.heap.CodeRec p d.name->mg d.name=some (.ref i)->
   b.heap.get? a=some {cls:=.type "list",data:=.seq vs.toArray}->IntsAre vs ns->ns.length<=n->b.gens=#[]->
   codeAny (model l.prog w) callerA (.call (.ref i) ⟨[.ref a],[]⟩) (λr s'=>r=.ok (.ret (.bool true))/\OldK b.heap s'.heap/\s'.os=b.os/\AllBare s'.gens) b):
  WalkO q c A y l.row.toRowW d [] (λf vs=>PySem.call f vs):=by
 intro w s₀ b mg mb G Y i o t p e E kV J hd s z v F args C N h B H x L;obtain rfl:E=.none:=Dflts.none z u;obtain rfl:kV=.none:=Dflts.noKw z;obtain⟨a,vs,ns,rfl,rfl,k,g,j⟩:=AA hn h x;refine enter_call (codeAny_mono (m w s₀ b mg mb i o t p e a vs ns G Y J (fd_plain hd) s v k g j F) λr s' D=>?_);obtain⟨rfl,h2,M,I⟩:=D;exact⟨.inl ⟨.bool true,.bool true,[],rfl,λ_=>rfl,.bool true,AF l _,λ_=>⟨List.Pairwise.nil,λ_ K=>(nomatch K)⟩⟩,h2,M,I⟩
end Att
namespace L2
open PySem PySem.Spec PyProof.Rows
theorem qR:∀{vs:List Value}{ns:List Int},IntsAre vs ns->cS (ns.map V.int) vs
 |_,_,.nil=>.nil
 |_,_,.cons n t h=>.cons ⟨t,rfl⟩ (qR h)
def Ib(H:Hp):Prop:=∀b,H b=none\/∃o xs,H b=some (.frz o (.lst xs))
theorem Di{P:Program}{w:World}{K:ah}{mg mb:Str->Option Value}{CX:Ar}{k:Nat}{L a:Addr}{fd:FuncData}{x:Str}{sp:Sp}{c:Shared}{vs:List Value}{ns:List Int}
  (Q:K.In c.heap)(t:c.heap.Ns mainGlobals mg)(g:c.heap.Ns builtinsNs mb)(J:∀x:Str,x≠"__name__"->mb x=bootBuiltins x)(y:c.heap.NoLimit)(X:c.gens=#[])
  (E:c.heap.get? a=some {cls:=.type "list",data:=.seq vs.toArray})(hi:IntsAre vs ns)(U:ns.length<=sizeLine)(hr:cF k callerA)
  (F:∀base:Heap,K.In base->base.Ns mainGlobals mg->FnOk P w K mg base CX k L fd [x] sp)(l:∀(s:Shared)(u:Value),BindsTo s fd ⟨[u],[]⟩ [(x,u)])
  (I:∀H:Hp,Ib H->SqL K H a (ns.map V.int)->sp [.ref a] H (λv _=>v=.bl true) λ_ _ _=>False)
  (M:∀H e s',CX [] H c (λ_ _ _=>False) e s'->False):
  codeAny (model P w) callerA (.call (.ref L) ⟨[.ref a],[]⟩) (λr s'=>r=.ok (.ret (.bool true))/\OldK c.heap s'.heap/\s'.os=c.os/\AllBare s'.gens) c:=by
 have T:=qR hi;have p:=hi.length;have j:∀H:Hp,Ib H->SqL K H a (ns.map V.int)->lW P w H c.heap->(∀b,H b≠none->b=a)->(H a≠none->K.lookup a=none)->
   codeAny (model P w) callerA (.call (.ref L) ⟨[.ref a],[]⟩) (λr s'=>r=.ok (.ret (.bool true))/\OldK c.heap s'.heap/\s'.os=c.os/\AllBare s'.gens) c:=by
  intro H S hS hok O Z;have f:∀{b:Addr}{o:Obj},c.heap.get? b=some o->H b=none->(tj c.heap H).get? b=some o:=λe n=>Dn e n;have N:∀{b:Addr}{o:Obj}{es:Array DictEntry}{D:Nat},c.heap.get? b=some o->o.data=.dict es D->H b=none:=λ{b o es D}e d=>by
   cases q:H b with
   |none=>rfl
   |some u=>
    have G:b=a:=O b (by rw[q];simp);subst G;rw[E]at e;cases e;have d':Data.seq vs.toArray _=Data.dict es D:=d;cases d'
  have i:∀{b:Addr}{m:Str->Option Value},c.heap.Ns b m->(tj c.heap H).Ns b m:=λ{b m}⟨o,es,D,e,d,r⟩=>⟨o,es,D,f e (N e d),d,r⟩;have A:K.In (tj c.heap H):=λb o e=>f (Q b o e) (by
   cases q:H b with
   |none=>rfl
   |some u=>
    have G:b=a:=O b (by rw[q];simp);subst G;rw[Z (by rw[q];simp)]at e;cases e)
  have W:Mod K mg (tj c.heap H):=⟨A,i t,⟨mb,i g,J⟩,let⟨mc,h1,h2⟩:=y;⟨mc,i h1,h2⟩⟩;have e0:Env0 P w K mg (tj c.heap H) callerA [] c H:=⟨rfl,W,λb o e=>Ff e,gv (A5 _ _),trivial,λb g=>absurd (show b∈([]:List Addr)from g) Qs,hok,.of_eq X⟩;refine codeAny_mono ((F _ A (i t)).run callerA [] c H ⟨[.ref a],[]⟩ [.ref a] [.ref a] _ _ hr e0 (l c (.ref a)) (.cons rfl .nil) (I H S hS)) λr s' h=>?_;cases r with
  |error e=>exact(M H e s' h).elim
  |ok fl=>
   cases fl with
   |next=>exact False.elim h
   |brk=>exact False.elim h
   |cont=>exact False.elim h
   |ret u=>
    obtain⟨v,H',os,bare,un,B,Y,q⟩:=h;have q':v=.bl true:=q;subst q';obtain rfl:u=Value.bool true:=Y;refine⟨rfl,OldK.of_keep λb o e=>?_,os,bare⟩;cases q:H b with
    |none=>exact un.keep b o e q (by intro z;exact absurd (show b∈([]:List Addr)from z) Qs) Qs
    |some u=>
     rcases S b with z|⟨ob,xs,z⟩
     ·rw[q]at z;cases z
     ·have z2:=un.frzs b ob _ z;obtain⟨R,_⟩:=hok b _ z;obtain⟨e2,_⟩:=B b _ z2;rw[e]at R;cases R;exact e2
 cases hk:K.lookup a with
 |some o=>
  have e:=Q a o hk;rw[E]at e;cases e;refine j (λ_=>none) (λ_=>.inl rfl) (.inr ⟨_,vs.toArray,_,hk,rfl,rfl,rfl,by rw[bj,p];exact U,by simpa using T⟩) (λb u z=>by have C:(none:Option HO)=some u:=z;cases C) (λb z=>absurd rfl z) λz=>absurd rfl z
 |none=>
  refine j (λb=>if b=a then some (.frz {cls:=.type "list",data:=.seq vs.toArray} (.lst (ns.map V.int)))else none) (λb=>?_) (.inl (.inr ⟨{cls:=.type "list",data:=.seq vs.toArray},aO rfl⟩)) (λb u z=>?_) (λb z=>?_) λ_=>hk
  ·by_cases g:b=a
   ·exact .inr ⟨_,_,aO g⟩
   ·exact .inl (aG g)
  ·by_cases g:b=a
   ·have C:=(aO g).symm.trans z;cases C;subst g;exact⟨E,by rw[ay];exact U,vs,_,T,E⟩
   ·have C:=(aG g).symm.trans z;cases C
  ·by_cases g:b=a
   ·exact g
   ·exact absurd (aG g) z
theorem D7{l:wI}{n k:Nat}{q:Program}{c:List Str}{L:(Str->Option Value)->Heap->Prop}{C:World->Heap->Prop}{d:DefRec}{K:Params->ah}{CX:World->Ar}{sp:World->Sp}{x:Str}
  (hn:l.most=some n)(z:n<=sizeLine)(y:d.params.defaults=[])(O:cF k callerA)
  (J:∀(w:World)(h:Heap),C w h->(K w.params).In h)
  (F:∀(w:World)(mg:Str->Option Value)(m:Addr)(h:Heap),(K w.params).In h->h.Ns mainGlobals mg->mg d.name=some (.ref m)->
   ∃fd:FuncData,(∀(s:Shared)(u:Value),BindsTo s fd ⟨[u],[]⟩ [(x,u)])/\
    ∀base:Heap,(K w.params).In base->base.Ns mainGlobals mg->FnOk l.prog w (K w.params) mg base (CX w) k m fd [x] (sp w))
  (t:∀(w:World)(H:Hp)(a:Addr)(ns:List Int),ns.length<=n->Ib H->SqL (K w.params) H a (ns.map V.int)->sp w [.ref a] H (λv _=>v=.bl true) λ_ _ _=>False)
  (p:∀(w:World)(H:Hp)(s:Shared)(e:Value)(s':Shared),CX w [] H s (λ_ _ _=>False) e s'->False):
  PySem.W.WalkO q c L C l.row.toRowW d [] (λf vs=>PySem.call f vs):=by
 refine Att.v_ hn y λw s₀ i mg mb m o S R D a vs ns G Y T hd E A j g b N=>?_;have B:=J w _ Y;obtain⟨fd,M,P⟩:=F w mg m _ B G.T.g A;exact Di B G.T.g G.T.b G.T.builtins G.T.nolimit N j g (af b z) O P M (λH Q I=>t w H a ns b Q I) λH e s'=>p w H i e s'
def oS(s:Stmt)(j:Nat):Stmt:=match s with
 |.ClassDef _ _ _ a _ _ _ _ _ _ _=>a.getD j (.Pass ⟨0,0,0,0⟩)
 |_=>.Pass ⟨0,0,0,0⟩
def gB(s:Stmt):Arguments:=match s with
 |.FunctionDef _ a _ _ _ _ _ _ _ _=>a
 |_=>{posonlyargs:=[],args:=[],vararg:=none,kwonlyargs:=[],kw_defaults:=[],kwarg:=none,defaults:=[]}
def fD(s:Stmt):List Stmt:=match s with
 |.FunctionDef _ _ b _ _ _ _ _ _ _=>b
 |_=>[]
def aU(s:Stmt):Scope:=match s with
 |.FunctionDef _ _ _ _ _ _ a _ _ _=>a
 |_=>{kind:=.function,names:=[],isGenerator:=false,isCoroutine:=false}
abbrev gW:Ar:=λ_ _ _ _ _ _=>False
abbrev E0:XK:=λ_ _ _=>False
theorem zN{X:Cx}:kz gW X E0:=λ_ _ _ _ _ _ _ h=>h.elim
structure fg(K:ah)(x qual:Str)(st:Stmt)(f:Addr)(fd:FuncData):Prop where
 ex:∃(oc:Value)(od:Option Addr)(kV doc pm:Value)(an:Option Addr)(cdv ct:Value)(osl:Array (Option Value)),
  fd=cT x qual (gB st) (fD st) (aU st) .none kV doc pm an cdv ct/\K.lookup f=some ⟨oc,od,.func fd,osl⟩/\gZ K cdv qual=true
 kp:de K (.ref f)=true
section
variable{P:Program}{w:World}{K:ah}{mg:Str->Option Value}{base:Heap}
theorem fg.ok{x qual:Str}{st:Stmt}{f:Addr}{fd:FuncData}{N ps:List Str}{k:Nat}{sp:Sp}(F:fg K x qual st f fd)(S:bD N ps (aU st))(len:∀vs H Q E,sp vs H Q E->vs.length=ps.length)
  (b:∀(a:Value)(A:Around)(outer:List Env)(s:Shared)(H:Hp)(vs:List V)(Q:VK)(E:XK),cF k (A.deeper (envOfC qual (aU st) s.heap.objs.size f a))->sp vs H Q E->
   ∃t,PSs (jA gW P w K mg base N qual (aU st) f a A outer s H E).nox (fD st) t/\t {nx:=λ_ H'=>Q .non H',rt:=Q} (kI N vs) H):FnOk P w K mg base gW (k+1) f fd ps sp:=by
 obtain⟨l,n,kV,e,o,m,a,ct,g,rfl,i,c⟩:=F.ex;refine F9 i c S len λA outer s H vs Q E j d=>?_;obtain⟨t,h,q⟩:=b a A outer s H vs Q E j d;exact⟨t,h.nox,q⟩
theorem fg.binds{x qual:Str}{st:Stmt}{f:Addr}{fd:FuncData}{ps:List Str}(F:fg K x qual st f fd)
  (h:∀(kV a d:Value)(c:Option Addr)(b ct:Value)(us:List Value),us.length=ps.length->bindArgs (cT x qual (gB st) (fD st) (aU st) .none kV a d c b ct) ⟨us,[]⟩=pure (ps.zip us)):i8 K fd ps []:=by
 obtain⟨i,k,kV,a,d,c,b,ct,g,rfl,j,e⟩:=F.ex;exact .all (h kV a d c b ct)
theorem xZ{x qual:Str}{st:Stmt}{f:Addr}{i:Value}{h e:Option Addr}{d:Array (Option Value)}{kV b g a ct:Value}(l:K.lookup f=some ⟨i,h,.func (cT x qual (gB st) (fD st) (aU st) .none kV b g e a ct),d⟩)
  (c:gZ K a qual=true)(k:de K (.ref f)=true):fg K x qual st f (cT x qual (gB st) (fD st) (aU st) .none kV b g e a ct):=⟨⟨i,h,kV,b,g,e,a,ct,d,rfl,l,c⟩,k⟩
end
section
variable{X:Cx}
theorem pv(i:Nat){x:Str}{pos:Pos}(c:X.N[i]?=some x:=by rfl)(b:K6 X.env.scope x:=by first|exact aN rfl|exact yP (aN rfl)|exact yP (yP rfl))(hd:(x==("__debug__":Str))=false:=by decide)
  (a:(x==("__classdict__":Str))=false:=by decide):PE X (.Name x pos) (Gr i):=GR c b hd a
end
theorem eZ{A B:Prop}(h:B):if false=true then A else B:=by
 rw[aG ba];exact h
theorem eT{A B:Prop}(h:A):if true=true then A else B:=by
 rw[aO rfl];exact h
theorem eG{c A B:Prop}[Decidable c](h1:c->A)(h2:¬c->B):if c then A else B:=by
 by_cases h:c
 ·rw[aO h];exact h1 h
 ·rw[aG h];exact h2 h
def al(H H':Hp):Prop:=∀b o,H b=some o->H' b=some o
theorem al.refl(H:Hp):al H H:=λ_ _ h=>h
theorem al.trans{H H1 H2:Hp}(a:al H H1)(b:al H1 H2):al H H2:=λc o h=>b c o (a c o h)
theorem al.seq{K:ah}{H H':Hp}{a:Addr}{xs:List V}(e:al H H')(h:SqL K H a xs):SqL K H' a xs:=by
 rcases h with(h|⟨o,h⟩)|h
 ·exact .inl (.inl (e _ _ h))
 ·exact .inl (.inr ⟨o,e _ _ h⟩)
 ·exact .inr h
end L2
set_option maxHeartbeats 4000000
namespace L2
open PySem PySem.Spec PyProof.Rows
section
variable{prog:Program}{w:World}{A:Around}{R:Result->Shared->Prop}{s:Shared}
theorem vU{elt a iter:Expr}{ifs:List Expr}{scope:Scope}{pos:Pos}{it k:Value}{env:Env}(I:Nat->Shared->Prop)
  (t:∀n s,I n s->wpAny (model prog w) A (pyNext it) (λr b=>match r with
   |none=>R (.ok .next) b
   | some v=>wpAny (model prog w) A (letOwnedTupleGo a it v) (λ_ s₀=>wpAny (model prog w) A (assign a env v) (λ_ i=>
     wpAny (model prog w) A (forIn ifs true λc r=>if r=true then do let ok<-isTrue c env (eval c env);pure (ForInStep.yield ok)else pure (ForInStep.yield r)) (λok d=>
      if ok=true then wpAny (model prog w) A (eval elt env) (λx f=>
       wpAny (model prog w) A (call (.builtin "list.append") [k,x]) (λ_ j=>∃m,m<n/\I m j) (λ_ _=>False) f) (λ_ _=>False) d
      else∃m,m<n/\I m d) (λ_ _=>False) i) (λ_ _=>False) s₀) (λ_ _=>False) b) (λ_ _=>False) s)
  (n:Nat) (h:I n s):
  codeAny (model prog w) A (.compLoop (.ListComp elt [⟨a,iter,ifs,0⟩] scope pos) 0 it k env) R s:=by
 refine codeAny_loop rfl I (λn s u=>?_) n h;show wpAny _ A ((compTurn (.ListComp elt [⟨a,iter,ifs,0⟩] scope pos) 0 it k env).onRaise (λx=>do noteFrame x env;theTreesLotGoes x)) _ _ s;refine wpAny_noted ?_;rw[compTurn_list];refine az (lI (az (bX (t n s u) (λr b e=>?_) λ_ _ h'=>h'.elim)));cases r with
 |none=>exact bd e
 |some v=>
  refine az (bX e (λ_ s₀ l=>?_) λ_ _ h'=>h'.elim);refine az (bX l (λ_ i q=>az (bX q (λok d g=>?_) λ_ _ h'=>h'.elim)) λ_ _ h'=>h'.elim);cases ok with
  |false=>exact bd ⟨rfl,g⟩
  |true=>
   exact az (az (bX g (λx f o=>az (bX o (λ_ j p=>bd (bd ⟨rfl,p⟩)) λ_ _ h'=>h'.elim)) λ_ _ h'=>h'.elim))
end
theorem mz{scope:Scope}{env:Env}(f:∀y∈scope.names,y.2=.free->∃c,env.cells.lookup y.1=some c):
  ∃cl,closureFor scope env=pure cl/\(∀x c,cl.lookup x=some c->env.cells.lookup x=some c)/\(∀y∈scope.names,y.2=.free->∃c,cl.lookup y.1=some c):=by
 have key:∀(l:List (Str×NameKind))(a:List (Str×Addr)),(∀y∈l,y.2=.free->∃c,env.cells.lookup y.1=some c)->(∀x c,a.lookup x=some c->env.cells.lookup x=some c)->
   ∃cl,(forIn (m:=Sem) l a (λ(y:Str×NameKind)cs=>if(y.2== .free)=true then do let c<-cellOf env y.1;pure (ForInStep.yield ((y.1,c)::cs))else pure (ForInStep.yield cs)))=pure cl/\
    (∀x c,cl.lookup x=some c->env.cells.lookup x=some c)/\(∀x,(∃c,a.lookup x=some c)->∃c,cl.lookup x=some c)/\(∀y∈l,y.2=.free->∃c,cl.lookup y.1=some c):=by
  intro l;induction l with
  |nil=>intro a _ q;exact⟨a,rfl,q,λ_ h=>h,λ_ h=>nomatch h⟩
  |cons p r v=>
   intro a u q;obtain⟨n,k⟩:=p;by_cases s:k=.free
   ·subst s;obtain⟨c,w⟩:=u (n,.free) aA rfl;have t:∀x d,((n,c)::a).lookup x=some d->env.cells.lookup x=some d:=λx d e=>by
     rw[cD]at e;cases hx:x==n with
     |true=>
      rw[hx]at e;rw[eq_of_beq hx,w];exact e
     |false=>
      rw[hx]at e;exact q x d e
    obtain⟨cl,i,j,o,g⟩:=v ((n,c)::a) (λy b=>u y (aB _ b)) t;refine⟨cl,?_,j,λx⟨d,e⟩=>o x ?_,λy b f=>?_⟩
    ·rw[jP];simp only[beq_self_eq_true,if_true,cellOf,w,pure_bind];exact i
    ·rw[cD];cases hx:x==n with
     |true=>exact⟨c,rfl⟩
     |false=>exact⟨d,e⟩
    ·rcases aq.mp b with rfl|b
     ·exact o _ ⟨c,Qs⟩
     ·exact g y b f
   ·have z:(k==NameKind.free)=false:=by simpa using s
    obtain⟨cl,i,j,o,g⟩:=v a (λy b=>u y (aB _ b)) q;refine⟨cl,?_,j,o,λy b f=>?_⟩
    ·rw[jP];simp only[z,eB,if_false,pure_bind];exact i
    ·rcases aq.mp b with rfl|b
     ·exact absurd f s
     ·exact g y b f
 obtain⟨cl,i,j,_,g⟩:=key scope.names [] f (λ_ _ h=>by simp at h);refine⟨cl,?_,j,g⟩;unfold closureFor;show(forIn scope.names [] _>>=λr=>pure r)=pure cl;rw[bind_pure];exact i
theorem mS{scope:Scope}{env:Env}{x:Str}:∀{names:List (Str×NameKind)},
    ((names.map λ(n,k)=>if(k==NameKind.free&&env.scope.kind== .function &&env.kindOf n==some .cell)then(n,NameKind.cell)else(n,k)).lookup x=some .cell \/
     (names.map λ(n,k)=>if(k==NameKind.free&&env.scope.kind== .function &&env.kindOf n==some .cell)then(n,NameKind.cell)else(n,k)).lookup x=some .free)->
    (∃y∈names,y.1=x/\(y.2=.free \/y.2=.cell))
  |[],h=>by rcases h with h|h<;>simp at h
  | (n,k)::r,h=>by
    by_cases b:x=n
    · subst b
      refine⟨(x,k),aA,rfl,?_⟩;by_cases a:(k==NameKind.free&&env.scope.kind== .function &&env.kindOf x==some .cell)=true
      · have:=(fN.mp (fN.mp a).1).1
        exact .inl (by simpa using this)
      · simp only[b7,a,eB,if_false,cD,beq_self_eq_true]at h
        rcases h with h|h
        ·exact .inr (Option.some.inj h)
        ·exact .inl (Option.some.inj h)
    · have c:(x==n)=false:=by simpa using b
      have h':((r.map λ(n,k)=>if(k==NameKind.free&&env.scope.kind== .function &&env.kindOf n==some .cell)then(n,NameKind.cell)else(n,k)).lookup x=some .cell \/
        (r.map λ(n,k)=>if(k==NameKind.free&&env.scope.kind== .function &&env.kindOf n==some .cell)then(n,NameKind.cell)else(n,k)).lookup x=some .free):=by
        rw[b7]at h;by_cases a:(k==NameKind.free&&env.scope.kind== .function &&env.kindOf n==some .cell)=true
        ·simp only[a,if_true,cD,c]at h;exact h
        ·simp only[a,eB,if_false,cD,c]at h;exact h
      obtain⟨y,d,e⟩:=mS (scope:=scope) h';exact⟨y,aB _ d,e⟩
def mi(σ:St)(js:List Nat):St:=js.map λj=>(σ[j]?).getD none
def dI(X:Cx)(N:List Str)(scope:Scope)(cl:List (Str×Addr))(s:Shared)(H:Hp)(ex:List Addr):Cx:=
 {X with N:=N,s₀:=s,H₀:=H,env:=compEnvC scope cl s.heap.objs.size X.env,outer:=X.stack,stack:=X.stack,ex:=ex,fn:=λ_=>false,pn:=[],xe:=λ_ _=>False}
def PTs(X:Cx)(ifs:List Expr)(t:TT):Prop:=
 ∀(pins:List (Addr×Obj))(s:Shared)(σ:St)(H:Hp)(Q:Bool->Hp->Prop),Inv X pins σ H s->t σ H Q->
  wpAny (model X.prog X.w) X.A (forIn ifs true λc r=>if r=true then do let ok<-isTrue c X.env (eval c X.env);pure (ForInStep.yield ok)else pure (ForInStep.yield r)) (TP X pins σ Q) X.xe s
def Ee:TT:=λ_ H Q=>Q true H
theorem jI{X:Cx}:PTs X [] Ee:=λ_ _ _ H _ I h=>bd ⟨H,I,h⟩
theorem sJ{X:Cx}{c:Expr}{t:TT}(h:PT X c t):PTs X [c] t:=λpins s σ H Q I q=>wpAny_tests_one (h pins s σ H Q I q)
def DF(b:List Str)(a scope:Scope)(N:List Str)(xs:Nat)(js:List Nat):Bool:=
 scope.kind== .function &&(scope.names.all λy=>y.2 != .cell)&&(scope.names.all λy=>y.2 != .local ||scope.names.lookup y.1==some .local)&&
 (scope.names.all λy=>y.2 != .free ||(a.names.lookup y.1==some .cell ||a.names.lookup y.1==some .free))&&N.length==xs+js.length&&
 (List.range js.length).all λi=>match js[i]?,N[xs+i]? with
  |some j,some x=>b[j]? ==some x&&scope.names.lookup x==some .free
  |_,_=>false
structure h_(X:Cx)(scope:Scope)(N:List Str)(xs:Nat)(js:List Nat):Prop where
 kind:scope.kind=.function
 nocell:∀y∈scope.names,y.2≠ .cell
 once:∀y∈scope.names,y.2=.local->scope.names.lookup y.1=some .local
 caught:∀y∈scope.names,y.2=.free->X.env.kindOf y.1=some .cell \/X.env.kindOf y.1=some .free
 len:N.length=xs+js.length
 at_:∀(i j:Nat)(x:Str),js[i]?=some j->N[xs+i]?=some x->X.N[j]?=some x/\scope.names.lookup x=some .free
theorem dD{X:Cx}{scope:Scope}{N:List Str}{xs:Nat}{js:List Nat}(h:DF X.N X.env.scope scope N xs js=true):h_ X scope N xs js:=by
 unfold DF at h;simp only[bc]at h;obtain⟨⟨⟨⟨⟨h1,h2⟩,k⟩,d⟩,c⟩,f⟩:=h;refine⟨by simpa using h1,λy a=>?_,λy a e=>?_,λy a e=>?_,by simpa using c,λi j x b g=>?_⟩
 ·have:=bw.mp h2 y a;simpa using this
 ·have:=bw.mp k y a;rw[e]at this;simpa using this
 ·have:=bw.mp d y a;rw[e]at this;simpa[Env.kindOf]using this
 ·have hi:i<js.length:=(b8.mp b).1;have:=bw.mp f i (eM.mpr hi);rw[b,g]at this;simpa using this
theorem p_{a:Type}{x:Str}{k:a}:∀{l:List (Str×a)},l.lookup x=some k->(x,k)∈l
 |[],h=>by simp at h
 |(n,j)::r,h=>by
  rw[cD]at h;cases hx:x==n with
  |true=>
   rw[hx]at h;cases h;rw[eq_of_beq hx];exact aA
  |false=>
   rw[hx]at h;exact aB _ (p_ h)
theorem mT{env:Env}{x:Str}:∀{names:List (Str×NameKind)},names.lookup x=some .free ->
    ((names.map λ(n,k)=>if(k==NameKind.free&&env.scope.kind== .function &&env.kindOf n==some .cell)then(n,NameKind.cell)else(n,k)).lookup x=some .cell \/
     (names.map λ(n,k)=>if(k==NameKind.free&&env.scope.kind== .function &&env.kindOf n==some .cell)then(n,NameKind.cell)else(n,k)).lookup x=some .free)
  |[],h=>by simp at h
  | (n,k)::r,h=>by
    rw[b7];cases hx:x==n with
    | true=>
      rw[cD,hx]at h;cases h;by_cases a:(NameKind.free==NameKind.free&&env.scope.kind== .function &&env.kindOf n==some .cell)=true
      ·left;simp only[a,if_true,cD,hx]
      ·right;simp only[a,eB,if_false,cD,hx]
    | false=>
      rw[cD,hx]at h;have b:=mT (env:=env) h;by_cases a:(k==NameKind.free&&env.scope.kind== .function &&env.kindOf n==some .cell)=true
      ·simp only[a,if_true,cD,hx];exact b
      ·simp only[a,eB,if_false,cD,hx];exact b
section
variable{X:Cx}{pins:List (Addr×Obj)}{σ:St}{H:Hp}{s:Shared}{scope:Scope}{N:List Str}{xs:Nat}{js:List Nat}{cl:List (Str×Addr)}{fp:List Addr}{o:Obj}
theorem Inv.nostk(I:Inv X pins σ H s){a:Addr}(h:s.heap.objs.size<=a):a∉je X.stack:=λb=>by
 rcases aq.mp (I.stkSub a b)with e|b
 ·exact absurd (bo I.lt h) (by rw[e];exact dw _)
 ·exact I.nofs h b
theorem FH(I:Inv X pins σ H s)(S:h_ X scope N xs js)(h2:∀x c,cl.lookup x=some c->X.env.cells.lookup x=some c)(p:∀y∈scope.names,y.2=.free->∃c,cl.lookup y.1=some c)
  (h:∀b∈fp,jy X pins H b)(i:∀b∈fp,∃u,s.heap.get? b=some u):
  (dI X N scope cl {s with heap:=s.heap.push o} H (s.heap.objs.size::fp)).Ok:=by
 have g:Inv X pins σ H {s with heap:=s.heap.push o}:=I.kept (t':=s.toks) λb u e=>aE _ e;have f:(s.heap.push o).objs.size=s.heap.objs.size+1:=dQ ..;have j:∀x c,cl.lookup x=some c->c<s.heap.objs.size:=λx c e=>by
  obtain⟨v,u,k,_⟩:=I.cell x c (h2 x c e);exact aV k
 refine⟨I.ok.mod,S.kind,I.ok.glob,I.ok.blt,ao _,λx y c n q=>I.ok.inj x y c (h2 x c n) (h2 y c q),λx m=>?_,λx c e _=>absurd e (by simp[dI]),I.ok.hd,I.ok.frames,.inl rfl,λb a=>?_,g.bs,af g.ok.bsz g.sz,
  λb u e a=>?_,λb a=>?_,g.stack,g.stkFree⟩
 ·obtain⟨y,l,rfl,d⟩:=mS (scope:=scope) (env:=X.env) (x:=x) (names:=scope.names) m;rcases d with d|d
  ·exact p y l d
  ·exact absurd d (S.nocell y l)
 ·show b≠(s.heap.push o).objs.size/\_;rcases aq.mp a with rfl|a
  ·exact⟨by rw[f];exact bF (f7 _),λx c e=>bF (j x c e)⟩
  ·obtain⟨u,k⟩:=i b a;have:=aV k;exact⟨by rw[f];exact bF (qL this),λx c e=>(h b a).2.2.2.2.1 x c (h2 x c e)⟩
 ·rcases aq.mp a with rfl|a
  ·exact absurd (aV (I.bk _ u e)) (dw _)
  ·rcases(h b a).2.2.2.1 with z|z
   ·exact I.ok.noex b u e z
   ·exact absurd (bo (aV e) (af I.ok.bsz z)) (dw _)
 ·rcases aq.mp a with rfl|a
  ·exact I.nostk (ao _)
  ·intro z;rcases aq.mp (I.stkSub b z)with e|e
   ·exact(h b a).2.1 e
   ·exact(h b a).2.2.1 e
theorem qx{i:Nat}{v:V}(h:(List.replicate xs none++mi σ js)[i]?=some (some v)):∃k j,i=xs+k/\js[k]?=some j/\σ[j]?=some (some v):=by
 by_cases hi:i<xs
 ·rw[ii (by simpa using hi)]at h;rw[Br]at h;split at h<;>cases h
 ·rw[fz (by simpa using Nat.le_of_not_lt hi)]at h;rw[nG]at h;unfold mi at h;rw[cE]at h;cases e:js[i-xs]? with
  |none=>rw[e]at h;cases h
  |some j=>
   rw[e]at h;refine⟨i-xs,j,Qo,e,?_⟩;have h':(σ[j]?).getD none=some v:=Option.some.inj h;cases q:σ[j]? with
   |none=>rw[q]at h';cases h'
   |some w=>
    rw[q]at h';exact bL some h'
theorem vS{a:Heap}{tk:Nat}(I:Inv X pins σ H s)(S:h_ X scope N xs js)(h2:∀x c,cl.lookup x=some c->X.env.cells.lookup x=some c)(E:∀y∈scope.names,y.2=.free->∃c,cl.lookup y.1=some c)
  (O:∀b∈fp,jy X pins H b)(w:∀b∈fp,∃u,s.heap.get? b=some u)(hd:∀v,o.data≠ .cell v)(P:o.isFreed=false){m:Str->Option Value}
  (B:a.Ns (s.heap.push o).objs.size m)(k3:∀b u,(s.heap.push o).get? b=some u->a.get? b=some u):
  Inv (dI X N scope cl {s with heap:=s.heap.push o} H (s.heap.objs.size::fp)) [(s.heap.objs.size,o)] (List.replicate xs none++mi σ js) H {s with heap:=a,toks:=tk}:=by
 have h:(s.heap.push o).objs.size=s.heap.objs.size+1:=dQ ..;have k2:∀b u,s.heap.get? b=some u->a.get? b=some u:=λb u e=>k3 b u (aE _ e);refine⟨FH I S h2 E O w,rfl,I.bare,Un.kept k3,⟨m,B,λi x v L R U=>?_⟩,λx c e=>?_,I.hok.fresh (show s.heap.objs.size<=(s.heap.push o).objs.size by rw[h];exact kU _),λx c e=>I.freeC x c (h2 x c e),λp M=>?_,I.hok.kept k2,?_⟩
 ·obtain⟨k,j,rfl,J,C⟩:=qx R;obtain⟨Q,F⟩:=S.at_ k j x J L;have d:=p_ F;have D:=S.caught _ d rfl;obtain⟨T,_,n⟩:=I.loc;obtain⟨u,r,l⟩:=n j x v Q C (by rcases D with z|z;exact .inr (.inl z);exact .inr (.inr z));refine⟨u,r,?_⟩;rcases l with⟨z,_⟩|⟨_,c,K,A,g,f⟩
  ·rcases D with q|q<;>rw[q]at z<;>cases z
  ·obtain⟨G,t⟩:=E _ d rfl;have:=h2 _ _ t;have e:c=G:=Option.some.inj (K.symm.trans this);subst e;exact .inr ⟨mT (env:=X.env) F,c,t,A,k2 _ _ g,f⟩
 ·obtain⟨v,A,g,f⟩:=I.cell x c (h2 x c e);exact⟨v,A,k2 _ _ g,f⟩
 ·have e:p=(s.heap.objs.size,o):=by simpa[dI]using M
  subst e;exact⟨k3 _ _ (bJ _ P),I.hok.fresh (ao _),(show s.heap.objs.size≠(s.heap.push o).objs.size by rw[h];exact bF (f7 _)),I.nostk (ao _),hd⟩
 ·rw[ae,nG];unfold mi;rw[ay];exact S.len.symm
theorem rF{s':Shared}{H':Hp}{k:St}{d:List Value}{n:Nat}{f:List V}(I:Inv X pins σ H s)(x:∀b∈fp,jy X pins H b)
  (J:Inv (dI X N scope cl {s with heap:=s.heap.push o} H (s.heap.objs.size::fp)) [(s.heap.objs.size,({cls:=.type "list",data:=.seq d.toArray n}:Obj))] k H' s')
  (l:cS f d)(t:f.length<=sizeLine):
  Inv X pins σ (upd H' s.heap.objs.size (.lst f)) s'/\jy X pins (upd H' s.heap.objs.size (.lst f)) (s.heap.push o).objs.size/\H' s.heap.objs.size=none:=by
 have j:(s.heap.push o).objs.size=s.heap.objs.size+1:=dQ ..;obtain⟨p,hn,_,_,_⟩:=J.pin (s.heap.objs.size,({cls:=.type "list",data:=.seq d.toArray n}:Obj)) (by simp[dI]);have nd:∀b u,H' b=some u->b≠s.heap.objs.size:=λb u e=>dN e hn;have i:∀b u,s.heap.get? b=some u->b∉fp->b∉s.heap.objs.size::fp:=λb u e a z=>by
  rcases aq.mp z with z|z
  ·exact absurd (aV e) (by rw[z];exact dw _)
  ·exact a z
 have ps:∀b u,s.heap.get? b=some u->(s.heap.push o).get? b=some u:=λb u e=>aE _ e;refine⟨I.call' (ch:=fp) J.os ⟨λb u e q a g=>J.base.keep b u (ps b u e) q a (i b u e g),λb u e q a g=>J.base.slot b u (ps b u e) q a (i b u e g),λb u e q g=>?_,λb u e g=>J.base.there b u (ps b u e) (i b u e g),
  λb ys e=>?_,λb u ys e=>?_,λb ys e=>?_⟩ (λb u e=>?_) J.bare (λb a=>?_),?_,hn⟩
 ·rw[b5 (bF (aV e))];exact J.base.free b u (ps b u e) q (i b u e g)
 ·have z:=J.base.tups b ys e;rw[b5 (nd _ _ z)];exact z
 ·have z:=J.base.frzs b u ys e;rw[b5 (nd _ _ z)];exact z
 ·obtain⟨h,z⟩:=J.base.tbls b ys e;exact⟨h,by rw[b5 (nd _ _ z)];exact z⟩
 ·by_cases a:b=s.heap.objs.size
  ·subst a;rw[ak]at e;cases e;exact⟨t,d,n,l,p⟩
  ·rw[b5 a]at e;exact(J.hok b u e).stay (λc v _ q=>q) (λc q=>by rw[b5 (nd _ _ q)];exact q) λc ys q=>by rw[b5 (nd _ _ q)];exact q
 ·obtain⟨_,w,_,B,m,y⟩:=x b a;exact⟨B,w,m,y⟩
 ·have A:Inv X pins σ H {s with heap:=s.heap.push o}:=I.kept (t':=s.toks) λb u e=>aE _ e;refine A.fpOk (ao _) ?_;rw[b5 (show(s.heap.push o).objs.size ≠s.heap.objs.size by rw[j];exact Nat.succ_ne_self _)];exact J.free
end
def iL(xs:Nat)(js:List Nat)(g:TG)(tt:TT)(te:TE)(σ:St)(Q:VK)(J:It)(H1:Hp):Prop:=
 ∃W:Nat->Nat->List V->St->Hp->Prop,(∃m,W 0 m [] (List.replicate xs none++mi σ js) H1)/\∀i m c a H,W i m c a H->
  (J.stop i H/\∀p,H p=none->Q (.ref p) (upd H p (.lst c)))\/
  (J.go i H/\c.length<sizeLine/\∃N:List V->St->Hp->Prop,(∀e a H',N e a H'->∃f,f<m/\W (i+1) f e a H')/\∀x H',J.yld i H x H'->g x a H' λd H2=>tt d H2 λb h=>
   if b=true then te d h λy j=>N (c++[y]) d j else N c d h)
def BI(xs:Nat)(js:List Nat)(ti:TI)(g:TG)(tt:TT)(te:TE):TE:=λσ H Q=>ti σ H λJ H1=>iL xs js g tt te σ Q J H1
section
variable{X:Cx}{scope:Scope}{N:List Str}{xs:Nat}{js:List Nat}{tg iter elt:Expr}{ifs:List Expr}{pos:Pos}{ti:TI}{g:TG}{tt:TT}{te:TE}
theorem qh{pins:List (Addr×Obj)}{s:Shared}{σ:St}{H:Hp}{Q:VK}{RR:Value->Addr->Result->Shared->Prop}{E:Value->Shared->Prop}{it:Addr}{fp:List Addr}{tn:Nat->Heap->Prop}{J:It}{cl:List (Str×Addr)}
  (hc:X.calm=true)(S:h_ X scope N xs js)(hg:∀cl s H ex,PG (dI X N scope cl s H ex) tg g)(ht:∀cl s H ex,PTs (dI X N scope cl s H ex) ifs tt)(he:∀cl s H ex,PE (dI X N scope cl s H ex) elt te)
  (h2:∀x c,cl.lookup x=some c->X.env.cells.lookup x=some c)(h4:∀y∈scope.names,y.2=.free->∃c,cl.lookup y.1=some c)
  (I:Inv X pins σ H s)(T:wF X.prog X.w X.K tg J fp it tn)(st:tn 0 s.heap)(hf:∀b∈fp,jy X pins H b)
  (hW:iL xs js g tt te σ Q J H)
  (hR:∀(D C:Addr)(H':Hp)(s':Shared)(m:Str->Option Value),Inv X pins σ H' s'->s'.heap.Ns C m->jy X pins H' C->Q (.ref D) H'->RR (.ref D) C (.ok .next) s'):
  wpAny (model X.prog X.w) X.A (newList []) (λj l=>wpAny (model X.prog X.w) X.A (newFunctionEnv scope X.env.globals cl [] X.env.qual none .none (some X.env)) (λM xj=>
   codeAny (model X.prog X.w) X.A (.compStart (.ListComp elt [⟨tg,iter,ifs,0⟩] scope pos) 0 (.ref it) j {M with scope:=relabel scope X.env}) (RR j M.locals) xj) E l) E s:=by
 refine fK (FS S.nocell (by intro y hy;simp at hy) (λO t A=>?_) S.kind);dsimp only at t A⊢;obtain⟨W,⟨m0,w0⟩,xc⟩:=hW;have R:∀b∈fp,∃u,s.heap.get? b=some u:=λb k=>let⟨u,hu,_⟩:=T.obj _ _ st b k;⟨u,hu⟩;have xo:(s.heap.push ({cls:=.type "list",dict:=none,data:=.seq ([]:List Value).toArray }:Obj)).objs.size=s.heap.objs.size+1:=dQ ..;have k3:∀b u,(s.heap.push ({cls:=.type "list",dict:=none,data:=.seq ([]:List Value).toArray }:Obj)).get? b=some u->O.get? b=some u:=λb u e=>
  (A.2 b (bF (aV e))).trans (aE _ e)
 have B0:=vS (X:=X) (N:=N) (xs:=xs) (js:=js) (tk:=s.toks+([]:List (Str×Value)).length) I S h2 h4 hf R (λv z=>by cases z) rfl t k3;generalize hXc:dI X N scope cl {s with heap:=s.heap.push ({cls:=.type "list",dict:=none,data:=.seq ([]:List Value).toArray }:Obj)} H (s.heap.objs.size::fp)=Xc at B0;have eP:Xc.prog=X.prog:=by rw[<-hXc];rfl
 have eW:Xc.w=X.w:=by rw[<-hXc];rfl
 have eK:Xc.K=X.K:=by rw[<-hXc];rfl
 have eA:Xc.A=X.A:=by rw[<-hXc];rfl
 have eC:Xc.calm=true:=by rw[<-hXc];exact hc
 have eX:Xc.xe=λ_ _=>False:=by rw[<-hXc];rfl
 have eE:Xc.env=compEnvC scope cl (s.heap.push ({cls:=.type "list",dict:=none,data:=.seq ([]:List Value).toArray }:Obj)).objs.size X.env:=by rw[<-hXc];rfl
 have eF:Xc.fs=je X.stack:=by rw[<-hXc];rfl
 have xb:Xc.ex=s.heap.objs.size::fp:=by rw[<-hXc];rfl
 have xp:PG Xc tg g:=by rw[<-hXc];exact hg _ _ _ _
 have xu:PTs Xc ifs tt:=by rw[<-hXc];exact ht _ _ _ _
 have xr:PE Xc elt te:=by rw[<-hXc];exact he _ _ _ _
 have xe:∀x c,Xc.env.cells.lookup x=some c->X.env.cells.lookup x=some c:=by rw[eE];exact h2
 have Y:∀{H':Hp}{ob:Obj},(∀b∈fp,H' b=none)->∀b∈fp,jy Xc [(s.heap.objs.size,ob)] H' b:=λ{H' ob}hn b k=>by
  obtain⟨u,hu⟩:=R b k;have xh:=aV hu;obtain⟨_,f1,f2,f3,f4,f5⟩:=hf b k;refine⟨hn b k,?_,?_,.inl ?_,λx c e=>f4 x c (xe x c e),λp K=>?_⟩
  ·rw[eE];show b≠(s.heap.push _).objs.size;rw[xo];exact bF (qL xh)
  ·rw[eF];intro z;rcases aq.mp (I.stkSub b z)with e|e
   ·exact f1 e
   ·exact f2 e
  ·rw[xb];exact aB _ k
  ·have e:p=(s.heap.objs.size,ob):=by
    rw[<-hXc]at K;simpa[dI]using K
   subst e;show s.heap.objs.size≠b;exact kf xh
 have P:∀l:Shared,l={s with heap:=O,toks:=s.toks+([]:List (Str×Value)).length }->
   codeAny (model X.prog X.w) X.A (.compLoop (.ListComp elt [⟨tg,iter,ifs,0⟩] scope pos) 0 (.ref it) (.ref s.heap.objs.size) (compEnvC scope cl (s.heap.push ({cls:=.type "list",dict:=none,data:=.seq ([]:List Value).toArray }:Obj)).objs.size X.env))
    (RR (.ref s.heap.objs.size) (s.heap.push ({cls:=.type "list",dict:=none,data:=.seq ([]:List Value).toArray }:Obj)).objs.size) l:=by
  rintro l rfl;refine vU (λn s'=>∃(i:Nat)(j:List V)(f:List Value)(c:Nat)(xk:St)(H':Hp),Inv Xc [(s.heap.objs.size,({cls:=.type "list",data:=.seq f.toArray c}:Obj))] xk H' s'/\cS j f/\tn i s'.heap/\
   (∀b∈fp,H' b=none)/\j.length<=sizeLine/\W i n j xk H') ?_ m0 ⟨0,[],[],0,_,H,B0,.nil,T.keep _ _ _ st λb _ u e=>k3 b u (aE _ e),λb k=>(hf b k).1,bV _,w0⟩
  rintro n s3⟨i,j,f,c,L,H3,I3,rv,xl,xa,hz,w3⟩;rcases xc i n j L H3 w3 with⟨stop,qn⟩|⟨go,xy,NN,xd,xi⟩
  ·have h:=T.done Xc eP eW eK eC i _ s3 L H3 (λ_ _=>False) I3 (Y xa) xl stop;rw[eA]at h;refine dL h λr s4⟨hr,I4⟩=>?_;subst hr;rw[<-hXc]at I4;obtain⟨a1,a2,a3⟩:=rF I hf I4 rv hz;obtain⟨mC,xn,_⟩:=I4.loc;exact hR _ _ _ _ mC a1 xn a2 (qn _ a3)
  ·have h:=T.item Xc eP eW eK eC i _ s3 L H3 (λ_ _=>False) I3 (Y xa) xl go;rw[eA]at h;refine dL h λr s4⟨u,hr,h4⟩=>?_;subst hr;refine dL h4 λ_ s5⟨x,H5,I5,r5,y5,U,xw⟩=>?_;have xx:=I5.pinned (Y xw) (T.obj _ _ U);have ha:=xp _ s5 L H5 x u _ xx r5 (xi x H5 y5);rw[eP,eW,eA,eE,eX]at ha;refine dL ha λ_ s6⟨B,H6,I6,q6⟩=>?_;have k:=xu _ s6 B H6 _ I6 q6;rw[eP,eW,eA,eE,eX]at k;refine dL k λok s7⟨H7,I7,q7⟩=>?_;have xf:∀{xg:St}{Z:Hp}{G:Shared},Inv Xc ([(s.heap.objs.size,({cls:=.type "list",data:=.seq f.toArray c}:Obj))]++mv fp s5.heap) xg Z G->tn (i+1) G.heap/\∀b∈fp,Z b=none:=λ{xg Z G}I8=>by
    refine⟨T.keep _ _ _ U λb k o e=>(I8.pin (b,o) (aZ _ (aZ _ (gr k e)))).1,λb k=>?_⟩;obtain⟨o,e,d⟩:=T.obj _ _ U b k;exact(I8.pin (b,o) (aZ _ (aZ _ (gr k e)))).2.1
   cases ok with
   |false=>
    obtain⟨m',hm,w7⟩:=xd _ _ _ q7;obtain⟨t1,t2⟩:=xf I7;exact⟨m',hm,i+1,j,f,c,B,H7,I7.unpinned,rv,t1,t2,hz,w7⟩
   |true=>
    have hd:=xr _ s7 B H7 _ I7 q7;rw[eP,eW,eA,eE,eX]at hd;refine dL hd λv G⟨y,Z,I8,r8,q8⟩=>?_;obtain⟨m',hm,w8⟩:=xd _ _ _ q8;obtain⟨t1,t2⟩:=xf I8;have I9:=I8.unpinned;obtain⟨eD,nD,nC,nF,_⟩:=I9.pin (s.heap.objs.size,({cls:=.type "list",data:=.seq f.toArray c}:Obj)) Qs;have xz:=rv.length;refine call_meets F.slot_list_append ⟨_,eD,rfl⟩ F.entry_list_append (F.args_list_append_2 _ _) (qH s.heap.objs.size f.toArray c v (by rw[bj];omega)) ⟨eD,?_⟩;obtain⟨n9,q⟩:∃n9,(G.heap.update s.heap.objs.size (Obj.mapSeq λa=>a.push v)).get? s.heap.objs.size=some ({cls:=.type "list",data:=.seq (f++[v]).toArray n9}:Obj):=by
     have q:=PySem.IsL.update eD (λa=>a.push v);have ea:f.toArray.push v=(f++[v]).toArray:=Qs;rw[ea]at q;exact⟨_,q⟩
    have xm:Inv Xc [] B Z {G with heap:=G.heap.update s.heap.objs.size (Obj.mapSeq λa=>a.push v)}:=by
     refine(I9.pins_of (pins':=[]) λp K=>nomatch K).turned (it:=s.heap.objs.size) (t':=G.toks) (λb u k e=>(b6 G.heap _ (Ne.symm k)).trans e) nD nC (.inl (by rw[xb];exact aA)) (λx cc e=>?_) (λp K=>?_)
     ·obtain⟨w0,oc,xt,_⟩:=I.cell x cc (xe x cc e);exact bF (aV xt)
     ·rw[<-hXc]at K;exact absurd K (by simp[dI])
    refine⟨m',hm,i+1,j++[y],f++[v],n9,B,Z,xm.pins_of λp K=>?_,rv.append (.cons r8 .nil),T.keep _ _ _ t1 λb k u e=>?_,t2,by rw[ae,cZ];omega,w8⟩
    ·have e:p=(s.heap.objs.size,({cls:=.type "list",data:=.seq (f++[v]).toArray n9}:Obj)):=by simpa using K
     subst e;exact⟨q,nD,nC,nF,λw z=>by cases z⟩
    ·have xq:b≠s.heap.objs.size:=by
      obtain⟨z,xv⟩:=R b k;exact bF (aV xv)
     exact(b6 G.heap _ (Ne.symm xq)).trans e
 exact codeAny_compStart_list (P _ rfl) (T.self _ 0 _ _ _ (T.keep _ _ _ st λb _ u e=>k3 b u (aE _ e)) (P _ rfl))
theorem kq(t:X.calm=true)(S:h_ X scope N xs js)(hi:PI X tg iter ti)(w:∀cl s H ex,PG (dI X N scope cl s H ex) tg g)(M:∀cl s H ex,PTs (dI X N scope cl s H ex) ifs tt)
  (E:∀cl s H ex,PE (dI X N scope cl s H ex) elt te)(k:∀x,foldedSetIterable iter X.env x=pure x:=by intro _;rfl):
  PE X (.ListComp elt [⟨tg,iter,ifs,0⟩] scope pos) (BI xs js ti g tt te):=by
 intro pins s σ H Q I h;obtain⟨cl,A,h2,F⟩:=mz (scope:=scope) (env:=X.env) λy o e=>I.ok.has y.1 (S.caught y o e);rw[eval_ListComp];refine lJ (use:=none) rfl k A S.kind S.once (dL (hi pins s σ H _ I h) λv s1 h1=>dL h1 λi R d=>?_);obtain⟨it,fp,tn,J,H2,e,p,T,a,K,l⟩:=d;subst e;refine qh (RR:=λc C=>compPost (model X.prog X.w) X.A X.xe none (EP X pins σ Q) c C) t S w M E h2 F p T a K l λD C H' s' m L hn z q=>?_;obtain⟨P,B,_,O,j,G⟩:=z;exact⟨m,hn,λh' f=>⟨.ref D,H',L.turned (it:=C) (t':=s'.toks) (λb u n e=>(f.2 b n).trans e) P B O j G,rfl,q⟩⟩
theorem sM{j:Nat}{y:Str}{d c:Pos}(U:X.calm=true)(hN:X.N.Nodup)(O:X.N[j]?=some y)(f:X.env.scope.names.lookup y=some .local)(S:h_ X scope N xs js)(hi:PI X tg iter ti)(V:∀cl s H ex,PG (dI X N scope cl s H ex) tg g)(ht:∀cl s H ex,PTs (dI X N scope cl s H ex) ifs tt)
  (Z:∀cl s H ex,PE (dI X N scope cl s H ex) elt te)
  (i:swapsWith (.ListComp elt [⟨tg,iter,ifs,0⟩] scope pos) (some (.Name y d)) c.line X.env=pure true)
  (K:∀x,foldedSetIterable iter X.env x=pure x:=by intro _;rfl):
  PS X (.Assign [.Name y d] (.ListComp elt [⟨tg,iter,ifs,0⟩] scope pos) c) (Eg (BI xs js ti g tt te) (vL j)):=by
 intro pins s σ H D I h;obtain⟨cl,Y,h2,h4⟩:=mz (scope:=scope) (env:=X.env) λy f e=>I.ok.has y.1 (S.caught y f e);rw[exec_Assign_Name_used _ _ _ _ i];refine az (lI (az ?_));show wpAny _ X.A (do let _<-comprehension (.ListComp elt [⟨tg,iter,ifs,0⟩] scope pos) scope X.env _ (newList []) false (eval iter X.env) (some (assign (.Name y d) X.env))) _ _ s;refine az (bX (lJ (use:=some (assign (.Name y d) X.env)) (Q:=λ_ s'=>SP X pins D .next s') rfl K Y S.kind S.once
  (dL (hi pins s σ H _ I h) λv s1 h1=>dL h1 λG s2 t=>?_)) (λ_ s' P=>bd (bd P)) λ_ _ e=>e)
 obtain⟨it,fp,tn,J,H2,e,R,T,l,f2,L⟩:=t;subst e;refine qh (Q:=λx H1=>vL j x σ H1 D.nx) (RR:=λn C=>compPost (model X.prog X.w) X.A X.xe (some (assign (.Name y d) X.env)) (λ_ s'=>SP X pins D .next s') n C) U S V ht Z h2 h4 R T l f2 L λA C H' s' m I' hn W q=>?_;obtain⟨f0,E,F,f3,B,f5⟩:=W;show wpAny _ X.A (assign (.Name y d) X.env (.ref A)) _ _ _;refine qF (qU I' hN O (.inl f) (show dc (.ref A) (.ref A)from rfl) (λo k⟨a,sb,ha⟩=>?_) (.inr f));have p:C≠a:=by
  rcases ha with e|e
  ·rw[e];exact E
  ·exactλz=>B y a e z.symm
 refine⟨m,hn.sameBut sb p,λh' w=>?_⟩;exact⟨_,H',k.turned (it:=C) (t':=o.toks) (λb u M e=>(w.2 b M).trans e) f0 E f3 B f5,q⟩
end
section
variable{K:ah}{xs:Nat}{js:List Nat}{g:TG}{tt:TT}{te:TE}{σ:St}{Q:VK}{H:Hp}
theorem lU{J:It}{n:Nat}(f:Nat->List V->St->Hp->Prop)(h0:f 0 [] (List.replicate xs none++mi σ js) H)(w:∀i c d H',f i c d H'->c.length<=i)(z:n<=sizeLine)
  (l:∀i c d H',i<n->f i c d H'->J.go i H')(o:∀c d H',f n c d H'->J.stop n H')
  (v:∀i x c d H' H2,i<n->f i c d H'->J.yld i H' x H2->g x d H2 λj H2=>tt j H2 λb t=>if b=true then te j t λy u=>f (i+1) (c++[y]) j u else f (i+1) c j t)
  (hd:∀c d H',f n c d H'->∀p,H' p=none->Q (.ref p) (upd H' p (.lst c))):iL xs js g tt te σ Q J H:=by
 refine⟨λi m c d H'=>m=n-i/\i<=n/\f i c d H',⟨n,Qs,bV _,h0⟩,?_⟩;rintro i m c d H'⟨rfl,hi,p⟩;by_cases k:i<n
 ·have:=w _ _ _ _ p;exact .inr ⟨l i c d H' k p,Qo,λa s h=>f (i+1) a s h,λa s h q=>⟨n-(i+1),Qo,rfl,k,q⟩,λx H2 y=>v i x c d H' H2 k p y⟩
 ·have e:i=n:=Qo;subst e;exact .inl ⟨o _ _ _ p,hd _ _ _ p⟩
theorem rE{a:Addr}{ys:List V}(j:Nat->List V->St->Hp->Prop)(h0:j 0 [] (List.replicate xs none++mi σ js) H)(q:∀i c d H',j i c d H'->c.length<=i)(o:ys.length<=sizeLine)
  (k:∀i c d H',i<=ys.length->j i c d H'->SqL K H' a ys)
  (n:∀i x c d H',ys[i]?=some x->j i c d H'->g x d H' λf H2=>tt f H2 λb l=>if b=true then te f l λy m=>j (i+1) (c++[y]) f m else j (i+1) c f l)
  (hd:∀c d H',j ys.length c d H'->∀p,H' p=none->Q (.ref p) (upd H' p (.lst c))):iL xs js g tt te σ Q (Ij K a) H:=
 lU j h0 q o (λi c d H' h p=>⟨ys,ys[i],k _ _ _ _ (iV h) p,by simp[h]⟩) (λc d H' p=>⟨ys,k _ _ _ _ (ao _) p,ao _⟩)
  (λi x c d H' H2 h p y=>by
   obtain⟨e,y⟩:=y;subst e;exact n i x c d _ (y ys (k _ _ _ _ (iV h) p)) p) hd
theorem lD{a:Addr}{ys:List V}(j:Nat->List V->St->Hp->Prop)(h0:j 0 [] (List.replicate xs none++mi σ js) H)(q:∀i c d H',j i c d H'->c.length<=i)(o:ys.length<=sizeLine)
  (k:∀i c d H',i<=ys.length->j i c d H'->SqT K H' a ys)
  (n:∀i x c d H',ys[i]?=some x->j i c d H'->g x d H' λf H2=>tt f H2 λb l=>if b=true then te f l λy m=>j (i+1) (c++[y]) f m else j (i+1) c f l)
  (hd:∀c d H',j ys.length c d H'->∀p,H' p=none->Q (.ref p) (upd H' p (.lst c))):iL xs js g tt te σ Q (Lf K a) H:=
 lU j h0 q o (λi c d H' h p=>⟨ys,ys[i],k _ _ _ _ (iV h) p,by simp[h]⟩) (λc d H' p=>⟨ys,k _ _ _ _ (ao _) p,ao _⟩)
  (λi x c d H' H2 h p y=>by
   obtain⟨e,y⟩:=y;subst e;exact n i x c d _ (y ys (k _ _ _ _ (iV h) p)) p) hd
theorem ky{lo:Int}{n:Nat}(f:Nat->List V->St->Hp->Prop)(h0:f 0 [] (List.replicate xs none++mi σ js) H)(o:∀i a c H',f i a c H'->a.length<=i)(m:n<=sizeLine)
  (l:∀i a c H',i<n->f i a c H'->g (.int (lo+i)) c H' λd H2=>tt d H2 λb j=>if b=true then te d j λy k=>f (i+1) (a++[y]) d k else f (i+1) a d j)
  (hd:∀a c H',f n a c H'->∀p,H' p=none->Q (.ref p) (upd H' p (.lst a))):iL xs js g tt te σ Q (Id lo n) H:=
 lU f h0 o m (λi a c H' h p=>h) (λa c H' p=>ao _)
  (λi x a c H' H2 h p y=>by
   obtain⟨e,y⟩:=y;subst e y;exact l i a c _ h p) hd
end
def Kh(x:Str):It:=⟨λi _=>i<x.cps.size,λi H v H'=>H'=H/\∃c,x.cps[i]?=some c/\v=.str ⟨#[c]⟩,λi _=>i=x.cps.size⟩
def KU(tl:TE):TI:=λσ H R=>tl σ H λv H1=>∃x,v=.str x/\R (Kh x) H1
theorem vR{xs:Nat}{js:List Nat}{g:TG}{tt:TT}{te:TE}{σ:St}{Q:VK}{H:Hp}{x:Str}(j:Nat->List V->St->Hp->Prop)(h0:j 0 [] (List.replicate xs none++mi σ js) H)(s:∀i a d H',j i a d H'->a.length<=i)(q:x.cps.size<=sizeLine)
  (n:∀i c a d H',x.cps[i]?=some c->j i a d H'->g (.str ⟨#[c]⟩) d H' λf H2=>tt f H2 λb k=>if b=true then te f k λy m=>j (i+1) (a++[y]) f m else j (i+1) a f k)
  (hd:∀a d H',j x.cps.size a d H'->∀p,H' p=none->Q (.ref p) (upd H' p (.lst a))):iL xs js g tt te σ Q (Kh x) H:=
 lU j h0 s q (λi a d H' h p=>h) (λa d H' p=>rfl)
  (λi v a d H' H2 h p y=>by
   obtain⟨e,c,o,l⟩:=y;subst e l;exact n i c a d _ o p) hd
def nA(it:Addr)(x:Str)(t:Tok)(i:Nat)(h:Heap):Prop:=h.IsStrIter it "str_ascii_iterator" x t i\/h.IsStrIter it "str_iterator" x t i
theorem nA.obj{it:Addr}{x:Str}{t:Tok}{i:Nat}{h:Heap}(st:nA it x t i h):∃o n vs,h.get? it=some o/\o.cls=.type n/\o.data=.fields vs/\(n="str_ascii_iterator"\/n="str_iterator"):=by
 rcases st with⟨o,e,c,d⟩|⟨o,e,c,d⟩
 ·exact⟨o,_,_,e,c,d,.inl rfl⟩
 ·exact⟨o,_,_,e,c,d,.inr rfl⟩
theorem nA.go{M:Model}{A:Around}{E:Value->Shared->Prop}{s:Shared}{tg:Expr}{it:Addr}{u:Value}{x:Str}{t:Tok}{i:Nat}{Q:Unit->Shared->Prop}(st:nA it x t i s.heap)(a:Q () s):wpAny M A (letOwnedTupleGo tg (.ref it) u) Q E s:=by
 obtain⟨o,n,vs,e,c,d,hn⟩:=st.obj;rcases hn with rfl|rfl
 ·exact rs e c d Qd a
 ·exact rs e c d Qd a
theorem t9{P:Program}{w:World}{K:ah}{tg:Expr}(it:Addr)(x:Str)(t:Tok):wF P w K tg (Kh x) [it] it (nA it x t) where
 mem:=Qs
 obj:=λi h st b f=>by
  have e:b=it:=by simpa using f
  subst e;obtain⟨o,n,vs,e,c,d,hn⟩:=st.obj;exact⟨o,e,λv z=>by rw[d]at z;cases z⟩
 keep:=λi h h' st k=>by
  rcases st with⟨o,e,r⟩|⟨o,e,r⟩
  ·exact .inl ⟨o,k it Qs o e,r⟩
  ·exact .inr ⟨o,k it Qs o e,r⟩
 item:=by
  intro X M hw G j i pins s σ H E I q st m;subst M hw G;obtain⟨D,p,O,C,l,B⟩:=q it Qs;have g:∀(v:Value)(h':Heap)(tk:Nat),SignAt x i v->nA it x t (i+1) h'->(∀b o,b∉ [it]->s.heap.get? b=some o->h'.get? b=some o)->
    ∃u,some v=some u/\wpAny (model X.prog X.w) X.A (letOwnedTupleGo tg (.ref it) u) (λ_ N=>∃y H',Inv X pins σ H' N/\dc y u/\(Kh x).yld i H y H'/\nA it x t (i+1) N.heap/\∀b∈ [it],H' b=none) E {s with heap:=h',toks:=tk}:=by
   rintro v h' tk⟨c,u,J,rfl⟩a k;exact⟨_,rfl,a.go (s:={s with heap:=h',toks:=tk}) ⟨.str ⟨#[c]⟩,H,I.turned (t':=tk) (λb o f e=>k b o (by simpa using f) e) D p C l B,⟨_,rfl⟩,⟨rfl,c,J,rfl⟩,a,λb f=>(q b f).1⟩⟩
  rcases st with st|st
  ·exact(Walks.strAscii (I.ok.hd j) it x t).item i s _ _ m st λv h' tk F a k=>g v h' tk F (.inl a) k
  ·exact(Walks.strWide (I.ok.hd j) it x t).item i s _ _ m st λv h' tk F a k=>g v h' tk F (.inr a) k
 done:=by
  intro X M hw G j i pins s σ H E I q st m;subst M hw G;obtain⟨D,p,O,C,l,B⟩:=q it Qs;have L:i=x.cps.size:=m;subst L;rcases st with st|st
  ·exact(Walks.strAscii (I.ok.hd j) it x t).done s _ _ st λh' tk k=>⟨rfl,I.turned (t':=tk) (λb o f e=>k b o (by simpa using f) e) D p C l B⟩
  ·exact(Walks.strWide (I.ok.hd j) it x t).done s _ _ st λh' tk k=>⟨rfl,I.turned (t':=tk) (λb o f e=>k b o (by simpa using f) e) D p C l B⟩
 self:=λA i s Q E st h=>by
  rcases st with st|st
  ·exact wpAny_pyIter_striter_ascii st h
  ·exact wpAny_pyIter_striter_wide st h
theorem Cu{X:Cx}{tg l:Expr}{tl:TE}(i:PE X l tl):PI X tg l (KU tl):=by
 intro pins s σ H R I h;refine dL (i pins s σ H _ I h) λv s1⟨y,H1,c,f,d⟩=>?_;obtain⟨x,rfl,q⟩:=d;obtain⟨t,rfl⟩:=f;have a:∀o,nA s1.heap.objs.size x t 0 (s1.heap.push o)->K9 X pins σ tg R (.ref s1.heap.objs.size) {s1 with heap:=s1.heap.push o}:=λo st=>by
  refine⟨s1.heap.objs.size,[s1.heap.objs.size],_,_,H1,rfl,c.kept (t':=s1.toks) λb o e=>aE _ e,t9 _ x t,st,λb g=>?_,q⟩;have e:b=s1.heap.objs.size:=by simpa using g
  subst e;exact c.fpOk (ao _) (c.hok.fresh (ao _))
 cases ha:x.cps.all (· <128)
 ·exact wpAny_pyIter_wide ha (a _ (.inr ⟨_,bJ _ rfl,rfl,rfl⟩))
 ·exact wpAny_pyIter_ascii ha (a _ (.inl ⟨_,bJ _ rfl,rfl,rfl⟩))
theorem Bd(bs:List Bool):(List.range bs.length).all (λi=>(bs[i]?).getD true)=bs.all id:=by
 rw[be];simp only[bw,eM,id];constructor
 ·intro h b a;obtain⟨i,hi,e⟩:=List.mem_iff_getElem.mp a;have:=h i hi;rw[eI hi]at this;rw[<-e];exact this
 ·intro h i hi;rw[eI hi];exact h _ (l_ hi)
section
variable{X:Cx}
theorem DG(B:X.calm=true):iM X (.builtin "all") (λxs H Q=>∃(p:Addr)(bs:List Bool),xs=[.ref p]/\SqL X.K H p (bs.map V.bl)/\Q (.bl (bs.all id)) H):=by
 intro pins s σ H xs us Q I r h;obtain⟨p,bs,rfl,D,q⟩:=h;obtain⟨u,rfl,C⟩:=kG r;cases C;obtain⟨a,t,l,G⟩:=I.list D;have c:=t.length;rw[ay]at c;refine call_all_walk (wpAny_pyIter_list l.isList ?_);have m:p<s.heap.objs.size:=let⟨o,n,e,_⟩:=l;aV e;refine⟨s.heap.objs.size,[s.heap.objs.size,p],[s.heap.objs.size],a.toArray.size,(λi v=>a.toArray[i]?=some v),(λi h=>h.IsListIter s.heap.objs.size p i/\h.IsList p a.toArray),λi=>(bs[i]?).getD true,rfl,Walks.list (A:=X.A.in1) (show X.A.in1.handled=none from I.ok.hd B) s.heap.objs.size p (bF m) a.toArray,⟨⟨_,bJ _ rfl,rfl,rfl⟩,l.isList.at λo e=>aE _ e⟩,?_,λh' tk k=>?_⟩
 ·intro i v s' E J w y;have f:a[i]?=some v:=by simpa using w
  have hi:i<bs.length:=by rw[c];exact(b8.mp f).1
  obtain⟨F,d,j⟩:=t.get (i:=i) (x:=.bl bs[i]) (by simp[hi]);rw[f]at d;cases d;cases j;refine dr ?_;have g:E ((bs[i]?).getD true) s':=y;rw[eI hi]at g;exact g
 ·have e:(List.range a.toArray.size).all (λi=>(bs[i]?).getD true)=bs.all id:=by
   rw[bj,<-c];exact Bd bs
  refine⟨.bl (bs.all id),H,I.kept (t':=tk) λb o e=>k b o ?_ (aE _ e),by rw[e];rfl,q⟩;have:=aV e;intro z;rw[cy.mp z]at this;exact dw _ this
theorem lE:iM X (.builtin "isinstance") (λxs H Q=>∃x T t b,xs=[x,.ty T]/\nw X.K H x t/\bz X.K t (.type T)=some b/\Q (.bl b) H):=by
 intro pins s σ H xs us Q I r h;obtain⟨x,T,t,b,rfl,ty,e,q⟩:=h;obtain⟨u,v,rfl,c,a⟩:=tW r;cases a;exact A4 I c ty e λtk=>⟨.bl b,H,I.tok tk,rfl,q⟩
def KB:V->Option Int->Option Int->Hp->VK->Prop:=λx lo hi H Q=>∃z,x=.str z/\z.length<=sizeLine/\Q (.str (Txt.slice z lo hi)) H
theorem cK:Kd X KB:=by
 intro pins s σ H x v w p lo hi y Q I n m pl f h;obtain⟨z,rfl,c,q⟩:=h;obtain⟨t,rfl⟩:=n;refine⟨"str",_,F.slot_str_getitem.lookup,typeIs_str _ _ _,?_⟩;have a:∀t' k,EP X pins σ Q (.str (Txt.slice z lo hi) t') {s with toks:=k}:=λt' k=>⟨.str _,H,I.tok k,⟨t',rfl⟩,q⟩;obtain⟨o,d,b,hd⟩:=m;cases pl with
 |none=>
  cases f with
  |none=>exact iI (l:=none) (u:=none) (st:=none) ⟨o,d,b,hd⟩ rfl (post_val_or_str ⟨af (Txt.slice_le z _ _) c,a⟩)
  |int j e=>exact iI (l:=none) (u:=some (j,e)) (st:=none) ⟨o,d,b,hd⟩ rfl (post_val_or_str ⟨af (Txt.slice_le z _ _) c,a⟩)
 |int i g=>
  cases f with
  |none=>exact iI (l:=some (i,g)) (u:=none) (st:=none) ⟨o,d,b,hd⟩ rfl (post_val_or_str ⟨af (Txt.slice_le z _ _) c,a⟩)
  |int j e=>exact iI (l:=some (i,g)) (u:=some (j,e)) (st:=none) ⟨o,d,b,hd⟩ rfl (post_val_or_str ⟨af (Txt.slice_le z _ _) c,a⟩)
theorem CD:ml X (binaryOp .FloorDiv) (rI (λ_ j=>0<j/\j.natAbs.log2<9000) λi j=>.int (i/j)):=IZ λi j _ _ _ _ _ a q=>by
 refine floordiv_int Qo ?_ (.inl (PyProof.noPylong_of_log2 a.2));rw[yQ i Qo];exact q
end
def wM(K:ah)(H:Hp):Nat->V->PyData->Prop
 |_,.non,d=>d=.none
 |_,.bl b,d=>d=.bool b
 |_,.int i,d=>d=.int i
 |_,.str x,d=>PyData.strOk x=true/\d=.str x
 |n+1,.ref a,d=>(∃xs ds,SqL K H a xs/\d=.list ds/\Paired (wM K H n) xs ds)\/∃xs ds,SqT K H a xs/\d=.tuple ds/\Paired (wM K H n) xs ds
 |_,_,_=>False
section
variable{X:Cx}{pins:List (Addr×Obj)}{σ:St}{H:Hp}{s:Shared}
theorem wM.reads(I:Inv X pins σ H s):∀(n:Nat)(v:V)(d:PyData)(u:Value),wM X.K H n v d->dc v u->(∃b,Reads s.heap u d b)/\d.canLay0=true/\d.depth<=n:=by
 intro n;induction n with
 |zero=>
  intro v d u h r;cases v<;>simp only[wM]at h
  ·subst h;cases r;exact⟨⟨_,.none⟩,rfl,ao _⟩
  ·subst h;cases r;exact⟨⟨_,.bool _⟩,rfl,ao _⟩
  ·subst h;obtain⟨t,rfl⟩:=r;exact⟨⟨_,.int _ _⟩,rfl,ao _⟩
  ·obtain⟨h1,rfl⟩:=h;obtain⟨t,rfl⟩:=r;exact⟨⟨_,.str _ _⟩,h1,ao _⟩
 |succ n q=>
  have all:∀(xs:List V)(ds:List PyData)(us:List Value),Paired (wM X.K H n) xs ds->cS xs us->(∃b,ReadsAll s.heap us ds b)/\PyData.canLayAll0 ds=true/\PyData.depthAll ds<=n:=by
   intro xs ds us p;induction p generalizing us with
   |nil=>intro r;cases r;exact⟨⟨_,.nil⟩,rfl,bV _⟩
   |cons h t j=>
    intro r;cases r with
    |cons x z=>
     obtain⟨⟨b,g⟩,f,l⟩:=q _ _ _ h x;obtain⟨⟨bs,w⟩,y,A⟩:=j _ z;exact⟨⟨_,.cons g w⟩,by simp[PyData.canLayAll0,f,y],by simp only[PyData.depthAll];omega⟩
  intro v d u h r;cases v<;>simp only[wM]at h
  ·subst h;cases r;exact⟨⟨_,.none⟩,rfl,bV _⟩
  ·subst h;cases r;exact⟨⟨_,.bool _⟩,rfl,bV _⟩
  ·subst h;obtain⟨t,rfl⟩:=r;exact⟨⟨_,.int _ _⟩,rfl,bV _⟩
  ·obtain⟨h1,rfl⟩:=h;obtain⟨t,rfl⟩:=r;exact⟨⟨_,.str _ _⟩,h1,bV _⟩
  ·cases r;rcases h with⟨xs,ds,k,rfl,p⟩|⟨xs,ds,k,rfl,p⟩
   ·obtain⟨a,i,⟨o,m,e,c,_,dd⟩,_⟩:=I.list k;obtain⟨⟨b,g⟩,f,l⟩:=all xs ds a p i;exact⟨⟨_,.list e c dd (by simpa using g)⟩,by simpa[PyData.canLay0]using f,by simp only[PyData.depth];omega⟩
   ·obtain⟨a,i,⟨o,e,c,m,dd⟩,_⟩:=I.tuple k;obtain⟨⟨b,g⟩,f,l⟩:=all xs ds a p i;exact⟨⟨_,.tuple e c dd (by simpa using g)⟩,by simpa[PyData.canLay0]using f,by simp only[PyData.depth];omega⟩
def IR(K:ah)(neg:Bool):R2:=λx y H Q=>∃n dx a,n<=64/\wM K H n x dx/\wM K H n y a/\Q (.bl (if neg then !PyData.eqv dx a else PyData.eqv dx a)) H
theorem GV(i:X.A.units+64<cLine):ml X (compareOp .Eq) (IR X.K false):=by
 intro pins s σ H x y v u Q I g e h;obtain⟨n,dx,a,hn,h1,h2,q⟩:=h;obtain⟨⟨l,k⟩,b,o⟩:=wM.reads I n x dx v h1 g;obtain⟨⟨bs,d⟩,f,m⟩:=wM.reads I n y a u h2 e;have c:SeqAt.shaped dx=true:=by unfold SeqAt.shaped;rw[b,aH Qo];rfl
 have j:SeqAt.shaped a=true:=by unfold SeqAt.shaped;rw[f,aH Qo];rfl
 exact SeqAt.compareEq_shaped k d c j i ⟨.bl _,H,I,rfl,q⟩
theorem CC(i:X.A.units+64<cLine):ml X (compareOp .NotEq) (IR X.K true):=by
 intro pins s σ H x y v u Q I g e h;obtain⟨n,dx,a,hn,h1,h2,q⟩:=h;obtain⟨⟨l,k⟩,b,o⟩:=wM.reads I n x dx v h1 g;obtain⟨⟨bs,d⟩,f,m⟩:=wM.reads I n y a u h2 e;have c:SeqAt.shaped dx=true:=by unfold SeqAt.shaped;rw[b,aH Qo];rfl
 have j:SeqAt.shaped a=true:=by unfold SeqAt.shaped;rw[f,aH Qo];rfl
 exact SeqAt.compareNe_shaped k d c j i ⟨.bl _,H,I,rfl,q⟩
end
structure dk(P:Program)(w:World)(K:ah)(mg:Str->Option Value)(base:Heap)(k:Nat)(x:Str)(ps:List Str)(sp:Sp):Prop where
 ex:∃(f:Addr)(fd:FuncData),FnOk P w K mg base gW k f fd ps sp/\mg x=some (.ref f)/\de K (.ref f)=true/\i8 K fd ps []
structure kR(P:Program)(w:World)(K:ah)(mg:Str->Option Value)(base:Heap)(k:Nat)(C:Addr)(m:Str)(ps:List Str)(sp:Sp):Prop where
 ex:∃(f:Addr)(fd:FuncData),FnOk P w K mg base gW k f fd ps sp/\Bg K C m f/\i8 K fd ps []
structure DP(P:Program)(w:World)(K:ah)(mg:Str->Option Value)(base:Heap)(k:Nat)(C:Addr)(ps:List Str)(sp:Sp):Prop where
 ex:∃(f:Addr)(fd:FuncData),FnOk P w K mg base gW k f fd ps sp/\Mk K C f/\i8 K fd ps []
section
variable{P:Program}{w:World}{K:ah}{mg:Str->Option Value}{base:Heap}{j k:Nat}{x m:Str}{ps:List Str}{sp sp':Sp}{C:Addr}
theorem dk.mono(c:dk P w K mg base j x ps sp)(h:j<=k):dk P w K mg base k x ps sp:=let⟨f,fd,F,r⟩:=c.ex;⟨f,fd,F.mono h,r⟩
end
section
variable{X:Cx}{k:Nat}{x m:Str}{ps:List Str}{sp:Sp}{C:Addr}{p pos apos:Pos}{e o:Expr}{es:List Expr}{ta:TE}{t:TA}
theorem aJ(c:dk X.prog X.w X.K X.mg X.base k x ps sp)(h:cF k X.A)(m:Gl X x)(g:PA X (e::es) t)(b:(x==("__debug__":Str))=false:=by decide)
  (d:starEach (e::es) X.env=(false,eval e X.env)::starEach es X.env:=by rfl)(a:(backTo pos (starEach es X.env)).any (·.1)=false:=by rfl):
  PE X (.Call (.Name x p) (e::es) [] pos) (qT sp [] E0 t):=by
 obtain⟨f,fd,F,l,i,j⟩:=c.ex;exact zM F h m l i j .nil zN g b d a
theorem dM{pl:Sem Bool}(d:PE X o ta)(c:yM X.K C)(h:kR X.prog X.w X.K X.mg X.base k C m ps sp)(b:cF k X.A)
  (a:eval (.Call (.Attribute o m apos) [] [] pos) X.env=(do
   let ov<-eval o X.env
   standAt apos.atName
   let(f,first)<-holding [ov] (getMethod ov m pl)
   callWith pos f first (backTo pos (starEach [] X.env)) (backToKw pos (keywordEach [] X.env))):=by rfl):
  PE X (.Call (.Attribute o m apos) [] [] pos) (yX C m sp [] E0 ta Av):=by
 obtain⟨f,fd,F,g,e⟩:=h.ex;exact Cw d c g F b e .nil zN a
end
def fS(mg:Str->Option Value)(x:Str)(v:V):Prop:=∃u,mg x=some u/\dc v u
theorem cN{X:Cx}{x:Str}{v:V}{pos:Pos}(h:fS X.mg x v)(b:Gl X x)(hd:(x==("__debug__":Str))=false:=by decide):PE X (.Name x pos) (tC v):=by
 obtain⟨u,a,r⟩:=h;exact sQ b a r hd
theorem zL{X:Cx}{x:Str}{T:String}{pos:Pos}(b:X.mg x=none)(c:Gl X x)(a:bootBuiltins x=some (.type T))(hn:x≠"__name__":=by decide)(hd:(x==("__debug__":Str))=false:=by decide):PE X (.Name x pos) (tC (.ty T)):=
 EW c b a (show dc (.ty T) (.type T)from rfl) hn hd
open PySem
theorem JP:bootBuiltins "all"=some (.builtin "all"):=Qk
theorem jL:bootBuiltins "isinstance"=some (.builtin "isinstance"):=Qk
theorem gc:bootBuiltins "len"=some (.builtin "len"):=Qk
theorem JQ:bootBuiltins "abs"=some (.builtin "abs"):=Qk
theorem mj:bootBuiltins "str"=some (.type "str"):=Qk
theorem Aq:bootBuiltins "int"=some (.type "int"):=Qk
theorem tL:bootBuiltins "tuple"=some (.type "tuple"):=Qk
theorem al.upd{H H':Hp}{p:Addr}{o:HO}(e:al H H')(h:H' p=none):al H (L2.upd H' p o):=λb a z=>by
 rw[b5 (dN (e b a z) h)];exact e b a z
theorem al.new{H:Hp}{p:Addr}{o:HO}(h:H p=none):al H (L2.upd H p o):=(al.refl H).upd h
theorem ji(x:Str)(l u:Option Int):Txt.slice x l u=StrLaws.sliceText x l u:=rfl
theorem Dm(a b n:Nat)(h:n<=b):Builtin.Str.strSliceIndices (some (a:Int)) (some (b:Int)) 1 n=Builtin.Str.strSliceIndices (some (a:Int)) (some (n:Int)) 1 n:=by
 unfold Builtin.Str.strSliceIndices;have c:¬((b:Int)<0):=Qo;have d:¬((n:Int)<0):=Qo;have e:min (b:Int) (n:Int)=n:=Qo;simp[c,d,e]
theorem kl(z:Str){a b:Nat}(f:a<=z.length)(d:a<=b):(Txt.slice z (some (a:Int)) (some (b:Int))).cps.toList=(z.cps.toList.drop a).take (b-a):=by
 rw[ji];by_cases g:b<=z.length
 ·rw[StrLaws.sliceText_nat z d g]
 ·have c:z.length<=b:=Qo;have e:StrLaws.sliceText z (some (a:Int)) (some (b:Int))=StrLaws.sliceText z (some (a:Int)) (some (z.length:Int)):=by
   unfold StrLaws.sliceText;rw[Dm a b z.length c]
  rw[e,StrLaws.sliceText_nat z f (ao _)];show(z.cps.toList.drop a).take (z.length-a)=_;have h:(z.cps.toList.drop a).length=z.length-a:=by rw[ig];rfl
  rw[bW Qo,bW Qo]
theorem mQ(z:Str)(b:Nat):(Txt.slice z none (some (b:Int))).cps.toList=z.cps.toList.take b:=by
 have e:Txt.slice z none (some (b:Int))=Txt.slice z (some ((0:Nat):Int)) (some (b:Int)):=by
  rw[ji,ji];unfold StrLaws.sliceText;rw[StrLaws.sliceIdx_none_lo];rfl
 rw[e,kl z (bV _) (bV _)];simp
theorem iz(z:Str){a:Nat}(b:a<=z.length):(Txt.slice z (some (a:Int)) none).cps.toList=z.cps.toList.drop a:=by
 have e:Txt.slice z (some (a:Int)) none=Txt.slice z (some (a:Int)) (some ((z.length:Nat):Int)):=by
  rw[ji,ji];unfold StrLaws.sliceText;rw[StrLaws.sliceIdx_none_hi]
 rw[e,kl z b b];have c:(z.cps.toList.drop a).length=z.length-a:=by rw[ig];rfl
 rw[bW Qo]
def Ky(R:St->Hp->Prop)(t u:TS):TS:=λD σ H=>t {D with nx:=R} σ H/\∀a H',R a H'->u D a H'
theorem EN{X:Cx}{st:Stmt}{rest:List Stmt}{t u:TS}(R:St->Hp->Prop)(h1:PS X st t)(h2:PSs X rest u):PSs X (st::rest) (Ky R t u):=by
 intro pins s σ H D I h;refine fq (dL (h1 pins s σ H {D with nx:=R} I h.1) λf s1 q=>?_);cases f with
 |next=>
  obtain⟨a,H',b,q⟩:=q;exact h2 pins s1 a H' D b (h.2 a H' q)
 |ret v=>exact q
 |brk=>exact q
 |cont=>exact q
section
variable{X:Cx}
theorem Fu(K:ah)(a:X.K=K):JX X (IQ K):=by
 subst a;exact bB
theorem AJ(K:ah)(a:X.K=K):ml X (compareOp .NotIn) (KG K true):=by
 subst a;exact mX
end
theorem bn{b:Bool}{A B:Prop}(h:b=false)(a:B):if b=true then A else B:=by rw[h];exact eZ a
theorem fO{b:Bool}{A B:Prop}(h:b=true)(a:A):if b=true then A else B:=by rw[h];exact eT a
def IF(t u:TS):TS:=λD σ H=>∃R:St->Hp->Prop,t {D with nx:=R} σ H/\∀a H',R a H'->u D a H'
theorem aQ{X:Cx}{st:Stmt}{rest:List Stmt}{t u:TS}(h1:PS X st t)(h2:PSs X rest u):PSs X (st::rest) (IF t u):=by
 intro pins s σ H D I h;obtain⟨R,a,b⟩:=h;exact EN R h1 h2 pins s σ H D I ⟨a,b⟩
theorem gf.there{P:Program}{w:World}{H:Hp}{h:Heap}{a:Addr}{o:HO}(x:gf P w H h a o):∃u,h.get? a=some u:=by
 cases o with
 |lst xs=>obtain⟨_,_,_,_,e⟩:=x;exact⟨_,e⟩
 |tup xs=>obtain⟨_,_,_,c,e,_⟩:=x;exact⟨_,e⟩
 |dK b=>obtain⟨_,_,_,_,o,_,_,e,_⟩:=x;exact⟨_,e⟩
 |dT b=>obtain⟨_,_,_,_,o,_,_,e,_⟩:=x;exact⟨_,e⟩
 |set S n=>obtain⟨o,_,_,_,e,_⟩:=x;exact⟨_,e⟩
 |ins C dx fs=>obtain⟨_,_,_,e,_⟩:=x;exact⟨_,e⟩
 |own y=>exact x
 |xd fs=>obtain⟨_,⟨_,_,_,e,_⟩,_⟩:=x;exact⟨_,e⟩
 |rng lo hi=>obtain⟨_,_,_,e⟩:=x;exact⟨_,e⟩
 |frz c u=>obtain⟨e,_⟩:=x;exact⟨_,e⟩
 |tbl ps=>exact⟨_,(show h.get? a=some _ from x)⟩
 |met f y=>exact⟨_,(show h.get? a=some _ from x)⟩
 |ext φ=>obtain⟨_,e,_⟩:=x;exact e
structure LP(l:List Env)(H':Hp)(h₀ h':Heap)(a:Addr)(cls:Value):Prop where
 ex:∃(B:Heap)(a0:Value),Heap.FlyingW B l a cls a0 h'/\(∀b o,H' b=some o->∃u,B.get? b=some u)/\∀b u,h₀.get? b=some u->b∉je l->∃u',B.get? b=some u'
def kS(P:Program)(w:World):Ar:=λouter H s E e s'=>∃(a:Addr)(cls:Value)(H':Hp),e=.ref a/\s'.os=s.os/\AllBare s'.gens/\Un (je outer) [] H H' s.heap s'.heap/\lW P w H' s'.heap/\
 LP outer H' s.heap s'.heap a cls/\E cls none H'
section
variable{P:Program}{w:World}{l:List Env}{H H':Hp}{h0 h1 h2 B:Heap}
theorem yA(un:Un (je l) [] H H' h0 h1)(hok:lW P w H' h1)(s:B.StaysIn h1)(v:B.StaysIn h2)(x:h1.FunFrames B l)(k1:∀b o,H' b=some o->∃u,B.get? b=some u)
  (k2:∀b u,h0.get? b=some u->b∉je l->∃f,B.get? b=some f)(y:h1.UpToSlots h2):Un (je l) [] H H' h0 h2/\lW P w H' h2:=by
 have d:∀b u,h1.get? b=some u->(∃f,B.get? b=some f)->h2.get? b=some u:=λb u e⟨f,p⟩=>by
  have:=s b f p;rw[e]at this;rw[Option.some.inj this];exact v b f p
 have fr:∀b u,b∈je l->h1.get? b=some u->∃j,h2.get? b=some {u with slots:=j}:=λb u a e=>by
  obtain⟨_,o',h,hd⟩:=x.mem a;rw[e]at h;cases h;exact y b u e hd
 have nx:∀b:Addr,b∉([]:List Addr):=λb z=>nomatch z;refine⟨⟨λb o e n a g=>d b o (un.keep b o e n a g) (k2 b o e a),λb o e n a g=>?_,un.free,λb o e g=>?_,un.tups,un.frzs,un.tbls⟩,λb o e=>?_⟩
 ·obtain⟨j,i⟩:=un.slot b o e n a g;obtain⟨m,k⟩:=fr b _ a i;exact⟨m,k⟩
 ·obtain⟨o',i⟩:=un.there b o e g;by_cases a:b∈je l
  ·obtain⟨j,k⟩:=fr b o' a i;exact⟨_,k⟩
  ·exact⟨o',d b o' i (k2 b o e a)⟩
 ·refine(hok b o e).stay (λc u t q=>d c u q ?_) (λ_ q=>q) λ_ _ q=>q;rcases t with z|z
  ·rw[z];exact k1 b o e
  ·exact k1 c _ z
end
section
variable{X:Cx}{pins:List (Addr×Obj)}{σ:St}{H:Hp}{s s':Shared}{E:XK}{M:Model}{E2:Value->Shared->Prop}
theorem tq{a:Addr}{cls a0:Value}{B:Heap}(c:X.ex=[])(f:Heap.FlyingW B X.outer a cls a0 s.heap)(k1:∀b o,H b=some o->∃u,B.get? b=some u)
  (k2:∀b u,X.s₀.heap.get? b=some u->b∉je X.stack->∃d,B.get? b=some d)(J:Inv X pins σ H s)(g:E cls none H):kS X.prog X.w X.outer X.H₀ X.s₀ E (.ref a) s:=by
 have un:Un (je X.outer) [] X.H₀ H X.s₀.heap s.heap:=by
  have:=J.base;rw[c]at this;exact this
 refine⟨a,cls,H,rfl,J.os,J.bare,un,J.hok,⟨B,a0,f,k1,λb u e h=>k2 b u e λi=>?_⟩,g⟩;rcases aq.mp (J.stkSub b i)with z|z
 ·exact absurd (bo (aV e) J.ok.above) (by rw[z];exact dw _)
 ·exact h z
theorem xX{h1:Heap}{a:Addr}{cls:Value}{vs:List Value}(I:Inv X pins σ H s)(j:X.stack=X.env::X.outer)(A:X.env.frame=some X.env.locals)(c:X.ex=[])(n:Heap.MadeExcOf s.heap h1 a cls vs)(v:E cls none H):
  wpAny M X.A (leaving X.env (.ref a)) (λ_ i=>kS X.prog X.w X.outer X.H₀ X.s₀ E (.ref a) i) E2 {s with heap:=h1}:=by
 have st:=I.stack;have g:∀env∈X.stack,∀b,env.frame=some b->b∈je X.stack:=λenv y b d=>kD.mpr ⟨env,y,d⟩;have p:s.heap.FunFrames (bH s.heap (je X.stack)) X.stack:=DT st g;have k1:∀b o,H b=some o->∃u,(bH s.heap (je X.stack)).get? b=some u:=λb o e=>by
  obtain⟨u,B⟩:=(I.hok b o e).there;exact⟨u,fY _ B λz=>by rw[I.stkFree b z]at e;cases e⟩
 have k0:∀b u,s.heap.get? b=some u->b∉je X.stack->∃f,(bH s.heap (je X.stack)).get? b=some f:=λb u e d=>⟨u,fY _ e d⟩;have m:(bH s.heap (je X.stack)).StaysIn s.heap:=λb o q=>fv _ q;refine wpAny_leaves_madeW (base:=bH s.heap (je X.stack)) (h:=s.heap) (L:=X.env.locals) (outer:=X.outer) (by rw[<-j];exact I.ok.frames) A m (by rw[<-j];exact p) n λh' t k D C w=>?_;obtain⟨un,ok⟩:=yA (l:=X.stack) (H:=H) (h0:=s.heap) Un.refl I.hok m k.1 p k1 k0 ((Heap.UpToSlots.of_keeps n.keeps).trans w);have J:Inv X pins σ H {s with heap:=h'}:=I.call' (s':={s with heap:=h'}) (ch:=[]) rfl un ok I.bare λ_ z=>nomatch z;refine tq c k k1 (λb u e d=>?_) J v;obtain⟨f,x⟩:=I.base.there b u e (by rw[c];simp);exact k0 b f x d
theorem Dh{e:Value}(I:Inv X pins σ H s)(i:X.stack=X.env::X.outer)(p:X.env.frame=some X.env.locals)(c:X.ex=[])(q:kS X.prog X.w X.stack H s E e s'):
  wpAny M X.A (leaving X.env e) (λ_ h=>kS X.prog X.w X.outer X.H₀ X.s₀ E e h) E2 s':=by
 obtain⟨a,cls,H',rfl,os,bare,un,hok,⟨B,a0,f,k1,k2⟩,l⟩:=q;refine wpAny_leaves_onW (L:=X.env.locals) (outer:=X.outer) (by rw[<-i];exact I.ok.frames) p (by rw[<-i];exact f) λh' j o=>?_;obtain⟨g,d⟩:=yA (h2:=h') un hok f.1 j.1 f.2.2.1 k1 k2 o;have t:Inv X pins σ H' s':=I.call' (ch:=[]) os un hok bare λ_ z=>nomatch z;have J:Inv X pins σ H' {s' with heap:=h'}:=I.call' (s':={s' with heap:=h'}) (ch:=[]) os g d bare λ_ z=>nomatch z;refine tq c j k1 (λb u e m=>?_) J l;obtain⟨k,n⟩:=I.base.there b u e (by rw[c];simp);exact k2 b k n m
end
structure wE(X:Cx)(E:XK):Prop where
 on:kz (kS X.prog X.w) X E
 made:∀(pins:List (Addr×Obj))(σ:St)(H:Hp)(s:Shared)(h1:Heap)(a:Addr)(cls:Value)(vs:List Value),Inv X pins σ H s->Heap.MadeExcOf s.heap h1 a cls vs->E cls none H->X.xe (.ref a) {s with heap:=h1}
 own:PassesOwn (model X.prog X.w) X.A X.env X.xe
section
variable{P:Program}{w:World}{K:ah}{mg:Str->Option Value}{base:Heap}
theorem As{N:List Str}{qual:Str}{scope:Scope}{f:Addr}{b:Value}{A:Around}{outer:List Env}{s:Shared}{H:Hp}{E:XK}:wE (jA (kS P w) P w K mg base N qual scope f b A outer s H E) E where
 on:=λpins σ H' s' e g I q=>Dh I rfl rfl rfl q
 made:=λpins σ H' s' h1 a cls vs I d c=>xX I rfl rfl rfl d c
 own:=PassesOwn.leaving
theorem fg.okX{x qual:Str}{st:Stmt}{f:Addr}{fd:FuncData}{N ps:List Str}{k:Nat}{sp:Sp}(F:fg K x qual st f fd)(S:bD N ps (aU st))(len:∀vs H Q E,sp vs H Q E->vs.length=ps.length)
  (b:∀(a:Value)(A:Around)(outer:List Env)(s:Shared)(H:Hp)(vs:List V)(Q:VK)(E:XK),cF k (A.deeper (envOfC qual (aU st) s.heap.objs.size f a))->wE (jA (kS P w) P w K mg base N qual (aU st) f a A outer s H E) E->sp vs H Q E->
   ∃t,PSs (jA (kS P w) P w K mg base N qual (aU st) f a A outer s H E) (fD st) t/\t {nx:=λ_ H'=>Q .non H',rt:=Q} (kI N vs) H):FnOk P w K mg base (kS P w) (k+1) f fd ps sp:=by
 obtain⟨j,m,kV,e,n,l,a,ct,g,rfl,h,c⟩:=F.ex;exact F9 h c S len λA outer s H vs Q E i d=>b a A outer s H vs Q E i As d
end
structure dE(P:Program)(w:World)(K:ah)(mg:Str->Option Value)(base:Heap)(k:Nat)(x:Str)(ps:List Str)(sp:Sp):Prop where
 ex:∃(f:Addr)(fd:FuncData),FnOk P w K mg base (kS P w) k f fd ps sp/\mg x=some (.ref f)/\de K (.ref f)=true/\i8 K fd ps []
structure oB(P:Program)(w:World)(K:ah)(mg:Str->Option Value)(base:Heap)(k:Nat)(C:Addr)(m:Str)(ps:List Str)(sp:Sp):Prop where
 ex:∃(f:Addr)(fd:FuncData),FnOk P w K mg base (kS P w) k f fd ps sp/\Bg K C m f/\i8 K fd ps []
section
variable{P:Program}{w:World}{K:ah}{mg:Str->Option Value}{base:Heap}{j k:Nat}{x m:Str}{ps:List Str}{sp sp':Sp}{C:Addr}
theorem dE.mono(c:dE P w K mg base j x ps sp)(h:j<=k):dE P w K mg base k x ps sp:=let⟨f,fd,F,r⟩:=c.ex;⟨f,fd,F.mono h,r⟩
end
section
variable{X:Cx}{k:Nat}{x m:Str}{ps:List Str}{sp:Sp}{C:Addr}{p pos apos:Pos}{e o:Expr}{es:List Expr}{ta:TE}{t:TA}{E:XK}
theorem cz(c:dE X.prog X.w X.K X.mg X.base k x ps sp)(W:wE X E)(h:cF k X.A)(m:Gl X x)(g:PA X (e::es) t)(b:(x==("__debug__":Str))=false:=by decide)
  (d:starEach (e::es) X.env=(false,eval e X.env)::starEach es X.env:=by rfl)(a:(backTo pos (starEach es X.env)).any (·.1)=false:=by rfl):
  PE X (.Call (.Name x p) (e::es) [] pos) (qT sp [] E t):=by
 obtain⟨f,fd,F,l,i,j⟩:=c.ex;exact zM F h m l i j .nil W.on g b d a
theorem iJ{pl:Sem Bool}(j:PE X o ta)(c:yM X.K C)(h:oB X.prog X.w X.K X.mg X.base k C m ps sp)(W:wE X E)(i:cF k X.A)(g:PA X (e::es) t)
  (b:starEach (e::es) X.env=(false,eval e X.env)::starEach es X.env:=by rfl)(a:(backTo pos (starEach es X.env)).any (·.1)=false:=by rfl)
  (d:eval (.Call (.Attribute o m apos) (e::es) [] pos) X.env=(do
   let ov<-eval o X.env
   standAt apos.atName
   let(f,first)<-holding [ov] (getMethod ov m pl)
   callWith pos f first (backTo pos (starEach (e::es) X.env)) (backToKw pos (keywordEach [] X.env))):=by rfl):
  PE X (.Call (.Attribute o m apos) (e::es) [] pos) (yX C m sp [] E ta t):=by
 obtain⟨f,fd,F,n,l⟩:=h.ex;exact ES j c n F i l .nil W.on g b a d
end
section
variable{X:Cx}
def PJ(X:Cx)(es:List Expr)(t:St->Hp->(Str->Hp->Prop)->Prop):Prop:=
 ∀(a:Str)(pins:List (Addr×Obj))(s:Shared)(σ:St)(H:Hp)(Q:VK),a.length+100000*es.length<=sizeLine->Inv X pins σ H s->t σ H (λy H1=>Q (.str (a++y)) H1)->
  wpAny (model X.prog X.w) X.A (joinParts a (evalEach es X.env)) (EP X pins σ Q) X.xe s
def BH:St->Hp->(Str->Hp->Prop)->Prop:=λ_ H R=>R Str.empty H
def ph(te:TE)(t:St->Hp->(Str->Hp->Prop)->Prop):St->Hp->(Str->Hp->Prop)->Prop:=λσ H R=>te σ H λv H1=>∃y,v=.str y/\y.length<=100000/\t σ H1 λz H2=>R (y++z) H2
theorem du{x y:Str}(h:x.cps.toList=y.cps.toList):x=y:=by
 obtain⟨a⟩:=x;obtain⟨b⟩:=y;exact bL Str.mk (Array.toList_inj.mp h)
theorem bC(x y:Str):(x++y).cps.toList=x.cps.toList++y.cps.toList:=jS
theorem md(x y z:Str):x++y++z=x++(y++z):=du (by rw[bC,bC,bC,bC,ax])
theorem hG(x:Str):x++Str.empty=x:=du (by rw[bC];exact bq _)
theorem oj(x:Str):Str.empty++x=x:=du (by rw[bC];exact ix _)
theorem ag(x y:Str):(x++y).length=x.length+y.length:=Array.size_append
theorem gI:PJ X [] BH:=λa pins s σ H Q b I h=>by
 have h':Q (.str a) H:=by have z:Q (.str (a++Str.empty)) H:=h;rw[hG]at z;exact z
 exact joinParts_nil ⟨.str a,H,I.tok _,⟨_,rfl⟩,h'⟩ (by simp only[bZ]at b;omega)
theorem bO{e:Expr}{es:List Expr}{te:TE}{t:St->Hp->(Str->Hp->Prop)->Prop}(g:PE X e te)(i:PJ X es t):PJ X (e::es) (ph te t):=λa pins s σ H Q f I h=>by
 have c:evalEach (e::es) X.env=eval e X.env::evalEach es X.env:=rfl;rw[c];refine joinParts_cons (dL (g pins s σ H _ I h) λv s1⟨x,H1,b,d,y,j,k,q⟩=>?_);subst j;obtain⟨l,rfl⟩:=d;rw[aK]at f;have m:=ag a y;refine⟨Qo,i (a++y) pins s1 σ H1 Q Qo b ?_⟩;simp only[md];exact q
def tJ(t:St->Hp->(Str->Hp->Prop)->Prop):TE:=λσ H Q=>t σ H λy H1=>Q (.str y) H1
theorem fB{a b:Expr}{es:List Expr}{t:St->Hp->(Str->Hp->Prop)->Prop}{pos:Pos}(h:PJ X (a::b::es) t)(hn:es.length<=100):PE X (.JoinedStr (a::b::es) pos) (tJ t):=λpins s σ H Q I q=>by
 refine JoinedStr_many (h Str.empty pins s σ H Q ?_ I ?_)
 ·show 0+100000*(es.length+1+1)<=2^24;omega
 ·simp only[oj];exact q
def ID(tv:TE):TE:=λσ H Q=>tv σ H λv H1=>(∃y,v=.str y/\y.length<=sizeLine/\Q (.str y) H1)\/∃i:Int,v=.int i/\i.natAbs.log2<1920/\Q (.str (toString i:String)) H1
theorem gk{e:Expr}{tv:TE}{pos:Pos}(d:PE X e tv):PE X (.FormattedValue e (-1) none pos) (ID tv):=λpins s σ H Q I h=>by
 refine FormattedValue_plain (dL (d pins s σ H _ I h) λv s1⟨x,H1,a,b,q⟩=>?_);rcases q with⟨y,rfl,hy,q⟩|⟨i,rfl,hi,q⟩
 ·obtain⟨c,rfl⟩:=b;exact formatField_str (λt' tk=>⟨.str y,H1,a.tok tk,⟨_,rfl⟩,q⟩) hy
 ·obtain⟨c,rfl⟩:=b;exact formatField_int_small hi ⟨.str _,H1,a.tok _,⟨_,rfl⟩,q⟩
def Ko(tv:TE):TE:=λσ H Q=>tv σ H λv H1=>(∃y,v=.str y/\(reprText y).length<=sizeLine/\Q (.str (reprText y)) H1)\/∃i:Int,v=.int i/\i.natAbs.log2<1920/\(Str.ofString (toString i)).length<=sizeLine/\Q (.str (toString i:String)) H1
theorem ko{e:Expr}{tv:TE}{pos:Pos}(d:PE X e tv):PE X (.FormattedValue e 114 none pos) (Ko tv):=λpins s σ H Q I h=>by
 refine wpAny_FormattedValue_repr (dL (d pins s σ H _ I h) λv s1⟨x,H1,a,b,q⟩=>?_);rcases q with⟨y,rfl,hy,q⟩|⟨i,rfl,hi,hz,q⟩
 ·obtain⟨c,rfl⟩:=b;refine pyReprObj_str ?_ hy;exact formatField_str (s:={s1 with toks:=s1.toks+1}) (λt' tk=>⟨.str _,H1,a.tok tk,⟨_,rfl⟩,q⟩) hy
 ·obtain⟨c,rfl⟩:=b;refine pyReprObj_int hi ?_;exact formatField_str (s:={s1 with toks:=s1.toks+1}) (λt' tk=>⟨.str _,H1,a.tok tk,⟨_,rfl⟩,q⟩) hz
end
theorem EZ{K:ah}{h:Heap}{C:Addr}{b:List Value}{a:String}(X:K.In h)(q:PySem.W.excIn K C b a=true):
  ∃bm N nm c bs hdct sn sub ab col dd k0 k1 k2 k3 k5 mN,h.get? C=some (excClassObj nm c C N bs bm hdct sn sub ab col dd k0 k1 k2 k3 k5 a)/\h.Ns N mN/\mN "__init__"=none/\OwnTail h b bm:=by
 unfold PySem.W.excIn at q;split at q
 case h_2=>cases q
 case h_1 dd cd sl ho=>
  split at q
  case h_2=>cases q
  case h_1 C1 bm k0 k1 k2 k3 n k5 hm hs=>
   simp only[beq_iff_eq,iY,bc]at q;obtain⟨⟨⟨⟨⟨i,k⟩,f⟩,j⟩,d⟩,e⟩:=q;subst i k;obtain⟨nm,bs,m,ns,c,hd,sn,sub,ab,col,g⟩:=cd;dsimp only at hm f d e;subst hm f;have es:sl=#[k0,k1,k2,k3,some (.builtin n),k5]:=by
    cases sl with
    |mk l=>
     have:l=[k0,k1,k2,k3,some (.builtin n),k5]:=hs;rw[this]
   subst es;exact⟨bm,ns,nm,c,bs,hd,sn,sub,ab,col,dd,k0,k1,k2,k3,k5,_,X _ _ ho,.of_isNs (PySem.W.isNs_of_in X d),PySem.W.nsMap_none_of_in X d e,PySem.W.tail_of_in X j⟩
def Gu(C:Addr)(E:XK)(t:TA):TS:=λ_ σ H=>t σ H λvs H1=>vs.length<=sizeLine/\E (.ref C) none H1
theorem fi{X:Cx}{E:XK}{x:Str}{C:Addr}{f:List Value}{B d e:String}{b:Expr}{rest:List Expr}{K cpos pos:Pos}{t:TA}(W:wE X E)(u:X.calm=true)(w:Gl X x)(G:X.mg x=some (.ref C))
  (q:PySem.W.excIn X.K C f d=true)(m:ExcBaseFacts B d e f)(A:PA X (b::rest) t)(k:(x==("__debug__":Str))=false:=by decide)
  (n:starEach (b::rest) X.env=(false,eval b X.env)::starEach rest X.env:=by rfl)(j:(backTo cpos (starEach rest X.env)).any (·.1)=false:=by rfl):
  PS X (.Raise (some (.Call (.Name x K) (b::rest) [] cpos)) none pos) (Gu C E t):=by
 intro pins s σ H D I h;obtain⟨bm,N,nm,o,bs,hdct,sn,sub,ab,col,dd,k0,k1,k2,k3,k5,mN,y,J,l,T⟩:=EZ I.mod.kin q;have g:(backTo cpos (starEach (b::rest) X.env)).any (·.1)=false:=by
  rw[n];exact j
 have c:=A cpos pins s σ H _ I h;refine wpAny_Raise_call_subT (C:=C) (nm:=nm) (q:=o) (N:=N) (bs:=bs) (bm:=bm) (hdct:=hdct) (sn:=sn) (sub:=sub) (ab:=ab) (col:=col) (dd:=dd) (k0:=k0) (k1:=k1) (k2:=k2) (k3:=k3) (k5:=k5) m (mN:=mN) (T.hasType m.hasBase) (I.ok.hd u) g l
  (kt I w G ⟨rfl,?_⟩ k)
 rw[n]at c⊢;exact Calls.evalArgs_plain (dL c λus F⟨vs,H1,i,r,v,p⟩=>⟨rfl,by show us.length<=sizeLine;rw[<-r.length];exact v,i.bk _ _ y,J.keeps i.bk,T.keeps i.bk,λh' a z=>W.made pins σ H1 F h' a _ _ i z p⟩)
def XA(X:Cx)(pins:List (Addr×Obj))(σ:St)(E:XK)(ex:Value)(s':Shared):Prop:=∃H1 s1,Inv X pins σ H1 s1/\kS X.prog X.w X.stack H1 s1 E ex s'
def PEX(X:Cx)(e:Expr)(t:XK->TE):Prop:=
 ∀(pins:List (Addr×Obj))(s:Shared)(σ:St)(H:Hp)(Q:VK)(E:XK),Inv X pins σ H s->t E σ H Q->wpAny (model X.prog X.w) X.A (eval e X.env) (EP X pins σ Q) (XA X pins σ E) s
def Ih(X:Cx)(st:Stmt)(t:XK->TS):Prop:=
 ∀(pins:List (Addr×Obj))(s:Shared)(σ:St)(H:Hp)(D:mB)(E:XK),Inv X pins σ H s->t E D σ H->wpAny (model X.prog X.w) X.A (exec st X.env) (SP X pins D) (XA X pins σ E) s
section
variable{X:Cx}{k:Nat}{x:Str}{ps:List Str}{sp:Sp}{p pos:Pos}{e:Expr}{es:List Expr}{t:TA}
theorem pR(c:dE X.prog X.w X.K X.mg X.base k x ps sp)(w:cF k X.A)(n:Gl X x)(v:PA X.nox (e::es) t)(i:(x==("__debug__":Str))=false:=by decide)
  (o:starEach (e::es) X.env=(false,eval e X.env)::starEach es X.env:=by rfl)(g:(backTo pos (starEach es X.env)).any (·.1)=false:=by rfl):
  PEX X (.Call (.Name x p) (e::es) [] pos) (λE=>qT sp [] E t):=by
 obtain⟨f,fd,F,y,l,m⟩:=c.ex;intro pins s σ H Q E I h;refine ft (kt I n y ?_ i);refine kC (h₀:=X.base) I.ok.mod.kin l (bX (v pos pins s σ H _ (I.wish _) h) (λus s1⟨vs,H1,a,r,q⟩=>⟨a.unwish.kIn,?_⟩) λ_ _ z=>False.elim z) o g;have d:=a.unwish;have j:cS (vs++[]) (us++[]):=r.append .nil;have A:(us++[]).length=ps.length:=by rw[<-j.length];exact F.len _ _ _ _ q
 refine qo (codeAny_mono (F.run X.A X.stack s1 H1 ⟨us,[]⟩ (us++[]) (vs++[]) Q E w d.env0 (m s1 us d.kIn A) j q) λr s' b=>?_);cases r with
 |error ex=>exact⟨H1,s1,d,b⟩
 |ok B=>
  cases B with
  |ret u=>exact d.after b
  |next=>exact False.elim b
  |brk=>exact False.elim b
  |cont=>exact False.elim b
theorem zK{i:Nat}{te:XK->TE}{pos':Pos}(l:X.N.Nodup)(hi:X.N[i]?=some x)(g:Ii X.env.scope x)(j:PEX X e te)(c:swapsWith e (some (.Name x pos')) pos.line X.env=pure false:=by rfl)(k:X.fn x=true\/X.env.scope.names.lookup x=some .local:=by first|exact .inl rfl|exact .inr rfl|assumption):
  Ih X (.Assign [.Name x pos'] e pos) (λE=>Eg (te E) (vL i)):=by
 intro pins s σ H D E I h;refine qG (dL (j pins s σ H _ E I h) λv s1⟨y,H1,a,d,b⟩=>?_) c;exact kY a l hi g d (λm f=>⟨_,H1,f,b⟩) k
end
def tE(a:Addr)(cls:Value):HO:=.ext λh=>∃b vs,h.get? a=some b/\b.cls=cls/\b.data=.fields vs
def Cx.mark(X:Cx)(v:Value):Cx:={X with A:=X.A.mark (some v),calm:=false,xe:=λ_ _=>False}
theorem Cx.Ok.mark{X:Cx}(ok:X.Ok)(v:Value):(X.mark v).Ok :=
 ⟨ok.mod,ok.kind,ok.glob,ok.blt,ok.above,ok.inj,ok.has,ok.cab,(λh=>nomatch h),ok.frames,ok.stk,ok.exf,ok.bs,ok.bsz,ok.noex,ok.exfs,ok.funs,ok.frf⟩
theorem Cx.Ok.unmark{X:Cx}{v:Value}(ok:(X.mark v).Ok)(hd:X.calm=true->X.A.handled=none):X.Ok:=
 ⟨ok.mod,ok.kind,ok.glob,ok.blt,ok.above,ok.inj,ok.has,ok.cab,hd,ok.frames,ok.stk,ok.exf,ok.bs,ok.bsz,ok.noex,ok.exfs,ok.funs,ok.frf⟩
section
variable{X:Cx}{pins:List (Addr×Obj)}{σ:St}{H:Hp}{s:Shared}{v:Value}
theorem Inv.mark(I:Inv X pins σ H s)(v:Value):Inv (X.mark v) pins σ H s:=⟨I.ok.mark v,I.os,I.bare,I.base,I.loc,I.cell,I.free,I.freeC,I.pin,I.hok,I.len⟩
theorem Inv.unmark(I:Inv (X.mark v) pins σ H s)(hd:X.calm=true->X.A.handled=none):Inv X pins σ H s:=⟨I.ok.unmark hd,I.os,I.bare,I.base,I.loc,I.cell,I.free,I.freeC,I.pin,I.hok,I.len⟩
theorem oV{M:Model}{A:Around}{E:Value->Shared->Prop}{i:Nat}{x:Str}{pos:Pos}{Q:Unit->Shared->Prop}(I:Inv X pins σ H s)(T:X.N.Nodup)(hi:X.N[i]?=some x)(K:X.env.scope.names.lookup x=some .local)
  (h:∀s',Inv X pins (σ.set i none) H s'->Q () s'):wpAny M A (do bindName X.env x .none;unbindBehindTheSuite X.env x pos) Q E s:=by
 obtain⟨m,hn,U⟩:=id I.loc;have P:(X.env.scope.kind== .class ||(X.env.scope.kind== .module &&X.env.locals != X.env.globals))=false:=by rw[I.ok.kind];rfl
 refine wpAny_nameGoes_keeps K hn P λh' Z C v=>h _ ?_;obtain⟨Y,_,_,O,_⟩:=id hn;have lo:∀b o,X.s₀.heap.get? b=some o->b≠X.env.locals:=λb o e=>bF (bo (aV e) I.ok.above);have kp:∀b o,b≠X.env.locals->s.heap.get? b=some o->h'.get? b=some o:=λb o g e=>(v.2 b g).trans e;refine⟨I.ok,I.os,I.bare,⟨λb o e n g l=>kp b o (lo b o e) (I.base.keep b o e n g l),λb o e n g l=>?_,I.base.free,λb o e l=>?_,I.base.tups,I.base.frzs,I.base.tbls⟩,⟨_,C,λj y D f t N=>?_⟩,λy c e=>?_,I.free,I.freeC,λp w=>?_,λb V e=>?_,by simpa using I.len⟩
 ·obtain⟨W,f⟩:=I.base.slot b o e n g l;exact⟨W,kp b _ (lo b o e) f⟩
 ·obtain⟨o',f⟩:=I.base.there b o e l;exact⟨o',kp b _ (lo b o e) f⟩
 ·by_cases B:j=i
  ·subst B;rw[iW (by rw[I.len];exact(b8.mp hi).1)]at t;cases t
  ·rw[jF (Ne.symm B)]at t;obtain⟨L,S,q⟩:=U j y D f t N;have J:y≠x:=λz=>B (m_ T f (z▸hi));refine⟨L,S,?_⟩;rcases q with⟨k,e⟩|⟨k,c,e,z⟩
   ·exact .inl ⟨k,by simp[J,e]⟩
   ·exact .inr ⟨k,c,e,z.sameBut v (I.cne y c e)⟩
 ·obtain⟨D,z⟩:=I.cell y c e;exact⟨D,z.sameBut v (I.cne y c e)⟩
 ·obtain⟨e,n,ne,R,d⟩:=I.pin p w;exact⟨kp _ _ ne e,n,ne,R,d⟩
 ·refine(I.hok b V e).stay (λc u a z=>kp c u ?_ z) (λ_ z=>z) λ_ _ z=>z;intro G;rcases a with a|a
  ·have F:=I.free;rw[<-G,a,e]at F;cases F
  ·rw[G,I.free]at a;cases a
end
theorem Fv{P:Program}{w:World}{fs:List Addr}{H H':Hp}{h0 h2:Heap}{a:Addr}{o:HO}(un:Un fs [] H H' h0 h2)(hok:lW P w H' h2)(k:h0.get? a=none)(d:H' a=none)(g:gf P w (upd H' a o) h2 a o):
  Un fs [] H (upd H' a o) h0 h2/\lW P w (upd H' a o) h2:=by
 refine⟨⟨un.keep,un.slot,λb i e n j=>?_,un.there,λb xs e=>?_,λb i u e=>?_,λb l e=>?_⟩,λb u e=>?_⟩
 ·rw[b5 (λz=>by rw[z,k]at e;cases e)];exact un.free b i e n j
 ·have z:=un.tups b xs e;rw[b5 (dN z d)];exact z
 ·have z:=un.frzs b i u e;rw[b5 (dN z d)];exact z
 ·obtain⟨f,z⟩:=un.tbls b l e;exact⟨f,by rw[b5 (dN z d)];exact z⟩
 ·by_cases h:b=a
  ·rw[h,ak]at e;rw[h,<-Option.some.inj e];exact g
  ·rw[b5 h]at e;exact(hok b u e).stay (λc v _ q=>q) (λc q=>by rw[b5 (dN q d)];exact q) λc xs q=>by rw[b5 (dN q d)];exact q
def Gs(K:ah)(c:Value)(i:Nat)(tb:XK->TS)(ts:TS):TS:=λD σ H=>
 tb (λcls _ H'=>yO K cls c=some true/\∀a,H' a=none->ts {nx:=λb H2=>D.nx (b.set i none) H2,rt:=D.rt,bk:=λb H2=>D.bk (b.set i none) H2,ct:=λb H2=>D.ct (b.set i none) H2} (σ.set i (some (.ref a))) (upd H' a (tE a cls))) D σ H
theorem Co{X:Cx}{st g:Stmt}{d:List Stmt}{n G:Str}{np E pos:Pos}{tb:XK->TS}{ts:TS}{i:Nat}{Dc:Addr}(hs:X.stack=X.env::X.outer)(hf:X.env.frame=some X.env.locals)
  (C:X.N.Nodup)(hi:X.N[i]?=some n)(p:X.env.scope.names.lookup n=some .local)(hg:Gl X G)(hm:X.mg G=some (.ref Dc))(hb:Ih X st tb)(V:∀v,PSs (X.mark v) (g::d) ts)(Z:(G==("__debug__":Str))=false:=by decide):
  PS X (.Try [st] [.ExceptHandler (some (.Name G np)) (some n) (g::d) E] [] [] pos) (Gs X.K (.ref Dc) i tb ts):=by
 intro pins s σ H D I h;refine wpAny_Try_except (fq (bX (hb pins s σ H D _ I h) (λf s1 q=>?_) (λex s1 q=>?_)))
 ·cases f with
  |next=>exact eU (eU q)
  |ret v=>exact q
  |brk=>exact q
  |cont=>exact q
 ·obtain⟨H1,P,I1,a,cls,H',rfl,os,bare,un,hok,⟨B,a0,f,k1,k2⟩,hE⟩:=q;have f':Heap.FlyingW B (X.env::X.outer) a cls a0 s1.heap:=by rw[<-hs];exact f
  have fr:∀{h2:Heap},B.StaysIn h2->s1.heap.UpToSlots h2->Un (je X.stack) [] H1 H' P.heap h2/\lW X.prog X.w H' h2:=λb2 up=>yA un hok f.1 b2 f.2.2.1 k1 k2 up;refine wpAny_looks_onW (L:=X.env.locals) (outer:=X.outer) (by rw[<-hs];exact I.ok.frames) hf f' λh4 x4 u4=>?_;refine wpAny_landsW x4 λF J O=>?_;have J5:Inv X pins σ H' {s1 with heap:=F}:=I1.call' (s':={s1 with heap:=F}) (ch:=[]) os (fr J.1 (u4.trans O)).1 (fr J.1 (u4.trans O)).2 bare λ_ z=>nomatch z;refine wpAny_handleBy_cons (codeAny_handlers_test ?_) (by intro q;cases q);refine kt (X:=X.mark (.ref a)) (J5.mark (.ref a)) hg hm ?_ Z;have LT:PySem.W.Looks (model X.prog X.w) F (typeOf (.ref a)) cls:=by
   obtain⟨T,R,hc⟩:=J.there;subst hc;exact(PySem.W.Looks.ld R).andThen .now
  refine PySem.W.Looks.here (s:={s1 with heap:=F}) (PySem.W.exm_one J5.kIn LT hE.1) ?_;show codeAny _ _ _ _ _;refine codeAny_handlers_suite_as (lands_againW J λS x6 u6=>?_);obtain⟨N,K⟩:=fr x6.1 ((u4.trans O).trans u6);obtain⟨oe,ws,Y,xd,x,_⟩:=f.first;have na:P.heap.get? a=none:=by
   cases q:P.heap.get? a with
   |none=>rfl
   |some o=>
    exfalso;by_cases w:a∈je X.stack
    ·obtain⟨_,o',y,xc⟩:=f.2.2.1.mem w;rw[Y]at y;exact xc _ ((bL Obj.data (Option.some.inj y)).symm.trans x)
    ·obtain⟨u',e'⟩:=k2 a o q w;rw[f.2.1]at e';cases e'
  have nH:H' a=none:=by
   cases q:H' a with
   |none=>rfl
   |some o=>
    obtain⟨u,e⟩:=k1 a o q;rw[f.2.1]at e;cases e
  have xb:gf X.prog X.w (upd H' a (tE a cls)) S a (tE a cls):=by
   obtain⟨t,xa,A,U,W,_⟩:=x6.first;exact⟨⟨t,xa,A,U,W⟩,⟨t,A⟩,λh1 h2⟨T,vs,e,r⟩k=>⟨T,vs,k T e,r⟩⟩
  obtain⟨Q,M⟩:=Fv N K na nH xb;have J7:Inv X pins σ (upd H' a (tE a cls)) {s1 with heap:=S}:=I1.call' (s':={s1 with heap:=S}) (ch:=[]) os Q M bare λ_ z=>nomatch z;refine kY (X:=X.mark (.ref a)) (v:=.ref a) (J7.mark (.ref a)) C hi (.inl p) rfl (λs8 J8=>?_) (.inr p);refine bX (V (.ref a) pins s8 _ _ _ J8 (hE.2 a nH)) (λfl s9 c=>?_) λ_ _ z=>False.elim z;cases fl with
  |next=>obtain⟨m,H2,j,c⟩:=c;exact oV (j.unmark I.ok.hd) C hi p λl b=>⟨_,H2,b,c⟩
  |brk=>obtain⟨m,H2,j,c⟩:=c;exact oV (j.unmark I.ok.hd) C hi p λl b=>⟨_,H2,b,c⟩
  |cont=>obtain⟨m,H2,j,c⟩:=c;exact oV (j.unmark I.ok.hd) C hi p λl b=>⟨_,H2,b,c⟩
  |ret u=>obtain⟨v,m,H2,j,rv,c⟩:=c;exact oV (j.unmark I.ok.hd) C hi p λl b=>⟨v,_,H2,b,rv,c⟩
open PySem PySem.W PySem.Spec PyProof.Rows Builtin Builtin.ObjectAttr Builtin.Getset_descriptor
structure kA(K:Frag)(D:Addr):Prop where
 ga:findIn K (.ref D) "__getattribute__"=some (some (.builtin "BaseException.__getattribute__"))
 gt:findIn K (.ref D) "__getattr__"=some none
 cl:findIn K (.ref D) "__class__"=some (some (.builtin "object.__class__"))
 hn:specialIn K (.builtin "object.__class__") "__get__"=some (some (.builtin "getset_descriptor.__get__"))
 tk:takesIn K (.builtin "object.__class__")=some true
 mo:mroIn K D (.type "object")=some true
 mb:mroIn K D (.type "BaseException")=some true
def qm(a D:Addr)(h:Heap):Prop:=∃b vs,h.get? a=some b/\b.cls=.ref D/\b.data=.fields vs
section
variable{prog:Program}{w:World}{A:Around}{E:Value->Shared->Prop}{s:Shared}{K:Frag}{a D:Addr}
theorem tD{M:Model}{h:Heap}(x:qm a D h):Looks M h (typeOf (.ref a)) (.ref D):=by
 obtain⟨b,vs,e,c,_⟩:=x;rw[<-c];exact(Looks.ld e).andThen .now
theorem Dw{M:Model}{h:Heap}(X:K.In h)(k:kA K D):Looks M h (Builtin.ObjectAttr.find (.ref a) (.ref D) "__class__") (.bind (.builtin "getset_descriptor.__get__") (.builtin "object.__class__")):=by
 have d:=looks_findIn (M:=M) X k.cl;have c:Looks M h (Builtin.ObjectAttr.getOf (some (.builtin "object.__class__"))) (some (.builtin "getset_descriptor.__get__")):=looks_specialIn X k.hn;have b:=looks_takesIn (M:=M) X k.tk;refine d.andThen (Looks.andThen (a:=some (.builtin "getset_descriptor.__get__")) c ?_);refine Looks.andThen (a:=some (.builtin "getset_descriptor.__get__",.builtin "object.__class__")) (b.andThen ?_) (Looks.tag .now);exact .now
theorem HM{R:Result->Shared->Prop}{b:Value}(X:K.In s.heap)(x:qm a D s.heap)(k:kA K D)(h:R (.ok (.ret (.ref D))) s):
  codeAny (model prog w) A (.call (.builtin "getset_descriptor.__get__") ⟨[.builtin "object.__class__",.ref a,b],[]⟩) R s:=by
 obtain⟨c,g,d,t,os⟩:=s;have e:=tD (M:=model prog w) x;have f:=looks_mroIn (M:=model prog w) X k.mo;refine codeAny_call_builtin KF.slot_gs.plain KF.entry_gs
  (KF.slot_gs.check _ _ _ _ _ _ _ _ KF.type_class (KF.args_gs _ _ _) ?_)
 unfold Builtin.«getset_descriptor.__get__» descrGet;rw[PySem.W.dga_obj];refine az (bd ?_);unfold descrGetter descrCheckInstance descrNameAndClass isInstance;simp only[KF.owner_class]
 repeat lk
 refine⟨Code.quiet_builtin _ Qk,codeAny_builtin KF.entry_class ?_⟩;unfold Builtin.«object.__class__» shownTypeOf
 repeat lk
 exact h
theorem A8{M:Model}{b:Value}{Q:Unit->Shared->Prop}(X:K.In s.heap)(x:qm a D s.heap)(k:kA K D)(h:Q () s):wpAny M A (checkBuiltinCall "BaseException.__getattribute__" ⟨[.ref a,b],[]⟩) Q E s:=by
 obtain⟨e,g,d,t,os⟩:=s;have i:=tD (M:=M) x;have f:=looks_mroIn (M:=M) X k.mb;have c:builtinKind "BaseException.__getattribute__"=some .slot:=Qk;have sp:splitId "BaseException.__getattribute__"=some ("BaseException","__getattribute__"):=Qk;have j:=F.args_bexc_ga (.ref a) b;simp only[checkBuiltinCall,c,sp];unfold isInstance
 repeat lk
 exact h
theorem A7{Q:Option Value->Shared->Prop}(X:K.In s.heap)(x:qm a D s.heap)(k:kA K D)(h:Q (some (.ref D)) {s with toks:=s.toks+1}):
  wpAny (model prog w) A (getAttr? (.ref a) "__class__") Q E s:=by
 obtain⟨i,g,d,t,os⟩:=s;have b:=tD (M:=model prog w) x;have f:=looks_findIn (M:=model prog w) X k.ga;have c:=looks_findIn (M:=model prog w) X k.gt;have j:=looks_mroIn (M:=model prog w) X k.mb;have e:=Dw (a:=a) (M:=model prog w) X k;unfold getAttr? getAttrBy?;refine az (wpAny_mkText (az (wpAny_attempt ?_)));unfold getAttrBy;refine fT (az (Looks.at b (az (Looks.at f ?_))));show wpAny _ _ (getAttrByItsOwn _ _ _ _ _ _) _ _ _;unfold getAttrByItsOwn hookBefore;refine az (Looks.at (t:=typeLookup (.ref D) "__getattr__") c ?_);refine az (wpAny_attempt (fT ?_));unfold callGetattribute boundAndCalled;rw[aG Qd];refine az (tS (F.excAttr_ValueError.ga.bind (.ref a)) ?_);refine qo (codeAny_call_builtin F.excAttr_ValueError.ga.plain F.entry_bexc_ga (A8 X x k ?_));unfold Builtin.«object.__getattribute__»;refine az (tS (a:=(Value.ref a,[Value.str "__class__" t])) rfl ?_);refine az (tS (a:=("__class__":Str)) rfl (az (Looks.at b (az (Looks.at e ?_)))));show wpAny _ _ (bindTo _ _ _ _) _ _ _;unfold bindTo;refine az (fT (qo (HM X x k ?_)));refine bd ?_;refine handed_on rfl ?_;exact bd h
theorem Af(k:kA K D):∃b,K.lookup D=some b/\∃c,b.data=.cls c:=by
 obtain⟨c,a,_⟩:=aj.mp k.mo;unfold clsIn at a;split at a
 case h_1 ho=>exact⟨_,ho,_,rfl⟩
 case h_2=>cases a
theorem vG(k:kA K D):KitX K (.ref a) (.ref D) (qm a D) where
 ty:=λ_ _ _ x=>tD x
 it:=λM h X _=>by
  obtain⟨i,e,_⟩:=Af k;intro j l E2 m kp q;unfold isType loadHead;refine az (wpAny_loadPart (kp _ _ (X _ _ e)) ?_);rename_i hd;obtain⟨f,b⟩:=hd;rw[b];exact bd q
 ne:=λh g dd d n o X c=>by
  obtain⟨i,e,f,b⟩:=Af k;refine Bool.eq_false_iff.mpr λq=>?_;have z:D=g:=Value.ref.inj (beq_iff_eq.mp q);subst z;have y:=(X _ _ e).symm.trans c;cases y;cases b
 ca:=λX x h=>A7 X x k h
theorem dS{X:Cx}:iM X (.builtin "isinstance") (λxs H Q=>∃a D C b,xs=[.ref a,.ref C]/\H a=some (tE a (.ref D))/\kA X.K D/\kitOne X.K (.ref D) (.ref C)=some b/\Q (.bl b) H):=by
 intro pins s σ H xs us Q I r h;obtain⟨a,D,C,b,rfl,c,k,e,q⟩:=h;obtain⟨g,i,rfl,d,f⟩:=tW r;cases d;cases f;have x:qm a D s.heap:=(I.hok a _ c).1;exact kia_one (vG k) I.kIn x e (λz=>nomatch z) λtk=>⟨.bl b,H,I.tok tk,rfl,q⟩
theorem qA{X:Cx}:iM X (.builtin "isinstance") (λxs H Q=>∃a D T b,xs=[.ref a,.ty T]/\H a=some (tE a (.ref D))/\kA X.K D/\kitOne X.K (.ref D) (.type T)=some b/\Q (.bl b) H):=by
 intro pins s σ H xs us Q I r h;obtain⟨a,D,T,b,rfl,c,k,e,q⟩:=h;obtain⟨g,i,rfl,d,f⟩:=tW r;cases d;cases f;have x:qm a D s.heap:=(I.hok a _ c).1;exact kia_one (vG k) I.kIn x e (λz=>nomatch z) λtk=>⟨.bl b,H,I.tok tk,rfl,q⟩
end
theorem tm{a b:Env}(h:a.frame=b.frame):PySem.frameOf a=PySem.frameOf b:=by
 unfold PySem.frameOf;rw[h]
theorem pX{x:Value}{b a:Env}(h:b.frame=a.frame):noteFrame x b=noteFrame x a:=by
 unfold noteFrame;rw[h,tm h]
section
variable{M:Model}{A:Around}{E:Value->Shared->Prop}{s:Shared}
theorem xE{base:Heap}{l:List Env}{e:Addr}{cls a0 B:Value}{fr:Option Addr}{Q:Unit->Shared->Prop}
  (u:base.StaysIn s.heap)(x:s.heap.FunFrames base l)(w:s.heap.TracedAtW base e cls a0 B)
  (h:∀h',base.StaysIn h'->h'.FunFrames base l->h'.TracedAtW base e cls a0 (fr.elim Value.none λf=>rawInt f)->(∀b o,s.heap.get? b=some o->(∀vs,o.data≠ .fields vs)->h'.get? b=some o)->Q () {s with heap:=h'}):
  wpAny M A (setFlight (.ref e) fr) Q E s:=by
 obtain⟨z,vs,T,C,ts,v,m,hd,h1,n,p,t,i,y⟩:=w;have j:3<ts.size:=(kF.mp y).1;have c:∀b,b≠T->(s.heap.update T (Obj.mapFields (·.setIfInBounds 3 (fr.elim Value.none λf=>rawInt f)))).get? b=s.heap.get? b:=
  λb d=>b6 _ _ (Ne.symm d)
 have a:∀b o,s.heap.get? b=some o->(∀vs,o.data≠ .fields vs)->b≠T:=λb o d g q=>by
  rw[q,t]at d;injection d with d;subst d;exact g ts i
 unfold setFlight;refine az (jB v hd h1 ?_);rw[aO (show(Value.ref T != Value.none)=true from by simp)];refine wpAny_setField t i j (h _ (λb o k=>(c b λq=>by rw[q,n]at k;cases k).trans (u b o k))
  (x.of_keeps λb o d g=>⟨o,(c b (a b o d g)).trans d,rfl⟩) ?_ λb o d g=>(c b (a b o d g)).trans d)
 exact⟨z,vs,T,_,_,(c e (Ne.symm p)).trans v,m,hd,h1,n,p,jf _ t (Obj.isFreed_of_fields (Obj.data_mapFields i _)),Obj.data_mapFields i _,by simp[j]⟩
theorem EY{i:Type}{base:Heap}{l:List Env}{e:Addr}{cls a0 w:Value}{env:Env}{a:String}{Q:i->Shared->Prop}
  (d:base.StaysIn s.heap)(v:s.heap.FunFrames base l)(g:s.heap.TracedAtW base e cls a0 w)
  (h:∀h' c,base.StaysIn h'->h'.FunFrames base l->h'.TracedAtW base e cls a0 c->(∀b o,s.heap.get? b=some o->(∀vs,o.data≠ .fields vs)->h'.get? b=some o)->E (.ref e) {s with heap:=h'}):
  wpAny M A (PySem.passOn a (.ref e) env:Sem i) Q E s:=by
 obtain⟨B,vs,T,x,ts,t,f,hd,h1,k,m,y,u,z⟩:=id g;unfold PySem.passOn;refine az (jB t hd h1 ?_);rw[aG (show¬(Value.ref T==Value.none)=true from by simp)];refine az (xE d v g λh' j q p n=>?_);exact wpAny_throw (h h' _ j q p n)
theorem Dg{base:Heap}{env:Env}{outer:List Env}{L e:Addr}{cls a0 G:Value}{Q:Unit->Shared->Prop}
  (y:A.frames=some (env::outer))(D:s.heap.FunFrames base (env::outer))(B:env.frame=some L)(C:s.heap.TracedAtW base e cls a0 G)(k:base.StaysIn s.heap)(w:base.get? e=none)
  (h:∀h',Heap.LeftW base (env::outer) e cls a0 s.heap h'->Q () {s with heap:=h'}):wpAny M A (leaving env (.ref e)) Q E s:=by
 obtain⟨I,vs,T,H,ts,z,⟨j,h0⟩,hd,h1,n,t,p,g,F⟩:=id C;unfold leaving noteFrame;simp only[B];refine az (az (jB z hd h1 ?_));rw[aO (show(Value.ref T != Value.none)=true from by simp)];refine az (jB p g F ?_);by_cases l:(G==rawInt L)=true
 ·rw[aO l];exact bd (wpAny_setFlight_noneW k D C λh' m x v u=>h h' ⟨m,x,v,λb o f d=>⟨o.slots,u b o f d⟩⟩)
 ·rw[aG l];subst j;refine az (wpAny_setField p g (kF.mp F).1 ?_);have c:∀b,b≠T->(s.heap.update T (Obj.mapFields (·.setIfInBounds 3 Value.none))).get? b=s.heap.get? b:=λb f=>b6 _ _ (Ne.symm f);have a:∀b o,s.heap.get? b=some o->(∀vs,o.data≠ .fields vs)->b≠T:=λb o f d q=>by
   rw[q,p]at f;injection f with f;subst f;exact d ts g
  refine wpAny_newEntryW y (D.of_keeps λb o f d=>⟨o,(c b (a b o f d)).trans f,rfl⟩) B ((c e (Ne.symm t)).trans z)
   (λb o i=>(c b λq=>by rw[q,n]at i;cases i).trans (k b o i)) w hd (kF.mp h1).1 h0
   λh'⟨m,x,v,u⟩=>h h' ⟨m,x,v,λb o f d=>u b o ((c b (a b o f d)).trans f) d⟩
end
theorem Dv{base h h':Heap}{C:Addr}(c:Heap.SameBut C h h'):∀{l:List Env},h.FunFrames base l->C∉je l->h'.FunFrames base l
 |[],_,_=>trivial
 |env::r,⟨f,⟨L,o,b,hn,d,hd⟩,g⟩,a=>by
  have e:je (env::r)=L::je r:=by
   show List.filterMap (·.frame) (env::r)=_;rw[jR,b];rfl
  rw[e]at a;exact⟨f,⟨L,o,b,hn,(c.2 L λz=>a (by rw[z];exact aA)).trans d,hd⟩,Dv c g λz=>a (aB _ z)⟩
theorem Fy{P:Program}{w:World}{l:List Env}{H H':Hp}{h0 h1 h2 B:Heap}(un:Un (je l) [] H H' h0 h1)(hok:lW P w H' h1)(s:B.StaysIn h1)(v:B.StaysIn h2)(x:h1.FunFrames B l)(k1:∀b o,H' b=some o->∃u,B.get? b=some u)
  (k2:∀b u,h0.get? b=some u->b∉je l->∃f,B.get? b=some f)(y:∀b u,b∈je l->h1.get? b=some u->(∀vs,u.data≠ .fields vs)->∃i,h2.get? b=some {u with slots:=i}):Un (je l) [] H H' h0 h2/\lW P w H' h2:=by
 have d:∀b u,h1.get? b=some u->(∃f,B.get? b=some f)->h2.get? b=some u:=λb u e⟨f,p⟩=>by
  have:=s b f p;rw[e]at this;rw[Option.some.inj this];exact v b f p
 have fr:∀b u,b∈je l->h1.get? b=some u->∃i,h2.get? b=some {u with slots:=i}:=λb u a e=>by
  obtain⟨_,o',h,hd⟩:=x.mem a;rw[e]at h;cases h;exact y b u a e hd
 refine⟨⟨λb o e n a g=>d b o (un.keep b o e n a g) (k2 b o e a),λb o e n a g=>?_,un.free,λb o e g=>?_,un.tups,un.frzs,un.tbls⟩,λb o e=>?_⟩
 ·obtain⟨i,j⟩:=un.slot b o e n a g;obtain⟨m,k⟩:=fr b _ a j;exact⟨m,k⟩
 ·obtain⟨o',j⟩:=un.there b o e g;by_cases a:b∈je l
  ·obtain⟨i,k⟩:=fr b o' a j;exact⟨_,k⟩
  ·exact⟨o',d b o' j (k2 b o e a)⟩
 ·refine(hok b o e).stay (λc u t q=>d c u q ?_) (λ_ q=>q) λ_ _ q=>q;rcases t with z|z
  ·rw[z];exact k1 b o e
  ·exact k1 c _ z
section
variable{X:Cx}{pins:List (Addr×Obj)}{σ:St}{H1:Hp}{s1 s':Shared}{E:XK}{M:Model}{E2 Es:Value->Shared->Prop}
theorem Dr{ex:Value}{C:Addr}{m:Str->Option Value}{t:Env}{W:String}(I:Inv X pins σ H1 s1)(hs:X.stack=X.env::X.outer)(hf:X.env.frame=some X.env.locals)(A:X.ex=[])(q:kS X.prog X.w X.stack H1 s1 E ex s')
  (hC:s1.heap.Ns C m)(fC:jy X pins H1 C)(j:C∉je X.stack)(xc:t.frame=X.env.frame):
  wpAny M X.A (noteFrame ex t) (λ_ s2=>∃m,s2.heap.Ns C m/\∀h',Heap.SameBut C s2.heap h'->∀h:Env,h.locals=C->
   wpAny M X.A (PySem.passOn W ex h:Sem Value) (λ_ _=>False) (λe s3=>wpAny M X.A (leaving X.env e) (λ_ s4=>kS X.prog X.w X.outer X.H₀ X.s₀ E e s4) E2 s3) {s2 with heap:=h'}) Es s':=by
 obtain⟨a,cls,H',rfl,os,bare,un,hok,⟨B,a0,f,k1,k2⟩,hE⟩:=q;have Q:X.A.frames=some (X.env::X.outer):=by rw[<-hs];exact I.ok.frames
 have R:Heap.FlyingW B (X.env::X.outer) a cls a0 s'.heap:=by rw[<-hs];exact f
 obtain⟨c0,c1,c2,x,c4,c5⟩:=fC;rw[pX xc];refine wpAny_noteFrame_onW (L:=X.env.locals) (outer:=X.outer) Q R.2.2.1 hf R.2.2.2 R.1 R.2.1 λh2 hN=>?_;obtain⟨x1,x2,x3,x4⟩:=hN;obtain⟨w,xm,xk,p,F,rC⟩:=id hC;have sC:s'.heap.get? C=some w:=un.keep C w p c0 j Qs;have K:h2.get? C=some w:=by
  obtain⟨D,k⟩:=k2 C w p j;have e:=f.1 C D k;rw[sC]at e;rw[Option.some.inj e];exact x1 C D k
 refine⟨m,⟨w,xm,xk,K,F,rC⟩,λh' O h _=>?_⟩;have BC:∃D,B.get? C=some D:=k2 C w p j;have L0:∀b,B.get? b=none->b<h'.objs.size->b∈(List.range h'.objs.size).filter λb=>(B.get? b).isNone:=λb e c=>jO.mpr ⟨eM.mpr c,by rw[e];rfl⟩;have L1:∀b,(∃u,B.get? b=some u)->b∉(List.range h'.objs.size).filter λb=>(B.get? b).isNone:=λb⟨u,e⟩z=>by
  have:=(jO.mp z).2;rw[e]at this;cases this
 generalize hLL:((List.range h'.objs.size).filter λb=>(B.get? b).isNone)=LL at L0 L1;have b1:(bH h' LL).StaysIn h':=λb o e=>fv _ e;have V:∀b u,h'.get? b=some u->(∃u,B.get? b=some u)->(bH h' LL).get? b=some u:=λb u e c=>fY _ e (L1 b c);have P:∀b,B.get? b=none->b<h'.objs.size->(bH h' LL).get? b=none:=λb e c=>jC _ (L0 b e c);have d:∀b o,b≠C->h2.get? b=some o->h'.get? b=some o:=λb o c e=>(O.2 b c).trans e;have xg:C∉je (X.env::X.outer):=by rw[<-hs];exact j
 have xh:h'.FunFrames (bH h' LL) (X.env::X.outer):=by
  refine DT (Dv O x2 xg) λenv y b c=>?_;have hm:b∈je (X.env::X.outer):=kD.mpr ⟨env,y,c⟩;obtain⟨n,o,ho,_⟩:=x2.mem hm;exact L0 b n (by rw[O.1];exact aV ho)
 have xn:h'.TracedAtW (bH h' LL) a cls a0 (rawInt X.env.locals):=by
  obtain⟨oe,vs,T,oT,ts,y,U,hd,h1,xa,xo,Z,G,h3⟩:=x3;have na:a≠C:=λz=>by
   rw[z,K]at y;cases y;rw[F]at hd;cases hd
  have nT:T≠C:=λz=>by
   rw[z,K]at Z;cases Z;rw[F]at G;cases G
  exact⟨oe,vs,T,oT,ts,d a _ na y,U,hd,h1,P T xa (by rw[O.1];exact aV Z),xo,d T _ nT Z,G,h3⟩
 have v:(bH h' LL).get? a=none:=by
  obtain⟨oe,_,_,_,_,y,_⟩:=x3;exact P a R.2.1 (by rw[O.1];exact aV y)
 refine EY (s:={s' with heap:=h'}) b1 xh xn λh3 xq y1 y2 y3 y4=>?_;refine Dg (s:={s' with heap:=h3}) (L:=X.env.locals) (outer:=X.outer) Q y2 hf y3 y1 v λh4 H=>?_;obtain⟨z1,z2,z3,z4⟩:=H;have S:H' C=none:=un.free C w p c0 Qs;have g:∀b o,(bH s1.heap [C]).get? b=some o->s1.heap.get? b=some o/\b≠C:=λb o e=>⟨fv _ e,λz=>by
  rw[jC [C] (by rw[z];exact Bq _)]at e;cases e⟩
 have xj:Un (je X.stack) [] H1 H' (bH s1.heap [C]) s'.heap:=⟨λb o e=>un.keep b o (g b o e).1,λb o e=>un.slot b o (g b o e).1,λb o e=>un.free b o (g b o e).1,λb o e=>un.there b o (g b o e).1,un.tups,un.frzs,un.tbls⟩;have i:∀b u,b≠C->B.get? b=some u->(bH h' LL).get? b=some u:=λb u c e=>V b u (d b u c (x1 b u e)) ⟨u,e⟩;have xi:(bH B [C]).StaysIn s'.heap:=λb o e=>f.1 b o (fv _ e);have xf:∀b o,(bH B [C]).get? b=some o->b≠C:=λb o e z=>by
  rw[jC [C] (by rw[z];exact Bq _)]at e;cases e
 have xd:(bH B [C]).StaysIn h4:=λb o e=>z1 b o (i b o (xf b o e) (fv _ e));have N:∀b u,b≠C->B.get? b=some u->(bH B [C]).get? b=some u:=λb u c e=>fY _ e λz=>c (cy.mp z);have xe:s'.heap.FunFrames (bH B [C]) X.stack:=by
  have:∀{l:List Env},s'.heap.FunFrames B l->s'.heap.FunFrames (bH B [C]) l:=λ{l}=>by
   induction l with
   |nil=>intro _;trivial
   |cons env r ih=>
    rintro⟨hk,⟨L,o,hf,hn,ho,hd⟩,hr⟩;refine⟨hk,⟨L,o,hf,?_,ho,hd⟩,ih hr⟩;cases e:(bH B [C]).get? L with
    |none=>rfl
    |some u=>
     rw[fv _ e]at hn;cases hn
  exact this f.2.2.1
 obtain⟨xp,xb⟩:=Fy xj hok xi xd xe (λb o e=>by
   obtain⟨u,hu⟩:=k1 b o e;exact⟨u,N b u (λz=>by rw[z,S]at e;cases e) hu⟩) (λb u e c=>by
   obtain⟨e1,Y⟩:=g b u e;obtain⟨D,k⟩:=k2 b u e1 c;exact⟨D,N b D Y k⟩) (λb u c e hd=>by
   have nb:b≠C:=λz=>j (z▸c);obtain⟨sl,Y⟩:=x4 b u e hd;have e3:=y4 b _ (d b _ nb Y) hd;obtain⟨xl,e4⟩:=z4 b _ e3 hd;exact⟨xl,e4⟩)
 have I':Inv X pins σ H1 {s1 with heap:=bH s1.heap [C]}:=I.turned (it:=C) (t':=s1.toks) (λb o c e=>fY _ e λz=>c (cy.mp z)) c0 c1 x c4 c5;have J:Inv X pins σ H' {s' with heap:=h4}:=I'.call' (s':={s' with heap:=h4}) (ch:=[]) os xp xb bare λ_ z=>nomatch z;refine tq A (B:=bH h' LL) (a0:=a0) ⟨z1,v,z2.2.2,z3⟩ (λb o e=>?_) (λb u e c=>?_) J hE
 ·obtain⟨u,hu⟩:=k1 b o e;exact⟨u,i b u (λz=>by rw[z,S]at e;cases e) hu⟩
 ·obtain⟨u1,e1⟩:=I.base.there b u e (by rw[A];simp);obtain⟨u2,Y⟩:=k2 b u1 e1 c;refine⟨u2,i b u2 (λz=>?_) Y⟩;rcases x with x|x
  ·rw[A]at x;cases x
  ·rw[z]at e;exact absurd (aV e) (Nat.not_lt.mpr x)
end
section
variable{prog:Program}{w:World}{A:Around}{R:Result->Shared->Prop}{s:Shared}
theorem tH{elt a iter:Expr}{ifs:List Expr}{scope:Scope}{pos:Pos}{it k:Value}{env:Env}(I:Nat->Shared->Prop)
  (t:∀n s,I n s->wpAny (model prog w) A (pyNext it) (λr b=>match r with
   |none=>R (.ok .next) b
   | some v=>wpAny (model prog w) A (letOwnedTupleGo a it v) (λ_ s₀=>wpAny (model prog w) A (assign a env v) (λ_ i=>
     wpAny (model prog w) A (forIn ifs true λc r=>if r=true then do let ok<-isTrue c env (eval c env);pure (ForInStep.yield ok)else pure (ForInStep.yield r)) (λok d=>
      if ok=true then wpAny (model prog w) A (eval elt env) (λx f=>
       wpAny (model prog w) A (call (.builtin "list.append") [k,x]) (λ_ j=>∃m,m<n/\I m j) (λ_ _=>False) f) (notedBy (model prog w) A env (λx s=>R (.error x) s)) d
      else∃m,m<n/\I m d) (λ_ _=>False) i) (λ_ _=>False) s₀) (λ_ _=>False) b) (λ_ _=>False) s)
  (n:Nat) (h:I n s):
  codeAny (model prog w) A (.compLoop (.ListComp elt [⟨a,iter,ifs,0⟩] scope pos) 0 it k env) R s:=by
 refine codeAny_loop rfl I (λn s u=>?_) n h;show wpAny _ A ((compTurn (.ListComp elt [⟨a,iter,ifs,0⟩] scope pos) 0 it k env).onRaise (λx=>do noteFrame x env;theTreesLotGoes x)) _ _ s;refine wpAny_noted ?_;rw[compTurn_list];refine az (lI (az (bX (t n s u) (λr b e=>?_) λ_ _ h'=>h'.elim)));cases r with
 |none=>exact bd e
 |some v=>
  refine az (bX e (λ_ s₀ l=>?_) λ_ _ h'=>h'.elim);refine az (bX l (λ_ i q=>az (bX q (λok d g=>?_) λ_ _ h'=>h'.elim)) λ_ _ h'=>h'.elim);cases ok with
  |false=>exact bd ⟨rfl,g⟩
  |true=>
   exact az (az (bX g (λx f o=>az (bX o (λ_ j p=>bd (bd ⟨rfl,p⟩)) λ_ _ h'=>h'.elim)) λ_ _ h'=>h'))
end
section
variable{X:Cx}{pins:List (Addr×Obj)}{σ:St}{H:Hp}{s:Shared}{scope:Scope}{N:List Str}{cl:List (Str×Addr)}{fp:List Addr}{o:Obj}
theorem yH{s':Shared}{H':Hp}{g:St}{pins':List (Addr×Obj)}(I:Inv X pins σ H s)(j:∀b∈fp,jy X pins H b)
  (J:Inv (dI X N scope cl {s with heap:=s.heap.push o} H (s.heap.objs.size::fp)) pins' g H' s'):
  Inv X pins σ H' s'/\jy X pins H' (s.heap.push o).objs.size/\(s.heap.push o).objs.size ∉je X.stack:=by
 have f:(s.heap.push o).objs.size=s.heap.objs.size+1:=dQ ..;have d:∀b u,s.heap.get? b=some u->b∉fp->b∉s.heap.objs.size::fp:=λb u e a z=>by
  rcases aq.mp z with z|z
  ·exact absurd (aV e) (by rw[z];exact dw _)
  ·exact a z
 have ps:∀b u,s.heap.get? b=some u->(s.heap.push o).get? b=some u:=λb u e=>aE _ e;refine⟨I.call' (ch:=fp) J.os ⟨λb u e q a c=>J.base.keep b u (ps b u e) q a (d b u e c),λb u e q a c=>J.base.slot b u (ps b u e) q a (d b u e c),λb u e q c=>J.base.free b u (ps b u e) q (d b u e c),λb u e c=>J.base.there b u (ps b u e) (d b u e c),
  J.base.tups,J.base.frzs,J.base.tbls⟩ J.hok J.bare (λb a=>?_),?_,?_⟩
 ·obtain⟨_,i,_,m,h,k⟩:=j b a;exact⟨m,i,h,k⟩
 ·have l:Inv X pins σ H {s with heap:=s.heap.push o}:=I.kept (t':=s.toks) λb u e=>aE _ e;exact l.fpOk (ao _) J.free
 ·exact I.nostk (by rw[f];exact kU _)
end
section
variable{X:Cx}{scope:Scope}{N:List Str}{xs:Nat}{js:List Nat}{tg iter elt:Expr}{ifs:List Expr}{pos:Pos}{ti:TI}{g:TG}{tt:TT}{teX:XK->TE}
theorem vT{EK:XK}{pins:List (Addr×Obj)}{s:Shared}{σ:St}{H:Hp}{Q:VK}{RR:Value->Addr->Result->Shared->Prop}{E:Value->Shared->Prop}{it:Addr}{fp:List Addr}{tn:Nat->Heap->Prop}{J:It}{cl:List (Str×Addr)}
  (hc:X.calm=true)(S:h_ X scope N xs js)(hg:∀cl s H ex,PG (dI X N scope cl s H ex) tg g)(ht:∀cl s H ex,PTs (dI X N scope cl s H ex) ifs tt)(he:∀cl s H ex,PEX (dI X N scope cl s H ex) elt teX)
  (h2:∀x c,cl.lookup x=some c->X.env.cells.lookup x=some c)(h4:∀y∈scope.names,y.2=.free->∃c,cl.lookup y.1=some c)
  (I:Inv X pins σ H s)(T:wF X.prog X.w X.K tg J fp it tn)(st:tn 0 s.heap)(hf:∀b∈fp,jy X pins H b)
  (hW:iL xs js g tt (teX EK) σ Q J H)
  (xu:∀(D C:Addr)(H1:Hp)(s1 s':Shared)(m:Str->Option Value)(e:Value)(l:Env),Inv X pins σ H1 s1->s1.heap.Ns C m->jy X pins H1 C->C∉je X.stack->kS X.prog X.w X.stack H1 s1 EK e s'->l.frame=X.env.frame->notedBy (model X.prog X.w) X.A l (λx s=>RR (.ref D) C (.error x) s) e s')
  (hR:∀(D C:Addr)(H':Hp)(s':Shared)(m:Str->Option Value),Inv X pins σ H' s'->s'.heap.Ns C m->jy X pins H' C->Q (.ref D) H'->RR (.ref D) C (.ok .next) s'):
  wpAny (model X.prog X.w) X.A (newList []) (λj t=>wpAny (model X.prog X.w) X.A (newFunctionEnv scope X.env.globals cl [] X.env.qual none .none (some X.env)) (λl xl=>
   codeAny (model X.prog X.w) X.A (.compStart (.ListComp elt [⟨tg,iter,ifs,0⟩] scope pos) 0 (.ref it) j {l with scope:=relabel scope X.env}) (RR j l.locals) xl) E t) E s:=by
 refine fK (FS S.nocell (by intro y hy;simp at hy) (λP A B=>?_) S.kind);dsimp only at A B⊢;obtain⟨W,⟨m0,w0⟩,xd⟩:=hW;have Y:∀b∈fp,∃u,s.heap.get? b=some u:=λb k=>let⟨u,hu,_⟩:=T.obj _ _ st b k;⟨u,hu⟩;have xp:(s.heap.push ({cls:=.type "list",dict:=none,data:=.seq ([]:List Value).toArray }:Obj)).objs.size=s.heap.objs.size+1:=dQ ..;have k3:∀b u,(s.heap.push ({cls:=.type "list",dict:=none,data:=.seq ([]:List Value).toArray }:Obj)).get? b=some u->P.get? b=some u:=λb u e=>
  (B.2 b (bF (aV e))).trans (aE _ e)
 have B0:=vS (X:=X) (N:=N) (xs:=xs) (js:=js) (tk:=s.toks+([]:List (Str×Value)).length) I S h2 h4 hf Y (λv z=>by cases z) rfl A k3;generalize hXc:dI X N scope cl {s with heap:=s.heap.push ({cls:=.type "list",dict:=none,data:=.seq ([]:List Value).toArray }:Obj)} H (s.heap.objs.size::fp)=Xc at B0;have eP:Xc.prog=X.prog:=by rw[<-hXc];rfl
 have eW:Xc.w=X.w:=by rw[<-hXc];rfl
 have eK:Xc.K=X.K:=by rw[<-hXc];rfl
 have eA:Xc.A=X.A:=by rw[<-hXc];rfl
 have eC:Xc.calm=true:=by rw[<-hXc];exact hc
 have eX:Xc.xe=λ_ _=>False:=by rw[<-hXc];rfl
 have eE:Xc.env=compEnvC scope cl (s.heap.push ({cls:=.type "list",dict:=none,data:=.seq ([]:List Value).toArray }:Obj)).objs.size X.env:=by rw[<-hXc];rfl
 have eF:Xc.fs=je X.stack:=by rw[<-hXc];rfl
 have xc:Xc.ex=s.heap.objs.size::fp:=by rw[<-hXc];rfl
 have xq:PG Xc tg g:=by rw[<-hXc];exact hg _ _ _ _
 have xw:PTs Xc ifs tt:=by rw[<-hXc];exact ht _ _ _ _
 have xt:PEX Xc elt teX:=by rw[<-hXc];exact he _ _ _ _
 have xf:∀x c,Xc.env.cells.lookup x=some c->X.env.cells.lookup x=some c:=by rw[eE];exact h2
 have xa:∀{H':Hp}{ob:Obj},(∀b∈fp,H' b=none)->∀b∈fp,jy Xc [(s.heap.objs.size,ob)] H' b:=λ{H' ob}hn b k=>by
  obtain⟨u,hu⟩:=Y b k;have xj:=aV hu;obtain⟨_,f1,f2,f3,f4,f5⟩:=hf b k;refine⟨hn b k,?_,?_,.inl ?_,λx c e=>f4 x c (xf x c e),λp L=>?_⟩
  ·rw[eE];show b≠(s.heap.push _).objs.size;rw[xp];exact bF (qL xj)
  ·rw[eF];intro z;rcases aq.mp (I.stkSub b z)with e|e
   ·exact f1 e
   ·exact f2 e
  ·rw[xc];exact aB _ k
  ·have e:p=(s.heap.objs.size,ob):=by
    rw[<-hXc]at L;simpa[dI]using L
   subst e;show s.heap.objs.size≠b;exact kf xj
 have R:∀t:Shared,t={s with heap:=P,toks:=s.toks+([]:List (Str×Value)).length }->
   codeAny (model X.prog X.w) X.A (.compLoop (.ListComp elt [⟨tg,iter,ifs,0⟩] scope pos) 0 (.ref it) (.ref s.heap.objs.size) (compEnvC scope cl (s.heap.push ({cls:=.type "list",dict:=none,data:=.seq ([]:List Value).toArray }:Obj)).objs.size X.env))
    (RR (.ref s.heap.objs.size) (s.heap.push ({cls:=.type "list",dict:=none,data:=.seq ([]:List Value).toArray }:Obj)).objs.size) t:=by
  rintro t rfl;refine tH (λn s'=>∃(i:Nat)(j:List V)(f:List Value)(c:Nat)(xm:St)(H':Hp),Inv Xc [(s.heap.objs.size,({cls:=.type "list",data:=.seq f.toArray c}:Obj))] xm H' s'/\cS j f/\tn i s'.heap/\
   (∀b∈fp,H' b=none)/\j.length<=sizeLine/\W i n j xm H') ?_ m0 ⟨0,[],[],0,_,H,B0,.nil,T.keep _ _ _ st λb _ u e=>k3 b u (aE _ e),λb k=>(hf b k).1,bV _,w0⟩
  rintro n s3⟨i,j,f,c,O,H3,I3,rv,xn,xb,hz,w3⟩;rcases xd i n j O H3 w3 with⟨stop,qn⟩|⟨go,x0,NN,xe,xk⟩
  ·have h:=T.done Xc eP eW eK eC i _ s3 O H3 (λ_ _=>False) I3 (xa xb) xn stop;rw[eA]at h;refine dL h λr s4⟨hr,I4⟩=>?_;subst hr;rw[<-hXc]at I4;obtain⟨a1,a2,a3⟩:=rF I hf I4 rv hz;obtain⟨mC,M,_⟩:=I4.loc;exact hR _ _ _ _ mC a1 M a2 (qn _ a3)
  ·have h:=T.item Xc eP eW eK eC i _ s3 O H3 (λ_ _=>False) I3 (xa xb) xn go;rw[eA]at h;refine dL h λr s4⟨u,hr,h4⟩=>?_;subst hr;refine dL h4 λ_ s5⟨x,H5,I5,r5,y5,Z,xy⟩=>?_;have xz:=I5.pinned (xa xy) (T.obj _ _ Z);have ha:=xq _ s5 O H5 x u _ xz r5 (xk x H5 y5);rw[eP,eW,eA,eE,eX]at ha;refine dL ha λ_ s6⟨K,H6,I6,q6⟩=>?_;have k:=xw _ s6 K H6 _ I6 q6;rw[eP,eW,eA,eE,eX]at k;refine dL k λok s7⟨H7,I7,q7⟩=>?_;have xh:∀{xi:St}{H8:Hp}{G:Shared},Inv Xc ([(s.heap.objs.size,({cls:=.type "list",data:=.seq f.toArray c}:Obj))]++mv fp s5.heap) xi H8 G->tn (i+1) G.heap/\∀b∈fp,H8 b=none:=λ{xi H8 G}I8=>by
    refine⟨T.keep _ _ _ Z λb k o e=>(I8.pin (b,o) (aZ _ (aZ _ (gr k e)))).1,λb k=>?_⟩;obtain⟨o,e,d⟩:=T.obj _ _ Z b k;exact(I8.pin (b,o) (aZ _ (aZ _ (gr k e)))).2.1
   cases ok with
   |false=>
    obtain⟨m',hm,w7⟩:=xe _ _ _ q7;obtain⟨t1,t2⟩:=xh I7;exact⟨m',hm,i+1,j,f,c,K,H7,I7.unpinned,rv,t1,t2,hz,w7⟩
   |true=>
    have hd:=xt _ s7 K H7 _ EK I7 q7;rw[eP,eW,eA,eE]at hd;refine bX hd (λv G⟨y,H8,I8,r8,q8⟩=>?_) (λe G hx=>?_)
    rotate_left
    ·obtain⟨H9,s9,U,xg⟩:=hx;obtain⟨mC,M,_⟩:=U.loc;have x1:=(U.unpinned.pin (s.heap.objs.size,({cls:=.type "list",data:=.seq f.toArray c}:Obj)) Qs).2.1;have eS:Xc.stack=X.stack:=by rw[<-hXc];rfl
     rw[eP,eW,eS]at xg;rw[eE]at M;rw[<-hXc]at U;obtain⟨J1,J2,J3⟩:=yH I hf U;exact xu _ _ H9 s9 G mC e _ J1 M J2 J3 xg rfl
    obtain⟨m',hm,w8⟩:=xe _ _ _ q8;obtain⟨t1,t2⟩:=xh I8;have U:=I8.unpinned;obtain⟨eD,nD,nC,nF,_⟩:=U.pin (s.heap.objs.size,({cls:=.type "list",data:=.seq f.toArray c}:Obj)) Qs;have x2:=rv.length;refine call_meets F.slot_list_append ⟨_,eD,rfl⟩ F.entry_list_append (F.args_list_append_2 _ _) (qH s.heap.objs.size f.toArray c v (by rw[bj];omega)) ⟨eD,?_⟩;obtain⟨n9,q⟩:∃n9,(G.heap.update s.heap.objs.size (Obj.mapSeq λa=>a.push v)).get? s.heap.objs.size=some ({cls:=.type "list",data:=.seq (f++[v]).toArray n9}:Obj):=by
     have q:=PySem.IsL.update eD (λa=>a.push v);have ea:f.toArray.push v=(f++[v]).toArray:=Qs;rw[ea]at q;exact⟨_,q⟩
    have xo:Inv Xc [] K H8 {G with heap:=G.heap.update s.heap.objs.size (Obj.mapSeq λa=>a.push v)}:=by
     refine(U.pins_of (pins':=[]) λp L=>nomatch L).turned (it:=s.heap.objs.size) (t':=G.toks) (λb u k e=>(b6 G.heap _ (Ne.symm k)).trans e) nD nC (.inl (by rw[xc];exact aA)) (λx cc e=>?_) (λp L=>?_)
     ·obtain⟨w0,oc,xv,_⟩:=I.cell x cc (xf x cc e);exact bF (aV xv)
     ·rw[<-hXc]at L;exact absurd L (by simp[dI])
    refine⟨m',hm,i+1,j++[y],f++[v],n9,K,H8,xo.pins_of λp L=>?_,rv.append (.cons r8 .nil),T.keep _ _ _ t1 λb k u e=>?_,t2,by rw[ae,cZ];omega,w8⟩
    ·have e:p=(s.heap.objs.size,({cls:=.type "list",data:=.seq (f++[v]).toArray n9}:Obj)):=by simpa using L
     subst e;exact⟨q,nD,nC,nF,λw z=>by cases z⟩
    ·have xr:b≠s.heap.objs.size:=by
      obtain⟨z,xx⟩:=Y b k;exact bF (aV xx)
     exact(b6 G.heap _ (Ne.symm xr)).trans e
 exact codeAny_compStart_list (R _ rfl) (T.self _ 0 _ _ _ (T.keep _ _ _ st λb _ u e=>k3 b u (aE _ e)) (R _ rfl))
def DL(X:Cx)(E:XK):Prop:=
 ∀(pins:List (Addr×Obj))(σ:St)(D C:Addr)(H1:Hp)(s1 s':Shared)(m:Str->Option Value)(e:Value)(a:Env)(Q:Value->Shared->Prop),Inv X pins σ H1 s1->s1.heap.Ns C m->jy X pins H1 C->C∉je X.stack->kS X.prog X.w X.stack H1 s1 E e s'->a.frame=X.env.frame->
  notedBy (model X.prog X.w) X.A a (λx s=>compPost (model X.prog X.w) X.A X.xe none Q (.ref D) C (.error x) s) e s'
theorem wT{P:Program}{w:World}{K:ah}{mg:Str->Option Value}{base:Heap}{N:List Str}{qual:Str}{scope:Scope}{f:Addr}{b:Value}{A:Around}{outer:List Env}{s:Shared}{H:Hp}{E:XK}:DL (jA (kS P w) P w K mg base N qual scope f b A outer s H E) E:=
 λpins σ D C H1 s1 s' m e a Q I hn c d q g=>Dr I rfl rfl rfl q hn c d g
theorem Cy{E:XK}(Z:DL X E)(B:X.calm=true)(S:h_ X scope N xs js)(hi:PI X tg iter ti)(F:∀cl s H ex,PG (dI X N scope cl s H ex) tg g)(V:∀cl s H ex,PTs (dI X N scope cl s H ex) ifs tt)
  (L:∀cl s H ex,PEX (dI X N scope cl s H ex) elt teX)(o:∀x,foldedSetIterable iter X.env x=pure x:=by intro _;rfl):
  PE X (.ListComp elt [⟨tg,iter,ifs,0⟩] scope pos) (BI xs js ti g tt (teX E)):=by
 intro pins s σ H Q I h;obtain⟨cl,G,h2,M⟩:=mz (scope:=scope) (env:=X.env) λy w e=>I.ok.has y.1 (S.caught y w e);rw[eval_ListComp];refine lJ (use:=none) rfl o G S.kind S.once (dL (hi pins s σ H _ I h) λv s1 h1=>dL h1 λl s2 i=>?_);obtain⟨it,fp,tn,J,H2,e,A,T,d,R,p⟩:=i;subst e;refine vT (EK:=E) (RR:=λf C=>compPost (model X.prog X.w) X.A X.xe none (EP X pins σ Q) f C) B S F V L h2 M A T d R p (λD C H1 s1 s' m e a k hn z c q O=>Z pins σ D C H1 s1 s' m e a _ k hn z c q O) λD C H' s' m U hn c q=>?_;obtain⟨Y,K,_,W,n,P⟩:=c;exact⟨m,hn,λh' j=>⟨.ref D,H',U.turned (it:=C) (t':=s'.toks) (λb u t e=>(j.2 b t).trans e) Y K W n P,rfl,q⟩⟩
end
def Kv(tc:TT)(ta tb:XK->TS):XK->TS:=λE D σ H=>tc σ H λd H1=>if d=true then ta E D σ H1 else tb E D σ H1
theorem GO{X:Cx}{c:Expr}{a b:Stmt}{pos:Pos}{tc:TT}{ta tb:XK->TS}(l:PT X.nox c tc)(n:Ih X a ta)(m:Ih X b tb):Ih X (.If c [a] [b] pos) (Kv tc ta tb):=by
 intro pins s σ H D E I h;refine wpAny_If (bX (l pins s σ H _ (I.wish _) h) (λd s1⟨H1,g,j⟩=>?_) λ_ _ z=>False.elim z);have k:=g.unwish;have one:∀{st:Stmt}{t:XK->TS},Ih X st t->t E D σ H1->wpAny (model X.prog X.w) X.A (execs [st] X.env) (SP X pins D) (XA X pins σ E) s1:=λ{st t}i q=>by
  refine fq (dL (i pins s1 σ H1 D E k q) λf o e=>?_);cases f with
  |next=>exact eU e
  |ret v=>exact e
  |brk=>exact e
  |cont=>exact e
 cases d with
 |true=>exact one n j
 |false=>exact one m j
namespace Tx
open Builtin Builtin.Str PySem.StrLaws
def n8(k:Nat):Nat->List Str->List Nat
 |_,[]=>[]
 |_,[_]=>[]
 |a,p::q::r=>(a+p.length)::n8 k (a+p.length+k) (q::r)
theorem zC{x y:Str}{hi lim:Nat}:∀(l m:List Nat)(st:Array Nat×Nat),(∀i∈l,i<st.2\/¬At x y hi i)->(forIn (l++m) st (occBody x y hi lim)).run=(forIn m st (occBody x y hi lim)).run
 |[],m,st,_=>rfl
 |a::l,m,st,h=>by
  have e:(forIn (a::l++m) st (occBody x y hi lim)).run=(forIn (l++m) st (occBody x y hi lim)).run:=by
   rw[cR,jP];have hn:¬(((st.fst.size<lim/\st.snd<=a)/\a+y.length<=hi)/\subAt x y a=true):=λz=>by
    rcases h a aA with q|q
    ·have:=z.1.1.2;omega
    ·exact q ⟨z.1.2,z.2⟩
   unfold occBody;rw[aG hn];rfl
  rw[e];exact zC l m st λi b=>h i (aB _ b)
theorem Iw{x y:Str}{hi lim a:Nat}{m:List Nat}{st:Array Nat×Nat}(h1:st.1.size<lim)(h2:st.2<=a)(b:At x y hi a):(forIn (a::m) st (occBody x y hi lim)).run=(forIn m (st.1.push a,a+y.length) (occBody x y hi lim)).run:=by
 rw[jP];have c:((st.fst.size<lim/\st.snd<=a)/\a+y.length<=hi)/\subAt x y a=true:=⟨⟨⟨h1,h2⟩,b.1⟩,b.2⟩
 conv=>lhs;unfold occBody
 rw[aO c];rfl
theorem bQ(x:Str):x.cps.toList.length=x.length:=by simp[Str.length]
theorem iH(x y:Str):(x++y).cps.toList=x.cps.toList++y.cps.toList:=jS
theorem wA{x y:Str}{c i:Nat}{r:List Nat}(a:y.cps.toList=c::r)(h:At x y x.length i):x.cps.toList[i]?=some c:=by
 have h2:=h.2;rw[subAt_eq]at h2;have e:=eq_of_beq h2;have b:y.length=r.length+1:=by rw[<-bQ,a];rfl
 rw[a,b]at e;cases q:x.cps.toList.drop i with
 |nil=>rw[q]at e;cases e
 |cons d t=>
  rw[q,oM]at e;have hd:d=c:=(List.cons.inj e).1;have:(x.cps.toList.drop i)[0]?=some d:=by rw[q];rfl
  rw[List.getElem?_drop]at this;rw[<-hd];simpa using this
theorem uZ{x y:Str}{c lim:Nat}{cs:List Nat}(f:y.cps.toList=c::cs):∀(parts:List Str)(A:List Nat)(a:Array Nat)(free:Nat),parts≠ []->(∀p∈parts,c∉p.cps.toList)->
  x.cps.toList=A++(Str.join y parts).cps.toList->free<=A.length->a.size+parts.length<=lim->
  (forIn (List.range' A.length ((Str.join y parts).length +1)) (a,free) (occBody x y x.length lim)).run.1.toList=a.toList++n8 y.length A.length parts
 |[],_,_,_,h,_,_,_,_=>absurd rfl h
 |[p],A,a,free,_,g,k,t,l=>by
  have b:x.cps.toList=A++p.cps.toList:=k;have e:=zC (x:=x) (y:=y) (hi:=x.length) (lim:=lim) (List.range' A.length (p.length+1)) [] (a,free) λi hi=>.inr λz=>by
   have h1:=wA f z;have d:=qM.mp hi;rw[b,fz d.1]at h1;exact g p aA (bR h1)
  rw[bq]at e;show(forIn (List.range' A.length (p.length+1)) (a,free) (occBody x y x.length lim)).run.1.toList=_;rw[e];show a.toList=a.toList++[];rw[bq]
 |p::q::r,A,a,free,_,g,k,t,l=>by
  have n:Str.join y (p::q::r)=p++y++Str.join y (q::r):=rfl;have b:x.cps.toList=A++(p.cps.toList++(y.cps.toList++(Str.join y (q::r)).cps.toList)):=by
   rw[k,n,iH,iH,ax]
  have u:(Str.join y (p::q::r)).length=p.length+(y.length+(Str.join y (q::r)).length):=by
   rw[<-bQ,n,iH,iH,ae,ae,bQ,bQ,bQ];omega
  have o:y.length=cs.length+1:=by rw[<-bQ,f];rfl
  have v:x.length=A.length+(p.length+(y.length+(Str.join y (q::r)).length)):=by
   rw[<-bQ x,b,ae,ae,ae,bQ,bQ,bQ]
  have sp:List.range' A.length ((Str.join y (p::q::r)).length +1)=List.range' A.length p.length++((A.length+p.length)::(List.range' (A.length+p.length+1) (y.length-1)++List.range' (A.length+p.length+y.length) ((Str.join y (q::r)).length +1))):=by
   rw[u,show p.length+(y.length+(Str.join y (q::r)).length)+1=p.length+(1+((y.length-1)+((Str.join y (q::r)).length +1)))by omega,<-oh,<-oh,<-oh];rw[show A.length+p.length+1+(y.length-1)=A.length+p.length+y.length by omega];rfl
  rw[sp,zC _ _ _ λi hi=>.inr λz=>?_]
  ·have j:At x y x.length (A.length+p.length):=by
    refine⟨Qo,?_⟩;rw[subAt_eq,b,<-ax,List.drop_left' (by rw[ae,bQ]),List.take_left' (bQ y)];exact beq_self_eq_true _
   rw[Iw (by show a.size<lim;simp only[aK]at l;omega) (by show free<=_;omega) j,zC _ _ _ λi hi=>.inl ?_]
   ·have m:=uZ (x:=x) (lim:=lim) f (q::r) (A++p.cps.toList++y.cps.toList) (a.push (A.length+p.length)) (A.length+p.length+y.length) Qs (λz s=>g z (aB _ s)) (by rw[b];simp only[ax])
     (by rw[ae,ae,bQ,bQ];omega) (by rw[Array.size_push];simp only[aK]at l⊢;omega)
    rw[show(A++p.cps.toList++y.cps.toList).length=A.length+p.length+y.length by rw[ae,ae,bQ,bQ]]at m;rw[m,Array.toList_push,ax];rfl
   ·have d:=qM.mp hi;show i<A.length+p.length+y.length;omega
  ·have h1:=wA f z;have d:=qM.mp hi;rw[b,fz d.1,ii (by rw[bQ];omega)]at h1;exact g p aA (bR h1)
theorem pU{x y:Str}:∀(parts:List Str)(A:List Nat),parts≠ []->x.cps.toList=A++(Str.join y parts).cps.toList->partsFrom x y.length A.length (n8 y.length A.length parts)=parts
 |[],_,h,_=>absurd rfl h
 |[p],A,_,b=>by
  have a:x.cps.toList=A++p.cps.toList:=b;show [strSub x A.length x.length]=[p];congr 1;refine du ?_;rw[strSub_toList,a,oi,bW];rw[<-bQ x,a,ae];omega
 |p::q::r,A,_,b=>by
  have d:Str.join y (p::q::r)=p++y++Str.join y (q::r):=rfl;have a:x.cps.toList=A++(p.cps.toList++(y.cps.toList++(Str.join y (q::r)).cps.toList)):=by
   rw[b,d,iH,iH,ax]
  have c:=pU (x:=x) (y:=y) (q::r) (A++p.cps.toList++y.cps.toList) Qs (by rw[a];simp only[ax]);rw[show(A++p.cps.toList++y.cps.toList).length=A.length+p.length+y.length by rw[ae,ae,bQ,bQ]]at c;show strSub x A.length (A.length+p.length)::partsFrom x y.length (A.length+p.length+y.length) (n8 y.length (A.length+p.length+y.length) (q::r))=_;rw[c];congr 1;refine du ?_;rw[strSub_toList,a,oi,Bp,List.take_left' (bQ p)]
theorem wZ{y:Str}{c:Nat}{cs:List Nat}(d:y.cps.toList=c::cs){parts:List Str}(hn:parts≠ [])(e:∀p∈parts,c∉p.cps.toList)(i:Builtin.Str.strKind y<=1)(g:parts.length<=(Str.join y parts).length +1):PySem.Txt.split (Str.join y parts) y=parts:=by
 have b:occurrences (Str.join y parts) y 0 (Str.join y parts).length ((Str.join y parts).length +1)=n8 y.length 0 parts:=by
  rw[occ_eq];have h:=uZ (x:=Str.join y parts) (lim:=(Str.join y parts).length +1) d parts [] #[] 0 hn e rfl (ao _) (by simpa using g);simpa using h
 have a:=pU (x:=Str.join y parts) (y:=y) parts [] hn rfl;unfold PySem.Txt.split;rw[b,partsBetween_eq]
 match parts,hn,a with
 |[p],_,_=>
  show(if _ then [p]else if _ then [p]else _)=[p];split
  ·rfl
  ·rfl
 |p::q::r,_,a=>
  have f:Str.join y (p::q::r)=p++y++Str.join y (q::r):=rfl;have j:(Str.join y (p::q::r)).length=p.length+y.length+(Str.join y (q::r)).length:=by
   rw[<-bQ,f,iH,iH,ae,ae,bQ,bQ,bQ]
  have k1:1<=Builtin.Str.strKind (Str.join y (p::q::r)):=by
   unfold Builtin.Str.strKind;split
   ·exact ao _
   ·split<;>omega
  rw[aG (by simp only[eV,aD];omega),aG (by simp[n8])];exact a
end Tx
namespace Tx
open PySem.NumText PySem.W
def numT(i:Int):Str:=(toString i:String)
def dg(m:Nat):List Nat:=(Nat.toDigits 10 m).map Char.toNat
theorem m6(m:Nat):(numT (m:Int)).cps.toList=dg m:=KIN.signs_num m
theorem u_(m:Nat):(numT (Int.negSucc m)).cps.toList=45::dg (m+1):=by
 show(Str.ofString ("-"++toString (m+1))).cps.toList=_;rw[signs_ofString];show("-"++Nat.repr (m+1)).toList.map Char.toNat=_;rw[String.toList_append,aT,Nat.toList_repr];rfl
theorem n0(m:Nat):AllDigits (dg m):=λc a=>by
 obtain⟨d,hd,e⟩:=cU.mp a;rw[<-e];exact digit_range (Nat.isDigit_of_mem_toDigits Qd Qd hd)
theorem Ah(m:Nat):dg m≠ []:=λe=>by
 have h:=toDigits_len_ge 10 m;rw[Ge.mp e]at h;exact absurd h Qd
theorem Dz{m k:Nat}(a:0<k)(h:m<10^k):(dg m).length<=k:=by
 have:=toString_length_le (v:=(m:Int)) Qo a (by exact_mod_cast h);have e:=m6 m;rw[<-e,bQ];exact this
theorem Ag{m:Nat}(h:(dg m)[0]?=some 48):m=0:=by
 induction m using Nat.strongRecOn with
 |_ m b=>
  by_cases a:m<10
  ·unfold dg at h;rw[lZ a]at h;revert h;revert a;revert m;intro m _ a h;have:∀d:Nat,d<10->([Nat.digitChar d].map Char.toNat)[0]?=some 48->d=0:=Qd;exact this m a h
  ·have e:m%10<10:=Nat.mod_lt m Qd;have t:Nat.toDigits 10 (m/10)++Nat.toDigits 10 (m%10)=Nat.toDigits 10 (10*(m/10)+m%10):=wJ Qd Qo e;rw[Nat.div_add_mod]at t;have h':(dg (m/10))[0]?=some 48:=by
    have c:0<(dg (m/10)).length:=e_.mpr (Ah _);unfold dg at h;rw[<-t,aT,ii (show 0<(List.map Char.toNat (Nat.toDigits 10 (m/10))).length from c)]at h;exact h
   have:=b (m/10) Qo h';omega
theorem pi{x:Str}{c:Nat}:PySem.Txt.startswith x ⟨#[c]⟩=decide (x.cps.toList[0]?=some c):=by
 unfold PySem.Txt.startswith;rw[PySem.StrLaws.subAt_eq,List.drop_zero,be];have a:=bQ x;cases hx:x.cps.toList with
 |nil=>rw[hx]at a;simp at a⊢
 |cons d r=>
  rw[hx]at a;simp at a;have:x.length=r.length+1:=Qo;have h2:1<=x.cps.size:=by have:x.length=x.cps.size:=rfl;omega
  simp[this,Str.length,h2]
end Tx
section
variable{X:Cx}
theorem yY:∀{ys:List Str}{us:List Value},cS (ys.map V.str) us->∃l:List (Str×Tok),us=strValues l/\l.map (·.1)=ys
 |[],_,h=>by cases h;exact⟨[],rfl,rfl⟩
 |y::r,_,h=>by
  cases h with
  |cons a b=>
   obtain⟨t,rfl⟩:=a;obtain⟨l,rfl,e⟩:=yY b;exact⟨(y,t)::l,rfl,by rw[b7,e]⟩
theorem qQ:∀(l:List (Str×Tok)),cS ((l.map (·.1)).map V.str) (strValues l)
 |[]=>.nil
 |(x,t)::r=>.cons ⟨t,rfl⟩ (qQ r)
def IP(K:ah):V->List V->Hp->VK->Prop:=λx vs H Q=>∃a p ys,x=.str a/\vs=[.ref p]/\SqL K H p (ys.map V.str)/\a.length<=16/\(ys.map (·.length)).sum +ys.length<=1048576/\Q (.str (Str.join a ys)) H
theorem fQ:JW X "str.join" (IP X.K):=by
 intro pins s σ H x vs v us Q I i b h;obtain⟨a,p,ys,rfl,rfl,f,d,hw,q⟩:=h;obtain⟨t,rfl⟩:=i;obtain⟨u,rfl,g⟩:=b.one;cases g;obtain⟨c,r,pl,j⟩:=I.list f;obtain⟨l,rfl,e⟩:=yY r;refine PySem.SC.join pl.isList e (joinOk_of_weight hw d) λt' k=>⟨.str _,H,I.tok k,⟨t',?_⟩,q⟩;show Value.str (Builtin.Str.glued a ys) t'=_;rw[wN]
def GK:V->List V->Hp->VK->Prop:=λx vs H Q=>∃z y,x=.str z/\vs=[.str y]/\(y.length==0)=false/\z.length+2<=sizeLine/\∀l,H l=none->Q (.ref l) (upd H l (.lst ((PySem.Txt.split z y).map V.str)))
theorem vE:JW X "str.split" GK:=by
 intro pins s σ H x vs v us Q I g f h;obtain⟨z,y,rfl,rfl,d,i,q⟩:=h;obtain⟨t,rfl⟩:=g;obtain⟨u,rfl,c,rfl⟩:=f.one;have a:∀(l:List (Str×Tok))(k:Nat),l.map (·.1)=PySem.Txt.split z y->EP X pins σ Q (.ref s.heap.objs.size) {s with toks:=k,heap:=s.heap.push {cls:=.type "list",data:=.seq (strValues l).toArray }}:=λl k e=>
  ⟨.ref s.heap.objs.size,_,I.lnew (t':=k) (qQ l) (by rw[ay,ay];have:=len_le_of_split e;omega),rfl,by rw[e];exact q _ I.fresh⟩
 have b:(Builtin.Str.partsBetween z (Builtin.Str.occurrences z y 0 z.length (z.length+1)) y.length).length<=sizeLine:=by
  have:=PySem.StrLaws.occ_length_le z y 0 z.length (z.length+1);rw[length_partsBetween];omega
 cases c1:(decide (z.length<y.length)||decide (Builtin.Str.strKind z<Builtin.Str.strKind y))with
 |true=>
  exact call_meets gu (typeIs_str _ _ _) lY (lK _ _) (meets_str_split_cannot_occur z y t c c1) (a [(z,t)] s.toks (aO c1).symm)
 |false=>
  cases c2:(Builtin.Str.occurrences z y 0 z.length (z.length+1)).isEmpty with
  |true=>exact call_meets gu (typeIs_str _ _ _) lY (lK _ _) (meets_str_split_not_found z y t c c1 d c2) (a [(z,t)] s.toks ((aG (ne_true_of_eq_false c1)).trans (aO c2)).symm)
  |false=>
   refine call_meets gu (typeIs_str _ _ _) lY (lK _ _) (meets_str_split_sep z y t c c1 d c2 Qo b) ?_;have e:=a (numbered s.toks (Builtin.Str.partsBetween z (Builtin.Str.occurrences z y 0 z.length (z.length+1)) y.length)) (s.toks+(Builtin.Str.partsBetween z (Builtin.Str.occurrences z y 0 z.length (z.length+1)) y.length).length) ((numbered_texts _ _).trans ((aG (ne_true_of_eq_false c1)).trans (aG (ne_true_of_eq_false c2))).symm);rw[<-strsFrom_eq]at e;exact e
def ED:V->List V->Hp->VK->Prop:=λx vs H Q=>∃z y,x=.str z/\vs=[.str y]/\Q (.bl (PySem.Txt.startswith z y)) H
theorem rk:JW X "str.startswith" ED:=by
 intro pins s σ H x vs v us Q I b a h;obtain⟨z,y,rfl,rfl,q⟩:=h;obtain⟨t,rfl⟩:=b;obtain⟨u,rfl,c,rfl⟩:=a.one;exact PySem.SC.startswith ⟨.bl _,H,I,rfl,q⟩
theorem Bb:iM X (.type "int") (λxs H Q=>∃x n,xs=[.str x]/\PySem.intText? x=some n/\x.length<=640/\Q (.int n) H):=by
 intro pins s σ H xs us Q I r h;obtain⟨x,n,rfl,hn,a,q⟩:=h;obtain⟨u,rfl,t,rfl⟩:=kG r;exact PySem.W.KIN.call_text hn a ⟨.int n,H,I.tok _,⟨_,rfl⟩,q⟩
end
def DO(lo c:Int)(n:Nat):It:=⟨λi _=>i<n,λi H v H'=>H'=H/\v=.int (lo+i*c),λi _=>n<=i⟩
theorem t_{P:Program}{w:World}{K:ah}{tg:Expr}(it:Addr)(lo c:Int)(n:Nat):wF P w K tg (DO lo c n) [it] it (λi h=>IsRangeIter h it (lo+(i:Nat)*c) ((n:Int)-(i:Nat)) c) where
 mem:=Qs
 obj:=λi h st b a=>by
  have e:b=it:=by simpa using a
  subst e;exact⟨_,st,λv z=>by
   have D:Data.fields _=Data.cell v:=z;cases D⟩
 keep:=λi h h' st k=>k it Qs _ st
 item:=by
  intro X x hw g l i pins s σ H E I f st m;subst x hw g;obtain⟨y,p,F,u,j,q⟩:=f it Qs;have W:=Walks.range (prog:=X.prog) (w:=X.w) (I.ok.hd l) it lo c n;refine W.item i s _ _ m st λv h' tk B d G=>?_;obtain⟨t,rfl⟩:=B;have A:Inv X pins σ H {s with heap:=h',toks:=tk}:=I.turned (λb o a e=>G b o (by simpa using a) e) y p u j q;exact⟨_,rfl,rs (s:={s with heap:=h',toks:=tk}) (n:="range_iterator") d rfl rfl Qd ⟨.int (lo+i*c),H,A,⟨t,rfl⟩,⟨rfl,rfl⟩,d,λb a=>(f b a).1⟩⟩
 done:=by
  intro X x hw g l i pins s σ H E I f st m;subst x hw g;obtain⟨y,p,F,u,j,q⟩:=f it Qs;exact DQ (I.ok.hd l) st (by have:n<=i:=m;omega) λh' C=>⟨rfl,I.turned (t':=s.toks) (λb o a e=>C b o a e) y p u j q⟩
 self:=λ_ _ _ _ _ st h=>DR st h
def JC(ta:TA):TI:=λσ H R=>ta σ H λvs H1=>∃(i j c:Int)(n:Nat),vs=[.int i,.int j,.int c]/\c≠0/\c.natAbs<1073741824/\Builtin.Range.small i j c=true/\Builtin.Range.rangeSize i j c=(n:Int)/\R (DO i c n) H1
theorem AG{X:Cx}{tg a b c:Expr}{ta:TA}{p pos:Pos}(y:Gl X "range")(B:X.mg "range"=none)(A:PA X [a,b,c] ta)(v:starEach [a,b,c] X.env=[(false,eval a X.env),(false,eval b X.env),(false,eval c X.env)]:=by rfl)
  (g:starEach [b,c] X.env=[(false,eval b X.env),(false,eval c X.env)]:=by rfl):PI X tg (.Call (.Name "range" p) [a,b,c] [] pos) (JC ta):=by
 intro pins s σ H R I h;refine Call_ (nU I y B boot_range (ke (dL (A pos pins s σ H _ I h) λus s1⟨vs,H1,m,w,u⟩=>?_) (by rw[v,g]) (by rw[g];rfl)));obtain⟨i,j,c,n,e,h0,h1,h2,E,q⟩:=u;subst e;cases w with
 |cons r f=>
  cases f with
  |cons C f=>
   cases f with
   |cons k f=>
    cases f;obtain⟨t,rfl⟩:=r;obtain⟨t',rfl⟩:=C;obtain⟨d,rfl⟩:=k;refine call_range_3 h0 ?_ (aN (DX h1));refine wpAny_pyIter_range (IsRange.new ..) h2 ?_;have l:Inv X pins σ H1 {s1 with heap:=s1.heap.push {cls:=.type "range",data:=.fields #[.int i t,.int j t',.int c d]},toks:=s1.toks}:=m.kept λb o e=>aE _ e;refine⟨(s1.heap.push {cls:=.type "range",data:=.fields #[.int i t,.int j t',.int c d]}).objs.size,[(s1.heap.push {cls:=.type "range",data:=.fields #[.int i t,.int j t',.int c d]}).objs.size],_,_,H1,rfl,
     l.kept (t':=s1.toks) λb o e=>aE _ e,t_ _ i c n,?_,λb x=>?_,q⟩
    ·have z:i+((0:Nat):Int)*c=i:=Qs;have D:((n:Nat):Int)-((0:Nat):Int)=Builtin.Range.rangeSize i j c:=by rw[E];omega
     show IsRangeIter _ _ (i+((0:Nat):Int)*c) (((n:Nat):Int)-((0:Nat):Int)) c;rw[z,D];exact bJ _ rfl
    ·have e:b=(s1.heap.push {cls:=.type "range",data:=.fields #[.int i t,.int j t',.int c d]}).objs.size:=by simpa using x
     subst e;exact l.fpOk (ao _) (l.hok.fresh (ao _))
theorem x_{lo c:Int}{n:Nat}{g:TG}{tb:TS}{D:mB}{σ:St}{H:Hp}(b:Nat->St->Hp->Prop)(h0:b 0 σ H)
  (j:∀i σ H,i<n->b i σ H->g (.int (lo+i*c)) σ H λf H2=>tb {D with nx:=b (i+1),ct:=b (i+1),bk:=D.nx} f H2)(hd:∀σ H,b n σ H->D.nx σ H):
  ∃W:Nat->Nat->St->Hp->Prop,(∃m,W 0 m σ H)/\∀i m σ H,W i m σ H->
   ((DO lo c n).stop i H/\D.nx σ H)\/((DO lo c n).go i H/\∃N:St->Hp->Prop,(∀a H',N a H'->∃h,h<m/\W (i+1) h a H')/\∀x H',(DO lo c n).yld i H x H'->g x σ H' λf H2=>tb {D with nx:=N,ct:=N,bk:=D.nx} f H2):=by
 refine⟨λi m σ H=>m=n-i/\i<=n/\b i σ H,⟨n,Qs,bV _,h0⟩,?_⟩;rintro i m σ H⟨rfl,hi,p⟩;by_cases d:i<n
 ·refine .inr ⟨d,b (i+1),λa H' k=>⟨n-(i+1),Qo,rfl,d,k⟩,λx H' y=>?_⟩;obtain⟨e,y⟩:=y;subst e y;exact j i σ _ d p
 ·have e:i=n:=Qo;subst e;exact .inl ⟨ao _,hd σ H p⟩
theorem Az{a b:Int}(e:-(2^62)<=a)(d:a<2^62)(f:-(2^62)<=b)(c:b<2^62):Builtin.Range.small a b 2=true:=by
 unfold Builtin.Range.small Builtin.Range.rangeSize;simp only[Builtin.Range.rangeFitsLong,bc,eV,aD,beq_iff_eq,show(2:Int)>0 by decide,if_true];split<;>omega
theorem BX(a b:Int):∃n:Nat,Builtin.Range.rangeSize a b 2=(n:Int):=by
 unfold Builtin.Range.rangeSize;simp only[show(2:Int)>0 by decide,if_true];split
 ·exact⟨((b-a-1)/2+1).toNat,Qo⟩
 ·exact⟨0,rfl⟩
theorem tI{X:Cx}(K:ah)(a:X.K=K):iM X (.builtin "isinstance") (λxs H Q=>∃x T t b,xs=[x,.ty T]/\nw K H x t/\bz K t (.type T)=some b/\Q (.bl b) H):=by
 subst a;exact lE
section
variable{M:Model}{A:Around}{E:Value->Shared->Prop}{s₀ s:Shared}{m cm:Str->Option Value}{env:Env}
theorem qj(f:Str×Value->PUnit->Sem (ForInStep PUnit))(z:∀n v u,f (n,v) u=(do storeName env n v;pure (.yield ⟨⟩)))(l:env.scope.kind=.function){n:Str}{v:Value}{r:List (Str×Value)}{Q:PUnit->Shared->Prop}
  (x:InCallC s₀ env.locals m env.cells cm s)(j:env.kindOf n=some .local)(C:∀y∈r,env.kindOf y.1=some .local \/(env.kindOf y.1=some .cell/\(env.cells.lookup y.1).isSome=true))
  (h:∀s',0<s'.toks->InCallC s₀ env.locals (bindL env.kindOf ((n,v)::r) m) env.cells (bindC env.kindOf ((n,v)::r) cm) s'->Q ⟨⟩ s'):wpAny M A (forIn ((n,v)::r) ⟨⟩ f) Q E s:=by
 rw[jP,z];refine az (az (nE j x.toInCall.ns (λh' g d=>?_) (by rw[l];rfl)));have B:InCallC s₀ env.locals (λy=>if y=n then some v else m y) env.cells cm {s with heap:=h',toks:=s.toks+1}:=by
  refine⟨⟨?_,g,λb o e=>?_,x.toInCall.fresh⟩,λk c t=>?_,x.apart,x.above⟩
  ·obtain⟨p,tk,rfl⟩:=x.toInCall.same;exact⟨h',_,rfl⟩
  ·exact d.extBut b o (bF (bo (aV e) x.toInCall.fresh)) (x.toInCall.keep b o e)
  ·exact(x.cell k c t).sameBut d (kf (x.above k c (mem_of_lookup t)))
 have w:=lH (M:=M) (A:=A) (n:=1) (s:={s with heap:=h',toks:=s.toks+1}) (f6 (bV _))
  (wpAny_bindParams (E:=E) f z l r _ _ _ (λ_ a=>InCallC s₀ env.locals (bindL env.kindOf r λy=>if y=n then some v else m y) env.cells (bindC env.kindOf r cm) a) B C λa i=>i)
 refine bd (bX w (λ_ a q=>h a q.1 ?_) λ_ _ q=>q.2);unfold bindL bindC;rw[aO j,aO j];exact q.2
theorem xS{scope:Scope}{d:Addr}{n:Str}{v:Value}{r:List (Str×Value)}{qual:Str}{f:Option Addr}{g:Value}{a:Addr}{Q:Env->Shared->Prop}
  (k:scope.kind=.function)(q:scope.names.lookup n=some .local)
  (h:∀x∈r,scope.names.lookup x.1=some .local \/(scope.names.lookup x.1=some .cell/\((cellsFrom (s.heap.objs.size+1) scope.names []).lookup x.1).isSome=true))
  (p:∀env,env=newEnv scope s.heap.objs.size d (cellsFrom (s.heap.objs.size+1) scope.names []) qual f g none a->
   ∀s',0<s'.toks->InCallC s env.locals (bindL env.kindOf ((n,v)::r) λ_=>none) env.cells (bindC env.kindOf ((n,v)::r) λ_=>none) s'->Q env s'):
  wpAny M A (newFunctionEnv scope d [] ((n,v)::r) qual f g none a) Q E s:=by
 simp only[newFunctionEnv,Option.isSome_none,eB,if_false];refine az (wpAny_alloc ?_);refine az (wpAny_layCells _ (λname kind i=>by cases hkc:kind==NameKind.cell<;>simp[hkc]) _ _ _ _ ?_);have ok:=cellsFrom_ok scope.names (s.heap.push {cls:=.type "frame",data:=.dict #[]}) (s.heap.objs.size+1) [] ⟨λ_ _ j=>(nomatch j),List.Pairwise.nil⟩ (by rw[dQ];exact ao _);rw[dQ]at ok;rw[show({s with heap:=s.heap.push {cls:=.type "frame",data:=.dict #[]}}:Shared).heap.objs.size=s.heap.objs.size+1 from dQ ..];refine az (qj (s₀:=s) (env:=newEnv scope s.heap.objs.size d (cellsFrom (s.heap.objs.size+1) scope.names []) qual f g none a)
  _ (λ_ _ _=>rfl) k (m:=λ_=>none) (cm:=λ_=>none)
  ⟨⟨⟨_,_,rfl⟩,(Heap.Ns.new s.heap (.type "frame")).keeps (pushCells_keeps _ _),λb o e=>pushCells_keeps _ _ b o (aE _ e),ao _⟩,
   λn c l=>(ok.empty n c (mem_of_lookup l)).1,ok.apart,λn c j=>(ok.empty n c j).2⟩
  q h λs' tk x=>bd (p _ rfl s' tk x))
end
theorem HL{CX:Ar}{P:Program}{w:World}{K:ah}{mg:Str->Option Value}{base:Heap}{k:Nat}{f:Addr}{name qual:Str}{c:Arguments}{d:List Stmt}{scope:Scope}{M kV j O a ct T:Value}{L X:Option Addr}
  {D:Array (Option Value)}{N:List Str}{p:Str}{sp:Sp}(W:K.lookup f=some ⟨T,X,.func (cT name qual c d scope M kV j O L a ct),D⟩)(C:gZ K a qual=true)(S:bD N [p] scope)
  (t:scope.names.lookup p=some .local)
  (len:∀vs H Q E,sp vs H Q E->vs.length=1)
  (h:∀(A:Around)(outer:List Env)(s:Shared)(H:Hp)(vs:List V)(Q:VK)(E:XK),cF k (A.deeper (envOfC qual scope s.heap.objs.size f a))->sp vs H Q E->
   ∀s1,0<s1.toks->Inv (jA CX P w K mg base N qual scope f a A outer s H E) [] (kI N vs) H s1->
    wpAny (model P w) (jA CX P w K mg base N qual scope f a A outer s H E).A (execs d (jA CX P w K mg base N qual scope f a A outer s H E).env) (SP (jA CX P w K mg base N qual scope f a A outer s H E) [] {nx:=λ_ H'=>Q .non H',rt:=Q}) (jA CX P w K mg base N qual scope f a A outer s H E).xe s1):
  FnOk P w K mg base CX (k+1) f (cT name qual c d scope M kV j O L a ct) [p] sp:=by
 refine⟨len,λA outer s H args us vs Q E F l U r y=>?_⟩;have R:=len _ _ _ _ y;have G:K.In s.heap:=l.mod.kin.keeps λb o e=>(l.bs b o e).1;have lim:s.heap.NoLimit:=l.mod.nolimit.keeps λb o e=>(l.bs b o e).1;obtain⟨u,rfl⟩:∃u,us=[u]:=by
  have h1:us.length=1:=by rw[<-r.length];exact R
  match us,h1 with
  |[u],_=>exact⟨u,rfl⟩
 refine codeAny_call_function F.depth (G _ _ W) rfl S.co S.gen rfl (PySem.W.codeRec_of G C) (U _ _ _ _ ?_);refine xS (n:=p) (v:=u) (r:=[]) S.kind t (λ_ z=>nomatch z) λenv Y s1 tk x=>?_;subst Y;refine⟨lim.keeps x.toInCall.keep,codeAny_func ?_⟩;have I:Inv (jA CX P w K mg base N qual scope f a A outer s H E) [] (kI N vs) H s1:=rq S F.hd l R r x;refine bX (h A outer s H vs Q E (F.deeper _) y s1 tk I) (λZ s' i=>?_) λe s' i=>i;have m:∀{g:St}{H':Hp}{v:V}{u:Value},Inv (jA CX P w K mg base N qual scope f a A outer s H E) [] g H' s'->dc v u->Q v H'->CE outer P w H s Q u s':=
  λ{g H' v u}J B q=>⟨v,H',J.os,J.bare,J.base,J.hok,B,q⟩
 cases Z with
 |ret u=>
  obtain⟨v,g,H',J,B,q⟩:=i;exact m J B q
 |next=>
  obtain⟨g,H',J,q⟩:=i;exact m (v:=V.non) (u:=Value.none) J rfl q
 |brk=>
  obtain⟨_,_,_,q⟩:=i;exact False.elim q
 |cont=>
  obtain⟨_,_,_,q⟩:=i;exact False.elim q
theorem fg.okT{P:Program}{w:World}{K:ah}{mg:Str->Option Value}{base:Heap}{x qual:Str}{st:Stmt}{f:Addr}{fd:FuncData}{N:List Str}{p:Str}{k:Nat}{sp:Sp}(F:fg K x qual st f fd)(S:bD N [p] (aU st))
  (c:(aU st).names.lookup p=some .local)(len:∀vs H Q E,sp vs H Q E->vs.length=1)
  (b:∀(a:Value)(A:Around)(outer:List Env)(s:Shared)(H:Hp)(vs:List V)(Q:VK)(E:XK),cF k (A.deeper (envOfC qual (aU st) s.heap.objs.size f a))->sp vs H Q E->
   ∀s1,0<s1.toks->Inv (jA gW P w K mg base N qual (aU st) f a A outer s H E) [] (kI N vs) H s1->
    wpAny (model P w) (jA gW P w K mg base N qual (aU st) f a A outer s H E).A (execs (fD st) (jA gW P w K mg base N qual (aU st) f a A outer s H E).env) (SP (jA gW P w K mg base N qual (aU st) f a A outer s H E) [] {nx:=λ_ H'=>Q .non H',rt:=Q}) (jA gW P w K mg base N qual (aU st) f a A outer s H E).xe s1):
  FnOk P w K mg base gW (k+1) f fd [p] sp:=by
 obtain⟨l,n,kV,g,o,m,a,ct,h,rfl,i,d⟩:=F.ex;exact HL i d S c len λA outer s H vs Q E j e=>b a A outer s H vs Q E j e
section
variable{X:Cx}{pins:List (Addr×Obj)}{σ:St}{H:Hp}{s:Shared}
def Holds(X:Cx)(x:Str)(u:Value)(s:Shared):Prop:=∃m,s.heap.Ns X.env.locals m/\m x=some u
theorem Aw{M:Model}{A:Around}{E:Value->Shared->Prop}{i:Nat}{x:Str}{v:V}{u:Value}{Q:Unit->Shared->Prop}(I:Inv X pins σ H s)(hN:X.N.Nodup)(hi:X.N[i]?=some x)(O:X.env.kindOf x=some .local)(r:dc v u)
  (h:∀s',Inv X pins (σ.set i (some v)) H s'->Holds X x u s'->s.toks<=s'.toks->Q () s'):wpAny M A (storeName X.env x u) Q E s:=by
 obtain⟨m,hn,hl⟩:=id I.loc;have w:(X.env.scope.kind== .class ||(X.env.scope.kind== .module &&X.env.locals != X.env.globals))=false:=by rw[I.ok.kind];rfl
 have D:i<σ.length:=by rw[I.len];exact(b8.mp hi).1
 have F:=I.cne;have g:∀{a:Addr}{h':Heap},(∃o,s.heap.get? a=some o/\H a=none)->Heap.SameBut a s.heap h'->lW X.prog X.w H h':=λ{a h'}W l b ob e=>by
  obtain⟨_,_,f⟩:=W;refine(I.hok b ob e).stay (λc P G q=>(l.2 c ?_).trans q) (λ_ q=>q) λ_ _ q=>q;rintro rfl;rcases G with rfl|G
  ·rw[f]at e;cases e
  ·rw[f]at G;cases G
 refine nE O hn (λh' C l=>?_) w;obtain⟨R,_,_,N,_⟩:=id hn;refine h _ ⟨I.ok,I.os,I.bare,⟨λb o e n L B=>?_,λb o e n L B=>?_,I.base.free,λb o e B=>?_,I.base.tups,I.base.frzs,I.base.tbls⟩,⟨_,C,λj y S t J U=>?_⟩,λy c e=>?_,I.free,I.freeC,λp Y=>?_,g ⟨R,N,I.free⟩ l,by simpa using I.len⟩ ⟨_,C,Qs⟩ (kU _)
 ·exact(l.2 b (bF (bo (aV e) I.ok.above))).trans (I.base.keep b o e n L B)
 ·obtain⟨sl,t⟩:=I.base.slot b o e n L B;exact⟨sl,(l.2 b (bF (bo (aV e) I.ok.above))).trans t⟩
 ·obtain⟨o',t⟩:=I.base.there b o e B;exact⟨o',(l.2 b (bF (bo (aV e) I.ok.above))).trans t⟩
 ·by_cases K:j=i
  ·subst K;rw[hi]at t;cases t;rw[iW D]at J;cases J;exact⟨u,r,.inl ⟨O,Qs⟩⟩
  ·rw[jF (Ne.symm K)]at J;obtain⟨T,r',q⟩:=hl j y S t J U;refine⟨T,r',?_⟩;rcases q with⟨k,e⟩|⟨k,c,e,z⟩
   ·refine .inl ⟨k,?_⟩;have:y≠x:=λe=>K (m_ hN t (e▸hi));simp[this,e]
   ·exact .inr ⟨k,c,e,z.sameBut l (F y c e)⟩
 ·obtain⟨P,z⟩:=I.cell y c e;exact⟨P,z.sameBut l (F y c e)⟩
 ·obtain⟨e,n,ne,Z,d⟩:=I.pin p Y;exact⟨(l.2 p.1 ne).trans e,n,ne,Z,d⟩
theorem D8{E:Value->Shared->Prop}{i:Nat}{x:Str}{v:V}{pos:Pos}(I:Inv X pins σ H s)(d:X.N[i]?=some x)(b:X.env.kindOf x=some .local)(e:σ[i]?=some (some v)){Q:Value->Shared->Prop}(h:∀u,dc v u->Q u s)
  (hd:(x==("__debug__":Str))=false:=by decide):wpAny (model X.prog X.w) X.A (eval (.Name x pos) X.env) Q E s:=by
 obtain⟨m,hn,f⟩:=I.loc;obtain⟨u,r,l⟩:=f i x v d e (.inl b);rcases l with⟨_,c⟩|⟨a,_⟩
 ·exact qp (og I.ok.kind b hn c (h u r)) hd
 ·rw[b]at a;rcases a with z|z<;>cases z
theorem Do{E:Value->Shared->Prop}{x:Str}{u:Value}{pos:Pos}(ok:X.Ok)(b:X.env.kindOf x=some .local)(a:Holds X x u s){Q:Value->Shared->Prop}(h:Q u s)
  (hd:(x==("__debug__":Str))=false:=by decide):wpAny (model X.prog X.w) X.A (eval (.Name x pos) X.env) Q E s:=by
 obtain⟨m,hn,c⟩:=a;exact qp (og ok.kind b hn c h) hd
def Ke(X:Cx)(es:List Expr)(t:St->Hp->(Str->Hp->Prop)->Prop):Prop:=
 ∀(a:Str)(pins:List (Addr×Obj))(s:Shared)(σ:St)(H:Hp)(n:Nat)(R:Str->Hp->Prop),n<=s.toks->a.length+100000*es.length<=sizeLine->Inv X pins σ H s->t σ H (λy H1=>R (a++y) H1)->
  wpAny (model X.prog X.w) X.A (joinParts a (evalEach es X.env)) (λv s'=>∃y t' H',v=.str y t'/\n<=t'/\Inv X pins σ H' s'/\R y H') X.xe s
theorem ER:Ke X [] BH:=λa pins s σ H n R hn b I h=>by
 have h':R a H:=by have z:R (a++Str.empty) H:=h;rw[hG]at z;exact z
 exact joinParts_nil ⟨a,_,H,rfl,hn,I.tok _,h'⟩ (by simp only[bZ]at b;omega)
theorem pQ{e:Expr}{es:List Expr}{te:TE}{t:St->Hp->(Str->Hp->Prop)->Prop}(g:PE X e te)(i:Ke X es t):Ke X (e::es) (ph te t):=λa pins s σ H n R hn f I h=>by
 have c:evalEach (e::es) X.env=eval e X.env::evalEach es X.env:=rfl;rw[c];refine joinParts_cons (bX (lH hn (g pins s σ H _ I h)) (λv s1⟨k,x,H1,b,d,y,j,l,q⟩=>?_) λ_ _ z=>z.2);subst j;obtain⟨m,rfl⟩:=d;rw[aK]at f;have o:=ag a y;refine⟨Qo,i (a++y) pins s1 σ H1 n R k Qo b ?_⟩;simp only[md];exact q
theorem Ek{i:Nat}{x y:Str}{es:List Expr}{f l:Expr}{t:St->Hp->(Str->Hp->Prop)->Prop}{m n e d apos cpos pos:Pos}{c z:Str}{tk:Tok}{D:mB}
  (R:X.N.Nodup)(hi:X.N[i]?=some y)(p:X.env.kindOf y=some .local)(q:X.env.kindOf x=some .local)(G:Ii X.env.scope y)(F:Ke X (f::l::es) t)(hn:es.length<=100)
  (I:Inv X pins σ H s)(B:Holds X x (.str c tk) s)(h0:0<tk)(h1:tk<s.toks)(L:σ[i]?=some (some (.str z)))
  (h:t σ H λw H1=>(c==w)=false/\z.length+(z.length+1)*w.length<=16777216/\D.nx (σ.set i (some (.str (PySem.Txt.replace z c w)))) H1)
  (hd:(x==("__debug__":Str))=false:=by decide)(o:(y==("__debug__":Str))=false:=by decide)
  (a:attributeBase (.Name y e) "replace" X.env (eval (.Name y e) X.env)=eval (.Name y e) X.env:=by rfl)
  (g:((backTo cpos (starEach [.Name x n,.JoinedStr (f::l::es) m] X.env)).all (λx=>!x.1)&&(backToKw cpos (keywordEach [] X.env)).all (λx=>x.1.isSome)
   &&decide (([.Name x n,.JoinedStr (f::l::es) m]:List Expr).length +([]:List Keyword).length +(if([]:List Keyword).isEmpty then 0 else 1)<30))=true:=by rfl)
  (b:(apos.endLine==cpos.line)=true:=by rfl)
  (E:swapsWith (.Call (.Attribute (.Name y e) "replace" apos) [.Name x n,.JoinedStr (f::l::es) m] [] cpos) (some (.Name y d)) pos.line X.env=pure false:=by rfl)
  (N:X.fn y=true\/X.env.scope.names.lookup y=some .local:=by first|exact .inl rfl|exact .inr rfl|assumption):
  wpAny (model X.prog X.w) X.A (execs [.Assign [.Name y d] (.Call (.Attribute (.Name y e) "replace" apos) [.Name x n,.JoinedStr (f::l::es) m] [] cpos) pos] X.env) (SP X pins D) X.xe s:=by
 refine fq (qG (DS a g b rfl (D8 I hi p L (λu M=>?_) o)) E);obtain⟨K,rfl⟩:=M;refine⟨"str","str.replace",aX,PySem.F.slot_str_replace,PySem.F.type_str_replace,typeIs_str _ _ _,?_,?_⟩
 ·exact(Bz (X:=X) (T:="str") I (x:=.str z) ⟨K,rfl⟩ (by first|exact rfl|exact .inr rfl|trivial)).2
 ·refine Calls.callWith_builtin Qr (Calls.evalArgs_plain (Calls.spliced_cons (Do I.ok q B (Calls.spliced_cons ?_) hd)));refine JoinedStr_many (pos:=m) (bX (F Str.empty pins s σ H s.toks (λw H1=>(c==w)=false/\z.length+(z.length+1)*w.length<=16777216/\D.nx (σ.set i (some (.str (PySem.Txt.replace z c w)))) H1) (ao _) ?_ I ?_) (λv s1 C=>?_) λ_ _ z=>z)
  ·show 0+100000*(es.length+1+1)<=2^24;omega
  ·simp only[oj];exact h
  ·obtain⟨w,t',H',rfl,j,P,A,Q,S⟩:=C;refine Calls.spliced_nil ?_;refine PySem.SC.replace (kf h0) (kf (bo (mE h0 h1) j)) (bF (bo h1 j)) A Q λO k=>?_;exact kY (v:=.str (PySem.Txt.replace z c w)) (P.tok k) R hi G ⟨O,rfl⟩ (λU J=>eU ⟨_,H',J,S⟩) N
theorem Cn{i:Nat}{x:Str}{iter:Expr}{C rest:List Stmt}{tl:TE}{tb:Nat->mB->St->Hp->Prop}{u:TS}{tp pos:Pos}{D:mB}(N:PassesOwn (model X.prog X.w) X.A X.env X.xe)(hc:X.calm=true)(hN:X.N.Nodup)(hi:X.N[i]?=some x)(xb:X.env.kindOf x=some .local)(hl:PE X iter tl)
  (g:∀(pins:List (Addr×Obj))(s:Shared)(σ:St)(H:Hp)(D:mB)(c:Nat)(tk:Tok),Inv X pins σ H s->Holds X x (.str ⟨#[c]⟩ tk) s->0<tk->tk<s.toks->tb c D σ H->wpAny (model X.prog X.w) X.A (execs C X.env) (SP X pins D) X.xe s)
  (hr:PSs X rest u)(h0:0<s.toks)(I:Inv X pins σ H s)
  (h:tl σ H λv H1=>∃z:Str,v=.str z/\z.cps.all (· <128)=true/\∃A:Nat->St->Hp->Prop,A 0 σ H1/\(∀j c a H',z.cps[j]?=some c->A j a H'->tb c {D with nx:=A (j+1),ct:=A (j+1),bk:=λ_ _=>False} (a.set i (some (.str ⟨#[c]⟩))) H')/\∀a H',A z.cps.size a H'->u D a H')
  (hs:∀x,foldedSetIterable iter X.env x=pure x:=by intro _;rfl):
  wpAny (model X.prog X.w) X.A (execs (.For (.Name x tp) iter C [] pos::rest) X.env) (SP X pins D) X.xe s:=by
 refine fq (wpAny_For (bX (lH (n:=1) h0 (hl pins s σ H _ I h)) (λv s1⟨t1,y,H1,W,r1,z,ez,ha,A,p0,S,M⟩=>?_) λ_ _ z=>z.2) hs);subst ez;obtain⟨Y,rfl⟩:=r1;refine wpAny_pyIter_ascii ha ?_;have T:=t9 (P:=X.prog) (w:=X.w) (K:=X.K) (tg:=.Name x tp) s1.heap.objs.size z Y;have f2:∀b∈ [s1.heap.objs.size],jy X pins H1 b:=λb g=>by
  have e:b=s1.heap.objs.size:=by simpa using g
  subst e;exact W.fpOk (ao _) (W.hok.fresh (ao _))
 have l:∀{H':Hp},(∀b∈ [s1.heap.objs.size],H' b=none)->∀b∈ [s1.heap.objs.size],jy X pins H' b:=λhn b g=>⟨hn b g,(f2 b g).2⟩;refine codeAny_forLoop_any (λn s'=>∃j a H',Inv X pins a H' s'/\s'.heap.IsStrIter s1.heap.objs.size "str_ascii_iterator" z Y j/\(∀b∈ [s1.heap.objs.size],H' b=none)/\1<=s'.toks/\j<=z.cps.size/\n=z.cps.size-j/\A j a H') ?_ z.cps.size
  ⟨0,σ,H1,W.kept (t':=s1.toks) λb o e=>aE _ e,⟨_,bJ _ rfl,rfl,rfl⟩,λb g=>(f2 b g).1,t1,bV _,rfl,p0⟩
 rintro n J⟨j,t,R,I3,O,E,t3,hj,rfl,p3⟩;by_cases he:j=z.cps.size
 ·subst he;refine di N (dL (T.done X rfl rfl rfl hc _ pins J t R X.xe I3 (l E) (.inl O) rfl) λr s4⟨U,I4⟩=>?_);subst U;exact eU (hr pins s4 t R D I4 (M _ _ p3))
 ·have xa:j<z.cps.size:=Qo;have hz:z.cps[j]?=some z.cps[j]:=Array.getElem?_eq_getElem xa;obtain⟨g0,g1,g2,g3,g4,g5⟩:=l E _ aA;refine di N (wpAny_pyNext_ascii_item O hz λh' F k4=>?_);have I4:Inv X pins t R {J with heap:=h',toks:=J.toks+1}:=I3.turned (t':=J.toks+1) (λb o g e=>k4.extBut b o (by simpa using g) e) g0 g1 g3 g4 g5;refine di N (nA.go (s:={J with heap:=h',toks:=J.toks+1}) (.inl F) ?_);have V:=I4.pinned (l E) (T.obj _ _ (.inl F));refine di N (qF (Aw (v:=.str ⟨#[z.cps[j]]⟩) V hN hi xb ⟨_,rfl⟩ λs5 I5 Z t5=>?_));refine di N (bX (lH (n:=1) (af t3 (af (kU _) t5)) (g _ s5 _ _ _ _ _ I5 Z t3 t5 (S j _ t R hz p3))) (λf G⟨Q,B⟩=>?_) λ_ _ z=>z.2);have k:∀{d:St}{q:Hp},Inv X (pins++mv [s1.heap.objs.size] h') d q G->A (j+1) d q->1<=G.toks->∃m,m<z.cps.size-j/\∃j a H',Inv X pins a H' G/\G.heap.IsStrIter s1.heap.objs.size "str_ascii_iterator" z Y j/\(∀b∈ [s1.heap.objs.size],H' b=none)/\1<=G.toks/\j<=z.cps.size/\m=z.cps.size-j/\A j a H':=λ{d q}p L Q=>by
   have kk:∀b∈ [s1.heap.objs.size],∀o,h'.get? b=some o->G.heap.get? b=some o/\q b=none:=λb g o e=>
    ⟨(p.pin (b,o) (aZ _ (aZ _ (gr g e)))).1,(p.pin (b,o) (aZ _ (aZ _ (gr g e)))).2.1⟩
   obtain⟨o,e,r⟩:=F;obtain⟨k1,k2⟩:=kk _ aA o e;exact⟨z.cps.size-(j+1),Qo,j+1,d,q,p.unpinned,⟨o,k1,r⟩,λb g=>by
    have eb:b=s1.heap.objs.size:=by simpa using g
    subst eb;exact k2,Q,Qo,rfl,L⟩
  cases f with
  |next=>obtain⟨d,q,p,L⟩:=B;exact k p L Q
  |cont=>obtain⟨d,q,p,L⟩:=B;exact k p L Q
  |brk=>obtain⟨d,q,p,B⟩:=B;exact B.elim
  |ret v=>obtain⟨x7,d,q,p,r7,B⟩:=B;exact⟨x7,d,q,p.unpinned,r7,B⟩
end
def pD(x:Str):List V:=x.cps.toList.map λc=>V.str ⟨#[c]⟩
theorem pC{a:Type}{f:a->V}{g:a->Value->Prop}(h:∀c v,g c v->dc (f c) v):∀(cs:List a)(l:List Value),l.length=cs.length->(∀(j:Nat)(v:Value),l[j]?=some v->∃c,cs[j]?=some c/\g c v)->cS (cs.map f) l
 |[],[],_,_=>.nil
 |[],_::_,e,_=>nomatch e
 |_::_,[],e,_=>nomatch e
 |c::cs,v::l,e,b=>by
  obtain⟨d,k,m⟩:=b 0 v rfl;have:c=d:=by simpa using k
  subst this;exact .cons (h _ _ m) (pC h cs l (by simpa using e) λj u i=>by
   obtain⟨n,h2,o⟩:=b (j+1) u (by simpa using i);exact⟨n,by simpa using h2,o⟩)
theorem vX{X:Cx}(K:ah)(i:X.K=K)(n:X.calm=true):iM X (.type "tuple") (λxs H Q=>(∃p ys,xs=[.ref p]/\SqL K H p ys/\∀l,H l=none->Q (.ref l) (upd H l (.tup ys)))\/∃x:Str,xs=[.str x]/\x.cps.size<=sizeLine/\∀l,H l=none->Q (.ref l) (upd H l (.tup (pD x)))):=by
 subst i;intro pins s σ H xs us Q I r h;rcases h with⟨p,ys,rfl,hq,q⟩|⟨x,rfl,hx,q⟩
 ·exact qz pins s σ H _ us Q I r ⟨p,ys,rfl,.inl ⟨hq,q⟩⟩
 ·obtain⟨u,rfl,y⟩:=kG r;obtain⟨t,rfl⟩:=y;refine call_tuple_str (I.ok.hd n) x t (λh' tk a kp f=>?_) hx;have d:Inv X pins σ H {s with heap:=h',toks:=tk}:=I.kept (t':=tk) kp;have z:cS (pD x) a.toList:=pC (g:=λc v=>∃u,v=Value.str ⟨#[c]⟩ u) (λc v w=>by obtain⟨u,rfl⟩:=w;exact⟨u,rfl⟩) _ _ (by simpa using f.1) λj v k=>by
   obtain⟨c,u,h1,h2⟩:=f.2 j v (by simpa using k);exact⟨c,by simpa using h1,u,h2⟩
  have m:Inv X pins σ (upd H h'.objs.size (.tup (pD x))) {s with heap:=h'.push {cls:=.type "tuple",data:=.seq a},toks:=tk}:=
   d.laid (t':=tk) (λb o e=>aE _ e) (ao _) (show gf X.prog X.w _ _ _ (.tup (pD x))from⟨by unfold pD;rw[ay];simpa using hx,a.toList,z,IsTup.new h' a⟩)
  exact⟨.ref h'.objs.size,_,m,rfl,q _ (d.hok.fresh (ao _))⟩
def wG(P:Program)(w:World)(K:ah)(a:Addr)(vs:List (mH×Value)):Prop:=(a==sysModules)=false/\∀h:Heap,K.In h->h.DictOf (lR P w) a vs
def Kt(vs:List (mH×Value))(ty:TE):TE:=λσ H Q=>ty σ H λy H1=>∃k,y=kV k/\Q (.bl (valueAt vs k).isSome) H1
def IB(vs:List (mH×Value))(ty:TE):TE:=λσ H Q=>ty σ H λy H1=>∃k v u,y=kV k/\valueAt vs k=some u/\dc v u/\Q v H1
section
variable{X:Cx}{x:Str}{a:Addr}{vs:List (mH×Value)}{i:Expr}{p pos:Pos}{ty:TE}
theorem xP(j:Gl X x)(m:X.mg x=some (.ref a))(hd:wG X.prog X.w X.K a vs)(hi:PE X i ty)(b:(x==("__debug__":Str))=false:=by decide):PC X .In i (.Name x p) (Kt vs ty):=by
 intro pins s σ H Q I h;refine dL (hi pins s σ H _ I h) λt s1⟨y,H1,d,g,k,n,e⟩=>dL (sQ j m (show dc (.ref a) (.ref a)from rfl) b pins s1 σ H1 (λz H2=>z=.ref a/\H2=H1) d ⟨rfl,rfl⟩) λu q⟨z,H2,c,f,l,o⟩=>?_;subst l o n;obtain rfl:u=Value.ref a:=f;exact wpAny_in_of (F5 g) hd.1 (hd.2 _ c.kIn).mapOf ⟨.bl _,_,c.tok _,rfl,e⟩
theorem EV(m:Gl X x)(o:X.mg x=some (.ref a))(hd:wG X.prog X.w X.K a vs)(hi:PE X i ty)(j:JV i)(b:(x==("__debug__":Str))=false:=by decide):PE X (.Subscript (.Name x p) i pos) (IB vs ty):=by
 intro pins s σ H Q I h;refine Eh PySem.F.slot_dict_getitem.lookup j (dL (sQ m o (show dc (.ref a) (.ref a)from rfl) b pins s σ H (λz H2=>z=.ref a/\H2=H) I ⟨rfl,rfl⟩) λu s1⟨z,H1,d,g,n,w⟩=>?_);subst n w;obtain rfl:u=Value.ref a:=g;refine dL (hi pins s1 σ H1 _ d h) λB A⟨y,H2,c,l,k,v,C,t,f,e,q⟩=>?_;subst t;exact⟨(hd.2 _ c.kIn).typeIs,wpAny_getItem_of (F5 l) (hd.2 _ c.kIn).mapOf f ⟨v,H2,c.tok _,e,q⟩⟩
end
section
variable{X:Cx}
def GL(K:ah):V->List V->Hp->VK->Prop:=λx vs H Q=>∃a p ys,x=.str a/\vs=[.ref p]/\SqT K H p (ys.map V.str)/\a.length<=16/\(ys.map (·.length)).sum +ys.length<=1048576/\Q (.str (Str.join a ys)) H
theorem mO:∀{ys:List Str}{us:List Value},cS (ys.map V.str) us->StrsAre us ys
 |[],_,h=>by cases h;exact .nil
 |y::r,_,h=>by
  cases h with
  |cons a b=>
   obtain⟨t,rfl⟩:=a;exact .cons _ _ (mO b)
theorem jr:JW X "str.join" (GL X.K):=by
 intro pins s σ H x vs v us Q I g b h;obtain⟨a,p,ys,rfl,rfl,e,d,hw,q⟩:=h;obtain⟨t,rfl⟩:=g;obtain⟨u,rfl,f⟩:=b.one;cases f;obtain⟨c,r,pl,i⟩:=I.tuple e;refine join_tupleW pl (mO r) d hw λt' k=>⟨.str _,H,I.tok k,⟨t',?_⟩,q⟩;show Value.str (Builtin.Str.glued a ys) t'=_;rw[wN]
end
section
variable{prog:Program}{w:World}{A:Around}{R:Result->Shared->Prop}{I S:Addr}{fp wr:List Addr}{n:Nat}{P:Nat->Value->Prop}{St:Nat->Heap->Prop}{kw:List (Str×Value)}{bt:Nat->Nat->Bool}
theorem rl:(toString "max"++toString ".loop":String)="max.loop":=Qd
theorem s_{args:PySem.Args}{s:Shared}(h:wpAny (model prog w) A.in1 (Builtin.«max.loop» args) (λa s'=>match a with|.done f=>R (.ok f) s'|.again c'=>c'.quiet=true/\codeAny (model prog w) A c' R s') (λe s'=>R (.error e) s') s):codeAny (model prog w) A (.builtin "max.loop" args) R s:=by
 refine codeAny_builtin PySem.F.entry_max_loop ?_;rw[Around.under_plainId mD _];exact h
theorem my{args:PySem.Args}{s:Shared}(h:codeAny (model prog w) A (.builtin "max.loop" args) R s):wpAny (model prog w) A.in1 (pure (Fin.again (.builtin (toString "max"++toString ".loop") args))) (λa s'=>match a with|.done f=>R (.ok f) s'|.again c'=>c'.quiet=true/\codeAny (model prog w) A c' R s') (λe s'=>R (.error e) s') s:=by
 rw[rl];exact bd ⟨plainId_quiet mD _,h⟩
theorem AX(W:Walks prog w A.in1 I fp wr n P St)(D:CmpOf prog w A.in1 .Gt P bt)(y:S∉fp):∀(k j:Nat)(s:Shared)(b:Value)(c:Nat),n-(j+1)=k->j+1<=n->St (j+1) s.heap->P (argBest bt j) b->
  s.heap.get? S=some {cls:=.type "list",dict:=none,data:=.seq #[b,b] c,slots:=#[]}->(∀v h' tk,P (argBest bt (n-1)) v->(∀a o,a∉wr->a≠S->s.heap.get? a=some o->h'.get? a=some o)->R (.ok (.ret v)) {s with heap:=h',toks:=tk})->
  codeAny (model prog w) A (.builtin "max.loop" ⟨[.ref I,.none,.ref S],kw⟩) R s:=by
 have B:S∉wr:=λz=>y (W.sub _ z);intro k;induction k with
 |zero=>
  intro j s b c C F st p i d;have u:j+1=n:=Qo;refine s_ ?_;show wpAny _ A.in1 (seqItems? (.ref S)>>=_) _ _ s;refine az (yN i rfl (show wpAny _ A.in1 (tryCatch (pyNext (.ref I)) _>>=_) _ _ s from ?_));refine az (kB (W.done s _ _ (u▸st) λh' tk kp=>?_));refine az (m:=updateSeq S λ_=>#[]) (wH (kp S _ B i) rfl (az (tT (bd (d b _ tk (u▸p) λa o g nb e=>?_)))));exact(b6 _ _ nb.symm).trans (kp a o g e)
 |succ k x=>
  intro j s b c C F st p i d;have t:j+1<n:=Qo;refine s_ ?_;show wpAny _ A.in1 (seqItems? (.ref S)>>=_) _ _ s;refine az (yN i rfl (show wpAny _ A.in1 (tryCatch (pyNext (.ref I)) _>>=_) _ _ s from ?_));refine az (kB (W.item (j+1) s _ _ t st λv h' tk pv l kp=>?_));have h:=kp S _ B i;show wpAny _ A.in1 (tryCatch (holding [v,v] (richCompare .Gt v b>>=_)) _>>=_) _ _ _;refine az (kB (fT (az (D (j+1) (argBest bt j) v b _ _ _ pv p (az (fT (dr (az (tT (bd ?_))))))))));cases hb:bt (j+1) (argBest bt j)with
  |true=>
   simp only[if_true];refine az (wH h rfl (az (tT (my ?_))));refine x (j+1) _ v _ Qo t (W.frame _ _ _ l λa E o e=>(b6 _ _ (λz:S=a=>y (z▸E))).trans e) (by simp only[argBest,hb,if_true];exact pv) (jf _ h rfl) λq h2 f p2 k2=>?_;exact d q h2 f p2 λa o g nb e=>k2 a o g nb ((b6 _ _ nb.symm).trans (kp a o g e))
  |false=>
   simp only[eB,if_false];refine az (tT (my ?_));refine x (j+1) _ b c Qo t l (by simp only[argBest,hb,eB,if_false];exact p) h λq h2 f p2 k2=>?_;exact d q h2 f p2 λa o g nb e=>k2 a o g nb (kp a o g e)
theorem xT(W:Walks prog w A.in1 I fp wr n P St)(t:CmpOf prog w A.in1 .Gt P bt)(h:S∉fp){x:Str}{d:Value}{s:Shared}{c:Nat}(st:St 0 s.heap)(l:s.heap.get? S=some {cls:=.type "list",dict:=none,data:=.seq #[] c,slots:=#[]})
  (y:n=0->∀h' tk,(∀a o,a∉wr->a≠S->s.heap.get? a=some o->h'.get? a=some o)->R (.ok (.ret d)) {s with heap:=h',toks:=tk})
  (i:0<n->∀v h' tk,P (argBest bt (n-1)) v->(∀a o,a∉wr->a≠S->s.heap.get? a=some o->h'.get? a=some o)->R (.ok (.ret v)) {s with heap:=h',toks:=tk}):
  codeAny (model prog w) A (.builtin "max.loop" ⟨[.ref I,.none,.ref S],[(x,d)]⟩) R s:=by
 have p:S∉wr:=λz=>h (W.sub _ z);refine s_ ?_;show wpAny _ A.in1 (seqItems? (.ref S)>>=_) _ _ s;refine az (yN l rfl (show wpAny _ A.in1 (tryCatch (pyNext (.ref I)) _>>=_) _ _ s from ?_));by_cases hn:n=0
 ·subst hn;refine az (kB (W.done s _ _ st λh' tk kp=>?_));refine az (m:=rule _) (wpAny_rule (bd (y rfl h' tk λa o f _ e=>kp a o f e)))
 ·have j:0<n:=Nat.pos_of_ne_zero hn;refine az (kB (W.item 0 s _ _ j st λv h' tk pv k kp=>?_));have b:=kp S _ p l;refine az (m:=updateSeq S λ_=>#[v,v]) (wH b rfl (my ?_));refine AX W t h _ 0 _ v _ rfl j (W.frame _ _ _ k λa u o e=>(b6 _ _ (λz:S=a=>h (z▸u))).trans e) pv (jf _ b rfl) λq h2 g p2 k2=>?_;exact i j q h2 g p2 λa o f nb e=>k2 a o f nb ((b6 _ _ nb.symm).trans (kp a o f e))
end
section
variable{prog:Program}{w:World}{A:Around}{E:Value->Shared->Prop}{s:Shared}{l:Addr}{xs:Array (Int×Tok)}
theorem AZ(a v:Value):argsOk "max" ⟨[a],[(Str.ofString "default",v)]⟩:=by unfold argsOk;kernel_rfl
theorem AY{Q:Value->Shared->Prop}{d:Value}(k:A.handled=none)(n:s.heap.IsList l (intItems xs))(h0:xs.size=0->∀h' tk,(∀b o,s.heap.get? b=some o->h'.get? b=some o)->Q d {s with heap:=h',toks:=tk})
  (h:0<xs.size->∀v h' tk,(intItems xs)[argBest (λi j=>decide (numAt xs i>numAt xs j)) (xs.size-1)]?=some v->(∀b o,s.heap.get? b=some o->h'.get? b=some o)->Q v {s with heap:=h',toks:=tk}):
  wpAny (model prog w) A (call (.builtin "max") [.ref l] [(Str.ofString "default",d)]) Q E s:=by
 refine kmk_tree PySem.F.kind_max PySem.F.plain_max PySem.F.entry_max (AZ _ _) ?_;refine az (m:=Builtin.Builtins.bindParams "max" ["key","default"] 0 ⟨[],[(Str.ofString "default",d)]⟩) (tS (show _=pure [none,some d]from rfl) (az (bd (az (iter_intList n λp e st g c=>?_)))));subst e;refine az (fK ?_);rw[rl];refine bd ⟨plainId_quiet mD _,?_⟩;have W:=Walks.list (prog:=prog) (w:=w) (A:=A.in1) k _ l c (intItems xs);have f:(intItems xs).size=xs.size:=by simp[intItems]
 refine xT (S:=_) W (CmpOf.ints_gt (numAt xs) (λ_ _=>intItems_at)) (λz=>dw _ (g _ z)) (W.frame _ _ _ st λb _ o e=>aE _ e) (bJ _ rfl) (λz h' tk a=>h0 (f▸z) h' tk (old_kept (l:=l) λb o nb e=>?_)) (λz v h' tk pv a=>h (f▸z) v h' tk (by rw[<-f];exact pv) (old_kept (l:=l) λb o nb e=>?_))
 ·exact a b o nb (bF (aV e)) (aE _ e)
 ·exact a b o nb (bF (aV e)) (aE _ e)
end
theorem Ap:bootBuiltins "max"=some (.builtin "max"):=Qk
def IA(K:ah)(d:Int)(te:TA):TE:=λσ H Q=>te σ H λxs H1=>∃(p:Addr)(ns:List Int),xs=[.ref p]/\SqL K H1 p (ns.map V.int)/\(ns=[]->Q (.int d) H1)/\∀m∈ns,(∀n∈ns,n<=m)->Q (.int m) H1
theorem ET{X:Cx}{x:Str}{d:Int}{j:Nat}{p pos kpos B:Pos}{e:Expr}{t:TA}(F:X.calm=true)(G:Gl X x)(O:X.mg x=none)(i:bootBuiltins x=some (.builtin "max"))(l:PA X [e] t)(hn:x≠"__name__":=by decide)(g:(x==("__debug__":Str))=false:=by decide)
  (M:backTo pos (starEach [e] X.env)=(false,eval e X.env)::backTo pos (starEach [] X.env):=by rfl)(f:(backTo pos (starEach [e] X.env)).any (·.1)=false:=by rfl):
  PE X (.Call (.Name x p) [e] [⟨some (Str.ofString "default"),.Constant (.int d) j B,kpos⟩] pos) (IA X.K d t):=by
 intro pins s σ H Q I h;refine ft (nU I G O i ?_ hn g);refine callWith_kw (dL (l pos pins s σ H _ I h) λus s1⟨vs,H1,o,E,w⟩=>?_) M f;obtain⟨a,ns,rfl,D,N,q⟩:=w;obtain⟨u,rfl,L⟩:=kG E;cases L;refine dL (EQ ai GP pos pins s1 σ H1 (λzs H2=>zs=[.int d]/\H2=H1) o ⟨rfl,rfl⟩) λws U⟨zs,H2,c,A,K,S⟩=>?_;subst K S;obtain⟨u,rfl,t',rfl⟩:=kG A;obtain⟨b,y,R,T⟩:=c.list D;have hi:=xY y;obtain⟨xs,J⟩:=hi.allInts.items;have m:numsOf b.toArray.toList=ns:=by rw[show b.toArray.toList=b from rfl,hi.numsOf]
 have n:=R.isList;rw[J]at n m;rw[nums_intItems]at m;subst m;refine AY (show X.A.handled=none from c.ok.hd F) n (λz h' tk k=>⟨.int d,H2,c.kept (t':=tk) k,⟨t',rfl⟩,N ?_⟩) λV v h' tk i k=>?_
 ·have:xs.toList=[]:=f8.mp (by rw[fb];exact z);rw[this];rfl
 obtain⟨P,rfl⟩:=intItems_at i;obtain⟨h1,h2⟩:=argBest_gt (numAt xs) (xs.size-1);refine⟨.int _,H2,c.kept (t':=tk) k,⟨P,rfl⟩,q _ ?_ λa l=>?_⟩
 ·rw[numAt_eq];exact getD_mem (by rw[ay,fb];omega)
 ·obtain⟨j,C,rfl⟩:=mem_getD l;rw[ay,fb]at C;rw[<-numAt_eq];exact h2 j Qo
theorem EM{X:Cx}{pins:List (Addr×Obj)}{s:Shared}{σ:St}{H:Hp}{D:mB}{st:Stmt}{rest:List Stmt}{b:TS}{u:St->Hp->Prop}(h1:PS X st b)
  (h2:∀(pins:List (Addr×Obj))(s:Shared)(σ:St)(H:Hp),0<s.toks->Inv X pins σ H s->u σ H->wpAny (model X.prog X.w) X.A (execs rest X.env) (SP X pins D) X.xe s)
  (h0:0<s.toks)(I:Inv X pins σ H s)(h:b {D with nx:=u} σ H):wpAny (model X.prog X.w) X.A (execs (st::rest) X.env) (SP X pins D) X.xe s:=by
 refine fq (bX (lH (n:=1) h0 (h1 pins s σ H {D with nx:=u} I h)) (λf s1 q=>?_) λ_ _ z=>z.2);obtain⟨t,q⟩:=q;cases f with
 |next=>obtain⟨a,H',c,q⟩:=q;exact h2 pins s1 a H' t c q
 |ret v=>exact q
 |brk=>exact q
 |cont=>exact q
theorem uW{X:Cx}{C:Addr}{k:Nat}{x:Str}{ps:List Str}{sp:Sp}{e:Expr}{es:List Expr}{t:TA}{p pos:Pos}(h:DP X.prog X.w X.K X.mg X.base k C ps sp)(j:cF (k+1) X.A)(d:Gl X x)(l:X.mg x=some (.ref C))(i:PA X (e::es) t)(b:(x==("__debug__":Str))=false:=by decide)
  (g:starEach (e::es) X.env=(false,eval e X.env)::starEach es X.env:=by rfl)(a:(backTo pos (starEach es X.env)).any (·.1)=false:=by rfl):PE X (.Call (.Name x p) (e::es) [] pos) (FY C sp [] E0 t):=by
 obtain⟨f,fd,F,M,c⟩:=h.ex;exact EU M F j d l c .nil zN i b g a
def Km(K:ah)(te ts:TE):TE:=λσ H Q=>te σ H λx H1=>ts σ H1 λy H2=>∃a u v k,x=.ref a/\y=.int k/\SqL K H2 a [u,v]/\(k=1\/k=-1)/\∀p,H2 p=none->Q (.ref p) (upd H2 p (.lst (if k=1 then [u,v]else [v,u])))
theorem uV(a b:Value):slicePick #[a,b] none none (some 1)=#[a,b]/\slicePick #[a,b] none none (some (-1))=#[b,a]:=by
 constructor
 ·have e:sliceRange (sliceBounds none none (some 1) 2).1 (sliceBounds none none (some 1) 2).2.1 (sliceBounds none none (some 1) 2).2.2=[0,1]:=Qk;show((sliceRange (sliceBounds none none (some 1) 2).1 (sliceBounds none none (some 1) 2).2.1 (sliceBounds none none (some 1) 2).2.2).filterMap (#[a,b][·]?)).toArray=_;rw[e];rfl
 have e:sliceRange (sliceBounds none none (some (-1)) 2).1 (sliceBounds none none (some (-1)) 2).2.1 (sliceBounds none none (some (-1)) 2).2.2=[1,0]:=Qk;show((sliceRange (sliceBounds none none (some (-1)) 2).1 (sliceBounds none none (some (-1)) 2).2.1 (sliceBounds none none (some (-1)) 2).2.2).filterMap (#[a,b][·]?)).toArray=_;rw[e];rfl
section
variable{X:Cx}{e st:Expr}{te ts:TE}{pos p2:Pos}
theorem AH(J:PE X e te)(D:PE X st ts):PE X (.Subscript e (.Slice none none (some st) p2) pos) (Km X.K te ts):=by
 intro pins s σ H Q I h;refine Subscript_ (dL (J pins s σ H _ I h) λv s1⟨x,H1,n,F,p⟩=>?_);refine wpAny_Slice ?_;rw[evalPart_none];refine bd (bd ?_);rw[evalPart_some];refine dL (D pins s1 σ H1 _ n p) λw c⟨y,A,K,E,M⟩=>?_;obtain⟨a,u,z,k,rfl,rfl,G,C,q⟩:=M;cases F;obtain⟨t,rfl⟩:=E;have g:Inv X pins σ A {c with heap:=c.heap.push {cls:=.type "slice",data:=.fields #[.none,.none,.int k t]}}:=K.kept (t':=c.toks) λb L q=>aE _ q;show wpAny (model X.prog X.w) X.A (subscriptTail e (.Slice none none (some st) p2) (.ref a) (.ref c.heap.objs.size)) (EP X pins σ Q) X.xe {c with heap:=c.heap.push {cls:=.type "slice",data:=.fields #[.none,.none,.int k t]}};obtain⟨B,r,m,N⟩:=g.list G;have i:=r.length;refine tail_any (ops:=[.ref a,.ref c.heap.objs.size]) m.isList.typeIs slot_list_getitem.lookup ?_ Qw;refine Bh m.isList (Heap.IsSliceOf.new ..) .none .none (.int k t) (λz=>by injection z with z;omega) ?_ (by rw[bj];omega);cases r with
 | @cons _ d _ _ l r=>
  cases r with
  | @cons _ f _ _ j r=>
   cases r with
   |nil=>
    refine⟨.ref (c.heap.push {cls:=.type "slice",data:=.fields #[.none,.none,.int k t]}).objs.size,_,g.laid (t':=c.toks) (o:=.lst (if k=1 then [u,z]else [z,u])) (λb L q=>aE _ q) (ao _) ?_,rfl,q _ (g.hok.fresh (ao _))⟩;rcases C with rfl|rfl
    ·rw[(uV d f).1,aO rfl];exact⟨by show 2<=sizeLine;decide,[d,f],0,.cons l (.cons j .nil),bJ _ rfl⟩
    ·rw[(uV d f).2,aG Qd];exact⟨by show 2<=sizeLine;decide,[f,d],0,.cons j (.cons l .nil),bJ _ rfl⟩
end
end L2
namespace Net
open PySem L2
def top(i:Nat):Stmt:=PySem.Challenge.pw_netcourt_k82_claim_texts_refused.main.body.getD i (.Pass ⟨0,0,0,0⟩)
abbrev s_is_made_of:Stmt:=top 18
abbrev s_is_name:Stmt:=top 19
abbrev s_is_variable:Stmt:=top 20
abbrev s_read_number:Stmt:=top 21
abbrev s_show_claim:Stmt:=top 29
abbrev s_show_term:Stmt:=top 30
abbrev s_show_set:Stmt:=top 31
abbrev s_read_claim:Stmt:=top 32
abbrev s_read_term:Stmt:=top 33
abbrev s_refuse_other_text:Stmt:=top 34
abbrev s_split_text:Stmt:=top 35
abbrev s_depth_of:Stmt:=top 36
abbrev s_WordRow_init:Stmt:=oS (top 37) 0
abbrev s_WordRow_coming:Stmt:=oS (top 37) 1
abbrev s_WordRow_take:Stmt:=oS (top 37) 2
abbrev s_WordRow_pass_over:Stmt:=oS (top 37) 3
abbrev s_read_whole_claim:Stmt:=top 38
abbrev s_read_whole_term:Stmt:=top 39
abbrev s_is_term:Stmt:=top 40
abbrev s_read_whole:Stmt:=top 41
abbrev s_read_first:Stmt:=top 42
abbrev s_read_name:Stmt:=top 43
abbrev s_read_cost:Stmt:=top 44
abbrev s_read_over_places:Stmt:=top 45
abbrev s_read_of_two:Stmt:=top 46
abbrev s_read_bracket:Stmt:=top 47
abbrev s_read_from_number:Stmt:=top 48
abbrev s_read_set:Stmt:=top 49
abbrev s_read_names:Stmt:=top 50
abbrev s_l_cell_at:Stmt:=top 52
abbrev s_l_mixed:Stmt:=top 53
abbrev s_l_words:Stmt:=top 54
abbrev s_l_point:Stmt:=top 55
abbrev s_l_set_word:Stmt:=top 56
abbrev s_l_number_word:Stmt:=top 57
abbrev s_l_leaf:Stmt:=top 58
abbrev s_l_round:Stmt:=top 59
abbrev s_l_texts:Stmt:=top 60
abbrev s_l_set_text:Stmt:=top 61
abbrev s_l_text:Stmt:=top 62
abbrev s_l_run:Stmt:=top 63
abbrev s_l_names:Stmt:=top 64
abbrev s_l_number_end:Stmt:=top 65
abbrev s_l_set_end:Stmt:=top 66
abbrev s_l_two:Stmt:=top 67
abbrev s_l_bracket:Stmt:=top 68
abbrev s_l_flat:Stmt:=top 69
abbrev s_l_inner:Stmt:=top 70
abbrev s_l_ranged:Stmt:=top 71
abbrev s_l_number_thing:Stmt:=top 72
abbrev s_l_cost_end:Stmt:=top 73
abbrev s_l_thing:Stmt:=top 74
abbrev s_l_full:Stmt:=top 75
abbrev s_l_is:Stmt:=top 76
abbrev s_l_caught:Stmt:=top 77
abbrev s_l_judged:Stmt:=top 78
abbrev s_l_changed:Stmt:=top 79
abbrev s_l_odd:Stmt:=top 80
abbrev s_law:Stmt:=top 81
def qB:Str:="abcdefghijklmnopqrstuvwxyz"
def kj(c:Nat):Bool:=decide (97<=c)&&decide (c<=122)
def hJ(x:Str):Bool:=decide (1<=x.length)&&decide (x.length<=12)&&x.cps.toList.all kj
def sk:Sp:=λvs H Q _=>∃(x y:Str),vs=[.str x,.str y]/\x.length<=sizeLine/\∀H',al H H'->Q (.bl (x.cps.toList.all λc=>decide (c∈y.cps.toList))) H'
def BT:Sp:=λvs H Q _=>∃(x:Str),vs=[.str x]/\x.length<=sizeLine/\∀H',al H H'->Q (.bl (hJ x)) H'
structure dF(K:ah)(mg:Str->Option Value):Prop where
 all:mg "all"=none
 isi:mg "isinstance"=none
 str:mg "str"=none
 int:mg "int"=none
 bool:mg "bool"=none
 list:mg "list"=none
 tuple:mg "tuple"=none
 len:mg "len"=none
 range:mg "range"=none
 abs:mg "abs"=none
 max:mg "max"=none
 small:fS mg "SMALL_LETTERS" (.str qB)
 longest:fS mg "LONGEST_NAME" (.int 12)
 figs:fS mg "FIGURES" (.str "0123456789")
 mostF:fS mg "MOST_FIGURES" (.int 60)
 deep:fS mg "MOST_DEEP" (.int 12)
 great:fS mg "GREAT_LETTERS" (.str "ABCDEFGHIJKLMNOPQRSTUVWXYZ")
 longV:fS mg "LONGEST_VARIABLE" (.int 3)
 signs:fS mg "LONE_SIGNS" (.str "(){},:")
 kIB:bz K (.type "int") (.type "bool")=some false
section
variable{P:Program}{w:World}{K:ah}{mg:Str->Option Value}{base:Heap}
theorem Ex:bD ["text","signs"] ["text","signs"] (aU s_is_made_of):=⟨rfl,rfl,rfl,Qk,rfl,Qk,Qk⟩
theorem Fb{f:Addr}{fd:FuncData}(F:fg K "is_made_of" "is_made_of" s_is_made_of f fd)(T:dF K mg):FnOk P w K mg base gW 1 f fd ["text","signs"] sk:=by
 refine F.ok Ex (λvs H Q E h=>?_) (λj A outer s H vs Q E q h=>?_)
 ·obtain⟨x,y,rfl,_⟩:=h;rfl
 ·obtain⟨x,y,rfl,m,k⟩:=h;refine⟨_,am (aR (bP (DG rfl) Qr T.all JP (aa (kq (N:=["sign","signs"]) (xs:=1) (js:=[1]) rfl (dD rfl) (Cu (pv 0))
   (λ_ _ _ _=>db (i:=0) (show List.Nodup (["sign","signs"]:List Str)by decide+kernel) rfl (aN rfl)) (λ_ _ _ _=>jI) (λ_ _ _ _=>kr j3 (pv 0) (pv 1) Qw)) ac))),?_⟩
  refine⟨_,rfl,x,rfl,vR (λi d a H'=>H'=H/\d=(x.cps.toList.take i).map (λc=>V.bl (decide (c∈y.cps.toList)))/\∃o,a=[o,some (.str y)])
   ⟨rfl,rfl,none,rfl⟩ (λi d a H' h=>?_) m (λi c d a H' l h=>?_) (λd a H' h p n=>?_)⟩
  ·rw[h.2.1,ay,bT];omega
  ·obtain⟨rfl,rfl,o,rfl⟩:=h;refine⟨_,rfl,_,rfl,_,_,rfl,rfl,rfl,?_,_,rfl⟩;have g:x.cps.toList[i]?=some c:=by simpa using l
   rw[StrLaws.found_one,dP,g,aT];rfl
  ·obtain⟨rfl,rfl,o,rfl⟩:=h;refine⟨p,x.cps.toList.map (λc=>decide (c∈y.cps.toList)),rfl,SqL.of ?_,?_⟩
   ·rw[ak,fM,bW Qs];rfl
   ·rw[List.all_map];exact k _ λb t e=>by rw[b5 (dN e n)];exact e
theorem sZ(c:Nat):decide (c∈qB.cps.toList)=kj c:=by
 have e:qB.cps.toList=(List.range 26).map (97+ ·):=Qk;rw[e];unfold kj;rw[be];simp only[aD,bc,cU,eM];constructor
 ·rintro⟨k,h1,h2⟩;omega
 ·intro h;exact⟨c-97,Qo,Qo⟩
theorem Ew:bD ["word"] ["word"] (aU s_is_name):=⟨rfl,rfl,rfl,Qk,rfl,Qk,Qk⟩
theorem Fa{f:Addr}{fd:FuncData}(F:fg K "is_name" "is_name" s_is_name f fd)(T:dF K mg)(d:dk P w K mg base 1 "is_made_of" ["text","signs"] sk):FnOk P w K mg base gW 2 f fd ["word"] BT:=by
 refine F.ok Ew (λvs H Q E h=>?_) (λb A outer s H vs Q E g h=>?_)
 ·obtain⟨x,rfl,_⟩:=h;rfl
 ·obtain⟨x,rfl,a,k⟩:=h;refine⟨_,aw (bA (ij (fe (bP lE Qr T.isi jL (aa (pv 0) (aa (zL T.str Qr mj) ac))))) (am (aR i6)) aW)
   (am (aR (xN (uX rg rg ai (bP cP Qr T.len gc (aa (pv 0) ac)) (cN T.longest Qr))
    (sP (aJ d g Qr (aa (pv 0) (aa (cN T.small Qr) ac))))))),?_⟩
  refine⟨_,rfl,_,"str",_,true,rfl,.str x,rfl,true,rfl,eZ ?_⟩;refine⟨_,rfl,x,rfl,a,_,_,rfl,rfl,_,rfl,?_⟩;refine eG (λh1=>⟨_,_,rfl,rfl,_,rfl,eG (λh2=>⟨_,rfl,x,qB,rfl,a,λH' s'=>?_⟩) (λh2=>?_)⟩) (λh1=>⟨_,rfl,eZ ?_⟩)
  ·have e:hJ x=(x.cps.toList.all λc=>decide (c∈qB.cps.toList)):=by
    unfold hJ;rw[aH (p:=1<=x.length) (by have:=bb h1;omega),aH (p:=x.length<=12) (by have:=bb h2;omega)];simp only[sZ,Bk]
   rw[<-e];exact k H' s'
  ·have e:hJ x=false:=by
    unfold hJ;rw[aP (p:=x.length<=12) (λz=>h2 (aH Qo))];simp
   have:=k H (al.refl H);rw[e]at this;exact this
  ·have e:hJ x=false:=by
    unfold hJ;rw[aP (p:=1<=x.length) (λz=>h1 (aH Qo))];simp
   have:=k H (al.refl H);rw[e]at this;exact this
end
theorem BL{x:Str}(h:hJ x=true):PyData.strOk x=true:=by
 unfold hJ at h;simp only[bc,bw]at h;unfold PyData.strOk;rw[qt];intro c a;have:=h.2 c (by simpa using a);unfold kj at this;simp at this;simp;omega
def PD(H:Hp):Nat->V->PyData->Prop
 |_,.non,d=>d=.none
 |_,.bl b,d=>d=.bool b
 |_,.int i,d=>d=.int i
 |_,.str x,d=>PyData.strOk x=true/\d=.str x
 |n+1,.ref a,d=>(∃xs ds,H a=some (.lst xs)/\d=.list ds/\Paired (PD H n) xs ds)\/∃xs ds,H a=some (.tup xs)/\d=.tuple ds/\Paired (PD H n) xs ds
 |_,_,_=>False
theorem jm{d f:Type}{F:d->f->Prop}{a:d}:∀{xs:List d}{ys:List f}{i:Nat},Paired F xs ys->xs[i]?=some a->∃b,ys[i]?=some b/\F a b
 |_,_,i,.nil,h=>by simp at h
 |_,_,0,.cons (a:=c) (b:=b) h _,e=>by
  have g:c=a:=by simpa using e
  subst g;exact⟨b,rfl,h⟩
 |_,_,i+1,.cons _ t,e=>by
  obtain⟨b,h1,h2⟩:=jm (i:=i) t (by simpa using e);exact⟨b,by simpa using h1,h2⟩
theorem PD.same{H H':Hp}(s:al H H'):∀{n:Nat}{v:V}{d:PyData},PD H n v d->PD H' n v d
 |0,v,d,h=>by cases v<;>first|exact h|exact h.elim
 |n+1,v,d,h=>by
  cases v<;>first|exact h|exact h.elim|skip
  rcases h with⟨xs,ds,e,a,p⟩|⟨xs,ds,e,a,p⟩
  ·exact .inl ⟨xs,ds,s _ _ e,a,L2.Paired.mapP p λ_ _ h=>PD.same s h⟩
  ·exact .inr ⟨xs,ds,s _ _ e,a,L2.Paired.mapP p λ_ _ h=>PD.same s h⟩
def Lz:PyData->Bool
 |.str _=>true
 |_=>false
theorem PD.str_of{H:Hp}{n:Nat}{v:V}{d:PyData}(h:PD H n v d)(e:Lz d=true):∃x,v=.str x/\d=.str x:=by
 cases n with
 |zero=>cases v<;>first|exact h.elim|(cases(show d=_ from h);cases e)|exact⟨_,rfl,h.2⟩
 |succ n=>
  cases v<;>first|exact h.elim|(cases(show d=_ from h);cases e)|exact⟨_,rfl,h.2⟩|skip
  rcases h with⟨xs,ds,a,rfl,p⟩|⟨xs,ds,a,rfl,p⟩<;>cases e
theorem PD.list_of{H:Hp}{n:Nat}{v:V}{ds:List PyData}(h:PD H n v (.list ds)):∃m a xs,n=m+1/\v=.ref a/\H a=some (.lst xs)/\Paired (PD H m) xs ds:=by
 cases n with
 |zero=>cases v<;>first|exact h.elim|cases(show PyData.list ds=_ from h)|cases h.2
 |succ n=>
  cases v<;>first|exact h.elim|cases(show PyData.list ds=_ from h)|cases h.2|skip
  rcases h with⟨xs,c,d,b,p⟩|⟨xs,c,d,b,p⟩
  ·cases b;exact⟨n,_,xs,rfl,rfl,d,p⟩
  ·cases b
theorem PD.int_of{H:Hp}{n:Nat}{v:V}{i:Int}(h:PD H n v (.int i)):v=.int i:=by
 cases n with
 |zero=>cases v<;>first|exact h.elim|(have:=(show PyData.int i=_ from h);cases this;done)|(have:=(show PyData.int i=_ from h);cases this;rfl)|(cases h.2;done)
 |succ n=>
  cases v<;>first|exact h.elim|(have:=(show PyData.int i=_ from h);cases this;done)|(have:=(show PyData.int i=_ from h);cases this;rfl)|(cases h.2;done)|skip
  rcases h with⟨xs,ds,b,a,p⟩|⟨xs,ds,b,a,p⟩<;>cases a
section
variable{P:Program}{w:World}{K:ah}{mg:Str->Option Value}{base:Heap}
def BV(K:ah):Sp:=λvs H Q _=>∃(a:Addr)(ns:List Int)(k:Int),vs=[.ref a,.int k]/\SqL K H a (ns.map V.int)/\0<=k/\∀c,Q (.int c) H
def ki:Sp:=λvs H Q _=>∃(c k:Int),vs=[.int c,.int k]/\0<=k/\k<=100/\∀n,0<=n->Q (.int n) H
theorem Ey:bD ["_law_script","_law_k"] ["_law_script","_law_k"] (aU s_l_cell_at):=⟨rfl,rfl,rfl,Qk,rfl,Qk,Qk⟩
theorem Fe{f:Addr}{fd:FuncData}(F:fg K "_law_cell_at" "_law_cell_at" s_l_cell_at f fd)(T:dF K mg):FnOk P w K mg base gW 1 f fd ["_law_script","_law_k"] (BV K):=by
 refine F.ok Ey (λvs H Q E h=>?_) (λc A outer s H vs Q E e h=>?_)
 ·obtain⟨a,ns,k,rfl,_⟩:=h;rfl
 ·obtain⟨a,ns,k,rfl,b,d,q⟩:=h;refine⟨_,aw (bA (aI jn (pv 1) (bP eL Qr T.len gc (aa (pv 0) ac)) (aS _)) (am (aR (bE d_ (pv 0) (pv 1) (λ_ _=>rfl)))) aW) (am (aR ai)),?_⟩;refine⟨_,rfl,_,rfl,a,_,rfl,.inl b,_,_,rfl,rfl,_,rfl,eG (λh=>?_) (λh=>q 0)⟩;obtain⟨n,rfl⟩:=eN d;have hn:n<ns.length:=by
   have:=bb h;rw[ay]at this;omega
  exact⟨_,rfl,_,rfl,a,_,_,_,rfl,rfl,b,fE (v:=V.int ns[n]) (by simp[hn]),q _⟩
theorem jU:bD ["_law_cell","_law_k","_law_number","_law_time"] ["_law_cell","_law_k"] (aU s_l_mixed):=⟨rfl,rfl,rfl,Qk,rfl,Qk,Qk⟩
theorem CM{f:Addr}{fd:FuncData}(F:fg K "_law_mixed" "_law_mixed" s_l_mixed f fd)(T:dF K mg):FnOk P w K mg base gW 1 f fd ["_law_cell","_law_k"] ki:=by
 refine F.ok jU (λvs H Q E h=>?_) (λb A outer s H vs Q E g h=>?_)
 ·obtain⟨c,k,rfl,_⟩:=h;rfl
 ·obtain⟨c,k,rfl,e,d,q⟩:=h;refine⟨_,aw (bA (aI b4 (aF dv (pv 0) ai) ai (aS _))
    (aw (aY (i:=2) jU.nd rfl (aN rfl) (aF fP (bP DH Qr T.abs JQ (aa (pv 0) ac)) ai))
    (aw (mr PassesOwn.never rfl (iC rfl T.range (aa (pv 1) ac)) (db (i:=3) jU.nd rfl (aN rfl))
     (am (aY (i:=2) jU.nd rfl (aN rfl) (aF CD (pv 2) (aF sS ai ai)))))
    (am (aR (pv 2))))) aW)
   (aw (aY (i:=2) jU.nd rfl (aN rfl) (aF dv (aF bK (pv 0) (aF mw ai (pv 1))) ai))
   (aw (aY (i:=2) jU.nd rfl (aN rfl) (aF dv (aF bK (aF bK (aF mw (pv 2) (pv 2)) (aF mw ai (pv 2))) (pv 1)) ai))
   (am (aR (aF dv (aF mw (pv 2) (pv 2)) ai))))),?_⟩
  refine⟨_,rfl,_,_,rfl,rfl,(by show(0:Int)<2;decide),rfl,_,rfl,eG (λ_=>?_) (λ_=>?_)⟩
  ·refine⟨_,rfl,c,rfl,_,_,rfl,rfl,⟨Qd,Qd⟩,?_⟩;refine⟨_,rfl,k,rfl,Qo,Qo,nZ (n:=k.toNat) (λi a H'=>H'=H/\∃(n:Int)(t:Option V),0<=n/\a=[some (.int c),some (.int k),some (.int n),t]) ?_ ?_ ?_⟩
   ·refine⟨rfl,_,_,?_,rfl⟩;refine fJ ?_ Qd;split<;>omega
   ·rintro i a H' hi⟨rfl,n,t,hn,rfl⟩;refine⟨_,rfl,_,_,rfl,rfl,⟨Qd,Qd,Qd⟩,_,_,rfl,rfl,⟨Qd,Qk⟩,rfl,_,_,?_,rfl⟩;exact fJ hn Qd
   ·rintro a H'⟨rfl,n,t,hn,rfl⟩;exact⟨_,rfl,q n hn⟩
  ·refine⟨_,rfl,_,rfl,_,_,rfl,rfl,.inl ⟨Qd,Qd⟩,_,_,rfl,rfl,_,_,rfl,rfl,(by show(0:Int)<2147483629;decide),?_⟩;generalize hn:(c+7919*k)%2147483629=n;have h1:0<=n:=Qo;have h2:n<2147483629:=Qo;refine⟨_,rfl,_,rfl,_,_,rfl,rfl,.inl ⟨Qo,Qo⟩,_,rfl,_,_,rfl,rfl,.inl ⟨Qd,Qd⟩,_,_,rfl,rfl,_,rfl,_,_,rfl,rfl,_,_,rfl,rfl,(by show(0:Int)<2147483629;decide),?_⟩;generalize hm:(n*n+16807*n+k)%2147483629=m;have l:0<=m:=Qo;have j:m<2147483629:=Qo;refine⟨_,rfl,_,rfl,_,_,rfl,rfl,.inl ⟨Qo,Qo⟩,_,_,rfl,rfl,(by show(0:Int)<2147483587;decide),?_⟩;exact q _ (cX _ Qd)
end
def mkS(l:List Nat):Str:=⟨l.toArray⟩
theorem zW(l:List Nat):(mkS l).cps.toList=l:=rfl
theorem ku(x:Str):mkS x.cps.toList=x:=by
 obtain⟨a⟩:=x;rfl
def gg(c:Nat):List Nat->List Nat->List (List Nat)
 |w,[]=>[w]
 |w,d::r=>if d=c then w::gg c [] r else gg c (w++[d]) r
theorem oX(c:Nat):∀(l w:List Nat),gg c w l≠ []
 |[],w=>b_ _ _
 |d::r,w=>by
  unfold gg;split
  ·exact b_ _ _
  ·exact oX c r _
theorem lT(c:Nat):∀(l w:List Nat),c∉w->∀p∈gg c w l,c∉p
 |[],w,h,p,a=>by
  rw[cy.mp a];exact h
 |d::r,w,h,p,a=>by
  unfold gg at a;split at a
  ·rcases aq.mp a with rfl|a
   ·exact h
   ·exact lT c r [] Qs p a
  ·rename_i hd;refine lT c r (w++[d]) ?_ p a;intro z;rcases bY.mp z with z|z
   ·exact h z
   ·exact hd (cy.mp z).symm
def glueL(z:List Nat):List (List Nat)->List Nat
 |[]=>[]
 |[p]=>p
 |p::q::r=>p++(z++glueL z (q::r))
theorem qc(z p:List Nat){ps:List (List Nat)}(h:ps≠ []):glueL z (p::ps)=p++(z++glueL z ps):=by
 cases ps with
 |nil=>exact absurd rfl h
 |cons _ _=>rfl
def jl(c:Nat)(z:List Nat)(l:List Nat):List Nat:=l.flatMap λd=>if d=c then z else [d]
theorem lv(c:Nat)(z:List Nat):∀(l w:List Nat),glueL z (gg c w l)=w++jl c z l
 |[],w=>by
  show w=w++[];rw[bq]
 |d::r,w=>by
  unfold gg;split
  ·rename_i hd;rw[qc z w (oX c r []),lv c z r []];show _=w++((if d=c then z else [d])++jl c z r);rw[aO hd];rfl
  ·rename_i hd;rw[lv c z r (w++[d])];show _=w++((if d=c then z else [d])++jl c z r);rw[aG hd,ax]
theorem nP(c:Nat):∀l:List Nat,jl c [c] l=l
 |[]=>rfl
 |d::r=>by
  show(if d=c then [c]else [d])++jl c [c] r=_;rw[nP c r];split
  ·rename_i h;rw[h];rfl
  ·rfl
theorem iF(z:Str):∀ps:List (List Nat),(Str.join z (ps.map mkS)).cps.toList=glueL z.cps.toList ps
 |[]=>rfl
 |[p]=>rfl
 |p::q::r=>by
  have a:Str.join z ((p::q::r).map mkS)=mkS p++z++Str.join z ((q::r).map mkS):=rfl;rw[a,L2.Tx.iH,L2.Tx.iH,iF z (q::r),ax];rfl
theorem lC(c:Nat):∀(l w:List Nat),(gg c w l).length<=l.length+1
 |[],w=>ao 1
 |d::r,w=>by
  unfold gg;split
  ·exact f6 (lC c r [])
  ·exact kT (lC c r _)
theorem nK(x:Str)(c:Nat)(e:Builtin.Str.strKind ⟨#[c]⟩<=1):PySem.Txt.split x ⟨#[c]⟩=(gg c [] x.cps.toList).map mkS:=by
 have a:Str.join ⟨#[c]⟩ ((gg c [] x.cps.toList).map mkS)=x:=by
  refine du ?_;rw[iF,lv];show []++jl c [c] x.cps.toList=_;rw[nP];rfl
 have:=L2.Tx.wZ (y:=⟨#[c]⟩) (c:=c) (cs:=[]) rfl (parts:=(gg c [] x.cps.toList).map mkS) (by
  intro z;exact oX c _ _ (Ge.mp z)) (λp d=>by
  obtain⟨l,b,rfl⟩:=cU.mp d;exact lT c _ [] Qs l b) e (by
  rw[a,ay,<-L2.Tx.bQ x];exact lC c _ _)
 rw[a]at this;exact this
theorem uP(x z:Str)(c:Nat)(a:Builtin.Str.strKind ⟨#[c]⟩<=1):(PySem.Txt.replace x ⟨#[c]⟩ z).cps.toList=jl c z.cps.toList x.cps.toList:=by
 rw[PySem.StrLaws.replace_one,nK x c a,iF,lv];rfl
open PySem L2 L2.Tx PySem.NumText
def vN(l:List Nat):Bool:=l.all λc=>decide (48<=c)&&decide (c<=57)
def figsOf:List Nat->List Nat
 |[]=>[]
 |c::r=>if c=45 then r else c::r
def gn(l:List Nat):Bool:=(decide (1<=(figsOf l).length)&&decide ((figsOf l).length<=60)&&vN (figsOf l))&& !(decide ((figsOf l)[0]?=some 48)&&decide (l≠ [48]))
def i_(l:List Nat):Int:=if l[0]?=some 45 then-(digitsVal (figsOf l):Int)else(digitsVal (figsOf l):Int)
theorem Du{l:List Nat}(h:vN l=true):AllDigits l:=λc a=>by
 have:=bw.mp h c a;simpa using this
theorem wC{l:List Nat}(h:AllDigits l):vN l=true:=bw.mpr λc a=>by
 have:=h c a;simpa using this
theorem FE{m d:Nat}(a:0<m)(hd:d<10):dg (10*m+d)=dg m++[48+d]:=by
 unfold dg;have t:Nat.toDigits 10 m++Nat.toDigits 10 d=Nat.toDigits 10 (10*m+d):=wJ Qd a hd;rw[<-t,aT,lZ hd];congr 1;have:∀d:Nat,d<10->([Nat.digitChar d].map Char.toNat)=[48+d]:=Qd;exact this d hd
theorem yF{d:Nat}(hd:d<10):dg d=[48+d]:=by
 unfold dg;rw[lZ hd];have:∀d:Nat,d<10->([Nat.digitChar d].map Char.toNat)=[48+d]:=Qd;exact this d hd
theorem pW:∀(r:List Nat)(m:Nat),0<m->AllDigits r->∃k,0<k/\dg k=dg m++r
 |[],m,a,_=>⟨m,a,by rw[bq]⟩
 |c::r,m,a,h=>by
  obtain⟨h1,h2⟩:=h c aA;have e:=FE (m:=m) (d:=c-48) a Qo;rw[show 48+(c-48)=c by omega]at e;obtain⟨k,f,g⟩:=pW r (10*m+(c-48)) Qo λx b=>h x (aB _ b);exact⟨k,f,by rw[g,e,ax];rfl⟩
theorem CW{l:List Nat}(a:l≠ [])(h:AllDigits l)(h0:l[0]? ≠some 48):∃k,0<k/\dg k=l:=by
 cases l with
 |nil=>exact absurd rfl a
 |cons c r=>
  obtain⟨h1,h2⟩:=h c aA;have f:c≠48:=λz=>h0 (by rw[z];rfl);obtain⟨k,d,e⟩:=pW r (c-48) Qo λx b=>h x (aB _ b);refine⟨k,d,?_⟩;rw[e,yF Qo,show 48+(c-48)=c by omega];rfl
theorem pe(m:Nat):digitsVal (dg m)=m:=PySem.W.KIN.val_back m
theorem j8{l:List Nat}(h:gn l=true):(numT (i_ l)).cps.toList=l/\AllDigits (figsOf l)/\figsOf l≠ []/\(figsOf l).length<=60/\l≠ []/\PySem.intText? (mkS l)=some (i_ l):=by
 unfold gn at h;simp only[bc,aD,iY,gR,decide_eq_false_iff_not]at h;obtain⟨⟨⟨h1,h2⟩,o⟩,b⟩:=h;have hd:=Du o;have a:figsOf l≠ []:=λz=>by rw[z]at h1;exact absurd h1 Qd
 have s:l≠ []:=λz=>by rw[z]at a;exact a rfl
 cases l with
 |nil=>exact absurd rfl s
 |cons c r=>
  by_cases j:c=45
  ·subst j;have d:figsOf (45::r)=r:=by show(if(45:Nat)=45 then r else 45::r)=r;rw[aO rfl]
   rw[d]at h1 h2 o b hd a;have h0:r[0]? ≠some 48:=λz=>by
    rcases b with b|b
    ·exact b z
    ·exact b Qs
   obtain⟨k,t,f⟩:=CW a hd h0;have i:i_ (45::r)=-(k:Int):=by
    show(if(45::r)[0]?=some 45 then-(digitsVal (figsOf (45::r)):Int)else _)=_;rw[aO (show(45::r)[0]?=some 45 from rfl),d,<-f,pe]
   obtain⟨m,rfl⟩:∃m,k=m+1:=⟨k-1,Qo⟩;have p:-((m+1:Nat):Int)=Int.negSucc m:=rfl;refine⟨by rw[i,p,u_,f],by rw[d];exact hd,by rw[d];exact a,by rw[d];exact h2,b_ _ _,?_⟩;have e:=intText_neg (x:=mkS (45::r)) (rfl:(mkS (45::r)).cps.toList=45::r) hd a (by show(mkS (45::r)).cps.size<=_;show(45::r).toArray.size<=_;simp;omega);rw[e,i,<-f,pe]
  ·have d:figsOf (c::r)=c::r:=by show(if c=45 then r else c::r)=_;rw[aG j]
   rw[d]at h1 h2 o b hd a;have n:(c::r)[0]? ≠some 45:=λz=>j (by simpa using z);have g:i_ (c::r)=(digitsVal (c::r):Int):=by
    show(if(c::r)[0]?=some 45 then _ else(digitsVal (figsOf (c::r)):Int))=_;rw[aG n,d]
   have it:=intText_digits (x:=mkS (c::r)) hd a (by show(c::r).toArray.size<=_;simp at h2⊢;omega);have q:∃k,dg k=c::r:=by
    by_cases h0:(c::r)[0]?=some 48
    ·have:c::r=[48]:=by
      rcases b with b|b
      ·exact absurd h0 b
      ·simpa using b
     exact⟨0,by rw[this];exact yF Qd⟩
    ·obtain⟨k,_,f⟩:=CW a hd h0;exact⟨k,f⟩
   obtain⟨k,f⟩:=q;have i:i_ (c::r)=(k:Int):=by rw[g,<-f,pe]
   refine⟨by rw[i,m6,f],by rw[d];exact hd,by rw[d];exact a,by rw[d];exact h2,b_ _ _,?_⟩;rw[it,g];rfl
theorem mx{x:Str}(h:hJ x=true):∀c∈x.cps.toList,97<=c/\c<=122:=λc a=>by
 unfold hJ at h;simp only[bc,bw]at h;have:=h.2 c a;unfold kj at this;simpa using this
theorem vC{x:Str}(h:hJ x=true):1<=x.length/\x.length<=12:=by
 unfold hJ at h;simp at h;exact h.1
theorem lQ{l:List Nat}(h:gn l=true):∀c∈l,c=45\/(48<=c/\c<=57):=λc e=>by
 obtain⟨_,hd,_,_,f,_⟩:=j8 h;cases l with
 |nil=>exact absurd rfl f
 |cons d r=>
  by_cases a:d=45
  ·have b:figsOf (d::r)=r:=by show(if d=45 then r else d::r)=r;rw[aO a]
   rw[b]at hd;rcases aq.mp e with z|z
   ·exact .inl (z.trans a)
   ·exact .inr (hd c z)
  ·have b:figsOf (d::r)=d::r:=by show(if d=45 then r else d::r)=_;rw[aG a]
   rw[b]at hd;exact .inr (hd c e)
theorem sV{l:List Nat}(h:gn l=true):1<=l.length/\l.length<=61:=by
 obtain⟨_,_,hn,h2,a,_⟩:=j8 h;cases l with
 |nil=>exact absurd rfl a
 |cons d r=>
  have:(d::r).length<=(figsOf (d::r)).length +1:=by
   show r.length+1<=(if d=45 then r else d::r).length +1;split
   ·exact ao _
   ·simp
  refine⟨Qs,Qo⟩
theorem o_:∀(l:List Nat)(a:Nat),AllDigits l->l.foldl (λa c=>a*10+(c-48)) a+1<=(a+1)*10^l.length
 |[],a,_=>Qs
 |c::r,a,h=>by
  obtain⟨h1,h2⟩:=h c aA;have d:=o_ r (a*10+(c-48)) λx b=>h x (aB _ b);rw[List.foldl_cons,aK];refine af d ?_;rw[Nat.pow_succ,Nat.mul_comm (10^r.length) 10,<-Nat.mul_assoc];exact Nat.mul_le_mul_right _ Qo
theorem tF{l:List Nat}(h:AllDigits l):digitsVal l<10^l.length:=by
 have:=o_ l 0 h;rw[Nat.zero_add,Nat.one_mul]at this;exact this
theorem Fj{l:List Nat}(h:gn l=true):(i_ l).natAbs.log2 <1920:=by
 obtain⟨_,hd,_,h2,_,_⟩:=j8 h;have h1:(i_ l).natAbs <10^120:=by
  have b:digitsVal (figsOf l)<10^(figsOf l).length:=tF hd;have c:10^(figsOf l).length<=10^120:=Nat.pow_le_pow_right Qd (af h2 Qd);have e:(i_ l).natAbs=digitsVal (figsOf l):=by
   unfold i_;split<;>simp
  omega
 have a:(10:Nat)^120<2^400:=by
  have z:((10:Nat)^3)^40<(2^10)^40:=Nat.pow_lt_pow_left Qd Qd;rw[<-Nat.pow_mul,<-Nat.pow_mul]at z;exact z
 by_cases h0:(i_ l).natAbs=0
 ·rw[h0];decide
 ·have:=(Nat.log2_lt h0).mpr (mE h1 a);omega
open PySem L2 L2.Tx
def okX(x:Str):Prop:=x.length<=8000/\∀c∈x.cps.toList,c<1114112
theorem okX.len{x:Str}(h:okX x):x.length<=sizeLine:=af h.1 Qd
theorem okX.rep{x:Str}(h:okX x):(reprText x).length<=100000:=by
 have:=StrLaws.reprText_len x λc a=>mE (h.2 c a) Qd;have:=h.1;omega
theorem okX.repS{x:Str}(h:okX x):(reprText x).length<=sizeLine:=af h.rep Qd
structure yL(K:ah)(mg:Str->Option Value)(ct:Addr):Prop where
 mt:mg "NoText"=some (.ref ct)
 ex:PySem.W.excIn K ct [.type "ValueError",.type "Exception",.type "BaseException",.type "object"] "ValueError.__new__"=true
def xC(ct:Addr):Sp:=λvs H Q E=>∃(x:Str),vs=[.str x,.int 60]/\okX x/\(gn x.cps.toList=true->∀H',al H H'->Q (.int (i_ x.cps.toList)) H')/\(gn x.cps.toList=false->∀H',al H H'->E (.ref ct) none H')
theorem C9(c:Nat):decide (c∈("0123456789":Str).cps.toList)=(decide (48<=c)&&decide (c<=57)):=by
 have e:("0123456789":Str).cps.toList=(List.range 10).map (48+ ·):=Qk;rw[e,be];simp only[aD,bc,cU,eM];constructor
 ·rintro⟨k,h1,h2⟩;omega
 ·intro h;exact⟨c-48,Qo,Qo⟩
theorem C7:("-":Str)=⟨#[45]⟩:=Qk
theorem D4:("0":Str)=⟨#[48]⟩:=Qk
theorem Dy:("":Str)=mkS []:=Qk
theorem Dt(l:List Nat):(figsOf l).length<=l.length:=by
 cases l with
 |nil=>exact ao _
 |cons c r=>
  show(if c=45 then r else c::r).length<=_;split
  ·simp
  ·exact ao _
theorem jJ(l:List Nat):(mkS l).length=l.length:=by
 show l.toArray.size=_;simp
theorem iK(l:List Nat):gn l=((decide (1<=(figsOf l).length)&&decide ((figsOf l).length<=60)&&vN (figsOf l))&& !(decide ((figsOf l)[0]?=some 48)&&decide (l≠ [48]))):=rfl
section
variable{P:Program}{w:World}{K:ah}{mg:Str->Option Value}{base:Heap}{ct:Addr}
theorem pI:bD ["text","most_figures","figures"] ["text","most_figures"] (aU s_read_number):=⟨rfl,rfl,rfl,Qk,rfl,Qk,Qk⟩
theorem xQ{f:Addr}{fd:FuncData}(F:fg K "read_number" "read_number" s_read_number f fd)(T:dF K mg)(R:yL K mg ct)(G:dk P w K mg base 1 "is_made_of" ["text","signs"] sk):FnOk P w K mg base (kS P w) 2 f fd ["text","most_figures"] (xC ct):=by
 refine F.okX pI (λvs H Q E h=>?_) (λD A outer s H vs Q E L W h=>?_)
 ·obtain⟨x,rfl,_⟩:=h;rfl
 ·obtain⟨x,rfl,b,q,N⟩:=h;refine⟨_,(aQ (aY (i:=2) pI.nd rfl (aN rfl) (pS (fe (dW aX wP wO rk (pv 0) (aa ad ac))) (bM cK (pv 0) (bi ai) fj) (pv 0)))
   (aw (bA (PW.pt (eQ (ij (Cm rg rg ai (bP cP Qr T.len gc (aa (pv 2) ac)) (pv 1))) (dU (ij (fe (aJ G L Qr (aa (pv 2) (aa (cN T.figs Qr) ac))))))))
    (am (fi W rfl Qr R.mt R.ex bG (aa (fB (bO (ko (pv 0)) (bO ad gI)) Qd) ac))) aW)
   (aw (bA (PW.pt (gH (fe (dW aX wP wO rk (pv 2) (aa ad ac))) (gb (aI fc (pv 0) ad (aS _)))))
    (am (fi W rfl Qr R.mt R.ex bG (aa (fB (bO (ko (pv 0)) (bO ad gI)) Qd) ac))) aW)
   (am (aR (d9 Bb Qr T.int Aq (aa (pv 0) ac))))))),?_⟩
  have C:(mkS (figsOf x.cps.toList)).length<=8000:=by
   rw[jJ];exact af (Dt _) (by rw[bQ];exact b.1)
  refine⟨λj H'=>j=[some (.str x),some (.int 60),some (.str (mkS (figsOf x.cps.toList)))]/\H=H',?_,?_⟩
  ·refine⟨_,rfl,rfl,_,_,rfl,rfl,_,rfl,?_⟩;rw[C7,pi];refine eG (λhi=>?_) (λhi=>?_)
   ·have hi:=bb hi;refine⟨_,rfl,_,rfl,_,rfl,b.len,?_,rfl⟩;show [some (V.str x),some (V.int 60),some (V.str _)]=_;refine bL (λz=>[some (V.str x),some (V.int 60),some (V.str z)]) (du ?_);have O:1<=x.length:=by
     have:=(b8.mp hi).1;rw[bQ]at this;omega
    rw[show(1:Int)=((1:Nat):Int)from rfl,iz _ O];show _=figsOf x.cps.toList;cases e:x.cps.toList with
    |nil=>rw[e]at hi;cases hi
    |cons c r=>
     rw[e]at hi;have l:c=45:=by simpa using hi
     show r=if c=45 then r else c::r;rw[aO l]
   ·have hi:¬x.cps.toList[0]?=some 45:=λz=>hi (aH z);refine⟨_,rfl,?_,rfl⟩;show [some (V.str x),some (V.int 60),some (V.str _)]=_;refine bL (λz=>[some (V.str x),some (V.int 60),some (V.str z)]) (du ?_);show _=figsOf x.cps.toList;cases e:x.cps.toList with
    |nil=>rfl
    |cons c r=>
     rw[e]at hi;have l:c≠45:=λz=>hi (by rw[z];rfl);show c::r=if c=45 then r else c::r;rw[aG l]
  ·rintro j H'⟨rfl,rfl⟩;have v:¬(1:Int)<=((mkS (figsOf x.cps.toList)).length:Int)->gn x.cps.toList=false:=λz=>by
    rw[jJ]at z;rw[iK,aP (p:=1<=(figsOf x.cps.toList).length) Qo];rfl
   have k:¬((mkS (figsOf x.cps.toList)).length:Int)<=60->gn x.cps.toList=false:=λz=>by
    rw[jJ]at z;rw[iK,aP (p:=(figsOf x.cps.toList).length<=60) Qo];simp
   have a:∀{H':Hp},gn x.cps.toList=false->al H H'->E (.ref ct) none H':=λz s'=>N z _ s';refine⟨_,rfl,_,rfl,af C Qd,_,_,rfl,rfl,_,rfl,eG (λh1=>?_) (λh1=>⟨_,rfl,fO rfl (eT ⟨_,rfl,.inl ⟨x,rfl,b.repS,_,rfl,b.rep,_,rfl,Qk,by show 1<=sizeLine;decide,a (v λz=>h1 (aH z)) (al.refl _)⟩⟩)⟩)⟩;have h1:=bb h1;refine⟨_,rfl,_,_,rfl,rfl,_,rfl,eG (λh2=>eT ⟨_,rfl,.inl ⟨x,rfl,b.repS,_,rfl,b.rep,_,rfl,Qk,by show 1<=sizeLine;decide,a (k λz=>?_) (al.refl _)⟩⟩) (λh2=>?_)⟩
   ·rw[aH z]at h2;exact ba h2
   have h2:((mkS (figsOf x.cps.toList)).length:Int)<=60:=by
    by_cases z:((mkS (figsOf x.cps.toList)).length:Int)<=60
    ·exact z
    ·exact absurd (by rw[aP z];rfl) h2
   have o:decide (1<=(figsOf x.cps.toList).length)=true:=aH (by rw[jJ]at h1;omega);have B:decide ((figsOf x.cps.toList).length<=60)=true:=aH (by rw[jJ]at h2;omega);refine⟨_,rfl,_,"0123456789",rfl,af C Qd,λH1 s1=>⟨_,rfl,?_⟩⟩;have I:((mkS (figsOf x.cps.toList)).cps.toList.all λc=>decide (c∈("0123456789":Str).cps.toList))=vN (figsOf x.cps.toList):=by
    simp only[C9];rfl
   rw[I];cases h3:vN (figsOf x.cps.toList)with
   |false=>
    refine eT ⟨_,rfl,.inl ⟨x,rfl,b.repS,_,rfl,b.rep,_,rfl,Qk,by show 1<=sizeLine;decide,a ?_ s1⟩⟩;rw[iK,h3,o,B];rfl
   |true=>
    refine eZ ?_;have g:gn x.cps.toList=true->∀H2,al H1 H2->∃t n,[V.str x]=[.str t]/\PySem.intText? t=some n/\t.length<=640/\Q (.int n) H2:=λz H2 M=>by
     obtain⟨_,_,_,_,_,it⟩:=j8 z;rw[ku]at it;refine⟨x,_,rfl,it,?_,q z _ (s1.trans M)⟩;have:=(sV z).2;rw[bQ]at this;omega
    refine⟨_,rfl,rfl,_,_,rfl,rfl,_,rfl,?_⟩;rw[D4,pi];refine eG (λm=>?_) (λm=>eZ ⟨_,rfl,g ?_ H1 (al.refl _)⟩)
    ·have d:(figsOf x.cps.toList)[0]?=some 48:=bb m;refine⟨_,rfl,rfl,_,rfl,eG (λhn=>?_) (λhn=>⟨_,rfl,g ?_ H1 (al.refl _)⟩)⟩
     ·refine⟨_,rfl,.inl ⟨x,rfl,b.repS,_,rfl,b.rep,_,rfl,Qk,by show 1<=sizeLine;decide,a ?_ s1⟩⟩;have u:x.cps.toList≠ [48]:=λz=>by
       have:x=(⟨#[48]⟩:Str):=du z;rw[this]at hn;exact absurd hn Qk
      rw[iK,aH d,aH u];simp
     ·have J:x.cps.toList=[48]:=by
       by_cases z:x=(⟨#[48]⟩:Str)
       ·rw[z]
       ·exact absurd (by rw[aP (λy=>z (by injection y))];rfl) hn
      rw[iK,o,B,h3,J];rfl
    ·have d:¬(figsOf x.cps.toList)[0]?=some 48:=λz=>m (aH z);rw[iK,o,B,h3,aP d];rfl
end
def bS(c:Nat):Bool:=decide (65<=c)&&decide (c<=90)
def jz(x:Str):Bool:=decide (1<=x.length)&&decide (x.length<=3)&&x.cps.toList.all bS
def okN(x:Str):Bool:=hJ x||jz x
inductive Ks where
 |all
 |of(w n:Str)
 |these(ns:List Str)
inductive Cl where
 |nm(w:Str)(ns:List Str)
 |cost(a b:Str)(n:Int)
 |num(n:Int)
 |size(s:Ks)
 |pairs(s t:Ks)
 |atm(a b:Cl)
 |neg(a:Cl)
 |bin(w:Str)(a b:Cl)
 |plus(a b:Cl)
 |two(w:Str)(a b:Cl)
 |ov(w v:Str)(s:Ks)(a:Cl)
 |tim(n:Int)(a:Cl)
def datK:Ks->PyData
 |.all=>.tuple [.str "all"]
 |.of w n=>.tuple [.str w,.str n]
 |.these ns=>.tuple [.str "these",.list (ns.map .str)]
def dat:Cl->PyData
 |.nm w ns=>.tuple (.str w::ns.map .str)
 |.cost a b n=>.tuple [.str "cost",.str a,.str b,.int n]
 |.num n=>.tuple [.str "number",.int n]
 |.size s=>.tuple [.str "size",datK s]
 |.pairs s t=>.tuple [.str "pairs",datK s,datK t]
 |.atm a b=>.tuple [.str "atmost",dat a,dat b]
 |.neg a=>.tuple [.str "not",dat a]
 |.bin w a b=>.tuple [.str w,dat a,dat b]
 |.plus a b=>.tuple [.str "plus",dat a,dat b]
 |.two w a b=>.tuple [.str w,dat a,dat b]
 |.ov w v s a=>.tuple [.str w,.str v,datK s,dat a]
 |.tim n a=>.tuple [.str "times",.int n,dat a]
def hw:Cl->Str
 |.nm w _=>w
 |.cost _ _ _=>"cost"
 |.num _=>"number"
 |.size _=>"size"
 |.pairs _ _=>"pairs"
 |.atm _ _=>"atmost"
 |.neg _=>"not"
 |.bin w _ _=>w
 |.plus _ _=>"plus"
 |.two w _ _=>w
 |.ov w _ _ _=>w
 |.tim _ _=>"times"
def cG:List Str:=["number","size","flow","apart","bare","pairs","plus","least","most","times"]
def dY(c:Cl):Bool:=decide (hw c∈cG)
def nb(x:Str):Option Nat:=if x="way"then some 2 else if x="ring"then some 0 else if x="round"then some 0 else if x="must"then some 3 else if x="flow"then some 2 else if x="apart"then some 2 else if x="bare"then some 2 else none
def qP(n:Int):Prop:=gn (numT n).cps.toList=true/\i_ (numT n).cps.toList=n
def tU:Ks->Prop
 |.all=>True
 |.of w n=>(w="from"\/w="to")/\okN n=true
 |.these ns=>∀n∈ns,okN n=true
def wf:Cl->Prop
 |.nm w ns=>nb w=some ns.length/\∀n∈ns,okN n=true
 |.cost a b n=>okN a=true/\okN b=true/\qP n
 |.num n=>qP n
 |.size s=>tU s
 |.pairs s t=>tU s/\tU t
 |.atm a b=>dY a=true/\dY b=true/\wf a/\wf b
 |.neg a=>dY a=false/\wf a
 |.bin w a b=>(w="and"\/w="or")/\dY a=false/\dY b=false/\wf a/\wf b
 |.plus a b=>dY a=true/\dY b=true/\wf a/\wf b
 |.two w a b=>(w="least"\/w="most")/\dY a=true/\dY b=true/\wf a/\wf b
 |.ov w v s a=>(w="each"\/w="some")/\jz v=true/\tU s/\dY a=false/\wf a
 |.tim n a=>0<=n/\qP n/\dY a=true/\wf a
def dep:Cl->Nat
 |.atm a b=>1+max (dep a) (dep b)
 |.neg a=>1+dep a
 |.bin _ a b=>1+max (dep a) (dep b)
 |.plus a b=>1+max (dep a) (dep b)
 |.two _ a b=>1+max (dep a) (dep b)
 |.ov _ _ _ a=>1+dep a
 |.tim _ a=>1+dep a
 |_=>1
def rn:Cl->Nat
 |.atm a b=>max (rn a) (rn b)
 |.neg a=>1+rn a
 |.bin _ a b=>1+max (rn a) (rn b)
 |.plus a b=>1+max (rn a) (rn b)
 |.two _ a b=>1+max (rn a) (rn b)
 |.ov _ _ _ a=>1+rn a
 |.tim _ a=>1+rn a
 |_=>1
def gl:List Str->List Str
 |[]=>[]
 |n::r=>n::r.flatMap λm=>[(",":Str),m]
def mF:Ks->List Str
 |.all=>["all"]
 |.of w n=>[w,n]
 |.these ns=>"{"::(gl ns++[("}":Str)])
def wd:Cl->List Str
 |.nm w ns=>w::ns
 |.cost a b n=>["cost",a,b,"<=",numT n]
 |.num n=>[numT n]
 |.size s=>"size"::mF s
 |.pairs s t=>"pairs"::(mF s++mF t)
 |.atm a b=>wd a++("<=":Str)::wd b
 |.neg a=>"not"::wd a
 |.bin w a b=>"("::(wd a++w::(wd b++[(")":Str)]))
 |.plus a b=>"("::(wd a++("+":Str)::(wd b++[(")":Str)]))
 |.two w a b=>w::"("::(wd a++(",":Str)::(wd b++[(")":Str)]))
 |.ov w v s a=>w::v::"in"::(mF s++(":":Str)::wd a)
 |.tim n a=>numT n::"*"::wd a
def hd(l:List Str):Str:=l.headD ""
def rName(l:List Str):Option (Str×List Str):=if okN (hd l)=true then some (hd l,l.tail)else none
def dG(w:Str)(l:List Str):Option (List Str):=if hd l=w then some l.tail else none
def kO:Nat->List Str->Option (List Str×List Str)
 |0,l=>some ([],l)
 |n+1,l=>(rName l).bind λq=>(kO n q.2).map λp=>(q.1::p.1,p.2)
def f_:List Str->Option (List Str×List Str)
 |[]=>some ([],[])
 |[a]=>if a=","then none else some ([],[a])
 |a::w::l=>if a=","then(if okN w=true then(f_ l).map λq=>(w::q.1,q.2)else none)else some ([],a::w::l)
def fG(l:List Str):Option (List Str×List Str):=
 if hd l="}"then some ([],l.tail)else(rName l).bind λq=>(f_ q.2).bind λp=>(dG "}" p.2).map λa=>(q.1::p.1,a)
def ic(l:List Str):Option (Ks×List Str):=
 if hd l="all"then some (.all,l.tail)else if hd l="from"\/hd l="to"then(rName l.tail).map λq=>(.of (hd l) q.1,q.2)
 else if hd l="{"then(fG l.tail).map λq=>(.these q.1,q.2)else none
def km(w:Str):Option Int:=if gn w.cps.toList=true then some (i_ w.cps.toList)else none
def jX(l:List Str):Option (Cl×List Str):=(rName l).bind λq=>(rName q.2).bind λp=>(dG "<=" p.2).bind λa=>(km (hd a)).map λn=>(.cost q.1 p.1 n,a.tail)
abbrev lG:=List Str->Option (Cl×List Str)
def gx(f:lG):lG:=λl=>(f l).bind λq=>if dY q.1=true then some q else none
def jh(f:lG):lG:=λl=>(f l).bind λq=>if dY q.1=false\/hd q.2≠"<="then some q else(gx f q.2.tail).map λp=>(.atm q.1 p.1,p.2)
def i9(f:lG):lG:=λl=>(jh f l).bind λq=>if dY q.1=true then none else some q
def jW(f:lG)(w:Str):lG:=λl=>if jz (hd l)=true then(dG "in" l.tail).bind λb=>(ic b).bind λq=>(dG ":" q.2).bind λa=>(i9 f a).map λp=>(.ov w (hd l) q.1 p.1,p.2)else none
def oE(f:lG)(w:Str):lG:=λl=>(dG "(" l).bind λc=>(gx f c).bind λq=>(dG "," q.2).bind λb=>(gx f b).bind λp=>(dG ")" p.2).map λa=>(.two w q.1 p.1,a)
def tQ(f:lG):lG:=λl=>(jh f l).bind λq=>(jh f q.2.tail).bind λp=>(dG ")" p.2).bind λa=>
 if hd q.2="+"/\dY q.1=true/\dY p.1=true then some (.plus q.1 p.1,a)else if(hd q.2="and"\/hd q.2="or")/\dY q.1=false/\dY p.1=false then some (.bin (hd q.2) q.1 p.1,a)else none
def Cj(f:lG)(w:Str):lG:=λl=>(km w).bind λn=>if hd l≠"*"then some (.num n,l)else if n<0 then none else(gx f l.tail).map λq=>(.tim n q.1,q.2)
def firstOf(f:lG):lG:=λl=>
 match nb (hd l)with
 |some n=>(kO n l.tail).map λq=>(.nm (hd l) q.1,q.2)
 |none=>if hd l="cost"then jX l.tail else if hd l="not"then(i9 f l.tail).map λq=>(.neg q.1,q.2)
  else if hd l="each"\/hd l="some"then jW f (hd l) l.tail else if hd l="size"then(ic l.tail).map λq=>(.size q.1,q.2)
  else if hd l="pairs"then(ic l.tail).bind λq=>(ic q.2).map λp=>(.pairs q.1 p.1,p.2)
  else if hd l="least"\/hd l="most"then oE f (hd l) l.tail else if hd l="("then tQ f l.tail else Cj f (hd l) l.tail
def bx:Nat->lG
 |0=>λ_=>none
 |m+1=>firstOf (bx m)
theorem lS(w:Str)(l:List Str):hd (w::l)=w:=rfl
theorem jw{w a:Str}{l:List Str}(h:w≠a):hd (w::l)≠a:=h
theorem ll{n:Str}{l:List Str}(h:okN n=true):rName (n::l)=some (n,l):=aO h
theorem zI{l:List Str}:∀{ns:List Str},(∀n∈ns,okN n=true)->kO ns.length (ns++l)=some (ns,l)
 |[],_=>rfl
 |n::r,h=>by
  show(rName (n::(r++l))).bind _=_;rw[ll (h n aA)];show(kO r.length (r++l)).map _=_;rw[zI λx a=>h x (aB _ a)];rfl
theorem Hh{w n:Str}(h:okN n=true)(hw:okN w=false):n≠w:=λz=>by rw[z,hw]at h;cases h
theorem uU{l:List Str}(b:hd l≠","):∀{ns:List Str},(∀n∈ns,okN n=true)->f_ (ns.flatMap (λm=>[(",":Str),m])++l)=some (ns,l)
 |[],_=>by
  show f_ l=_
  match l,b with
  |[],_=>rfl
  |[a],b=>exact aG b
  |a::w::l,b=>exact aG b
 |n::r,h=>by
  show f_ (","::n::(r.flatMap (λm=>[(",":Str),m])++l))=_;unfold f_;rw[aO rfl,aO (h n aA),uU b λx c=>h x (aB _ c)];rfl
theorem AD{l:List Str}:∀{ns:List Str},(∀n∈ns,okN n=true)->fG (gl ns++("}":Str)::l)=some (ns,l)
 |[],_=>rfl
 |n::r,h=>by
  show fG (n::(r.flatMap (λm=>[(",":Str),m])++("}":Str)::l))=_;unfold fG;rw[lS,aG (Hh (h n aA) Qk),ll (h n aA)];show(f_ (r.flatMap (λm=>[(",":Str),m])++("}":Str)::l)).bind _=_;rw[uU (jw Qk) λx a=>h x (aB _ a)];rfl
theorem oP{s:Ks}(h:tU s)(l:List Str):ic (mF s++l)=some (s,l):=by
 cases s with
 |all=>rfl
 |of w n=>
  obtain⟨hw,hn⟩:=h;show ic (w::n::l)=_;have h1:w≠"all":=by rcases hw with rfl|rfl<;>decide+kernel
  unfold ic;rw[lS,aG h1,aO hw];show(rName (n::l)).map _=_;rw[ll hn];rfl
 |these ns=>
  show ic ("{"::(gl ns++[("}":Str)]++l))=_;unfold ic;rw[lS,aG Qk,aG Qk,aO rfl];show(fG (gl ns++[("}":Str)]++l)).map _=_;rw[ax];show(fG (gl ns++("}":Str)::l)).map _=_;rw[AD h];rfl
theorem sI{n:Int}(h:qP n):km (numT n)=some n:=by
 unfold km;rw[aO h.1,h.2]
theorem gJ{n:Int}(h:qP n){w:Str}(hw:(w.cps.toList.any λc=>!(decide (c=45)||(decide (48<=c)&&decide (c<=57))))=true):numT n≠w:=λz=>by
 obtain⟨c,a,h1⟩:=tP.mp hw;rw[<-z]at a;rcases lQ h.1 c a with h2|⟨h2,b⟩
 ·simp[h2]at h1
 ·simp[h2,b]at h1
theorem Ht{n:Int}(h:qP n):nb (numT n)=none:=by
 unfold nb;rw[aG (gJ h Qk),aG (gJ h Qk),aG (gJ h Qk),aG (gJ h Qk),aG (gJ h Qk),aG (gJ h Qk),aG (gJ h Qk)]
theorem rA(f:lG){n:Int}(h:qP n)(l:List Str):firstOf f (numT n::l)=Cj f (numT n) l:=by
 unfold firstOf;rw[lS,Ht h];show(if numT n="cost"then _ else _)=_;rw[aG (gJ h Qk),aG (gJ h Qk),aG (λz=>z.elim (gJ h Qk) (gJ h Qk)),aG (gJ h Qk),aG (gJ h Qk),
  aG (λz=>z.elim (gJ h Qk) (gJ h Qk)),aG (gJ h Qk)]
 rfl
def nl:Cl->Bool
 |.atm _ _=>true
 |_=>false
theorem iR{a:Cl}(h:dY a=true):nl a=false:=by
 cases a<;>first|rfl|exact absurd h (by show decide (("atmost":Str)∈cG)≠true;decide+kernel)
def ip(c:Cl):Prop:=∀m rest,(rn c<=m->hd rest≠"*"->bx m (wd c++rest)=some (c,rest))/\(m<rn c->bx m (wd c++rest)=none)
def wD(c:Cl):Prop:=∀m rest,(rn c<=m->hd rest≠"*"->(dY c=true->hd rest≠"<=")->jh (bx m) (wd c++rest)=some (c,rest))/\(m<rn c->jh (bx m) (wd c++rest)=none)
theorem jg{c:Cl}(h:ip c):wD c:=λm rest=>⟨λh1 h2 a=>by
  unfold jh;rw[(h m rest).1 h1 h2];cases ht:dY c with
  |false=>exact aO (.inl ht)
  |true=>exact aO (.inr (a ht)),λh1=>by
  unfold jh;rw[(h m rest).2 h1];rfl⟩
theorem qN{c:Cl}(h:ip c)(a:dY c=true){m:Nat}{rest:List Str}(h1:rn c<=m)(h2:hd rest≠"*"):gx (bx m) (wd c++rest)=some (c,rest):=by
 unfold gx;rw[(h m rest).1 h1 h2];exact aO a
theorem yR{c:Cl}(h:ip c){m:Nat}{rest:List Str}(h1:m<rn c):gx (bx m) (wd c++rest)=none:=by
 unfold gx;rw[(h m rest).2 h1];rfl
theorem Bw{c:Cl}(h:wD c)(a:dY c=false){m:Nat}{rest:List Str}(h1:rn c<=m)(h2:hd rest≠"*"):i9 (bx m) (wd c++rest)=some (c,rest):=by
 unfold i9;rw[(h m rest).1 h1 h2 λz=>by rw[a]at z;cases z];exact aG (by rw[a];exact ba)
theorem FV{c:Cl}(h:wD c){m:Nat}{rest:List Str}(h1:m<rn c):i9 (bx m) (wd c++rest)=none:=by
 unfold i9;rw[(h m rest).2 h1];rfl
theorem D5{a b:Cl}(c:ip a)(d:ip b)(ta:dY a=true)(tb:dY b=true):wD (.atm a b):=λm rest=>by
 have e:wd (.atm a b)++rest=wd a++("<=":Str)::(wd b++rest):=by
  show(wd a++("<=":Str)::wd b)++rest=_;rw[ax];rfl
 have f:rn (.atm a b)=max (rn a) (rn b):=rfl;rw[e,f];refine⟨λh1 h2 _=>?_,λh1=>?_⟩
 ·unfold jh;rw[(c m _).1 Qo (jw Qk)];show(if dY a=false\/("<=":Str)≠"<="then _ else(gx (bx m) (wd b++rest)).map _)=_;rw[aG (λz=>z.elim (λy=>by rw[ta]at y;cases y) (λy=>y rfl)),qN d tb Qo h2];rfl
 ·by_cases h:m<rn a
  ·unfold jh;rw[(c m _).2 h];rfl
  ·unfold jh;rw[(c m _).1 Qo (jw Qk)];show(if dY a=false\/("<=":Str)≠"<="then _ else(gx (bx m) (wd b++rest)).map _)=_;rw[aG (λz=>z.elim (λy=>by rw[ta]at y;cases y) (λy=>y rfl)),yR d Qo];rfl
theorem lB{c:Cl}(a:rn c=1)(h:∀m rest,hd rest≠"*"->firstOf (bx m) (wd c++rest)=some (c,rest)):ip c:=λm rest=>by
 rw[a];cases m with
 |zero=>exact⟨λz=>absurd z Qo,λ_=>rfl⟩
 |succ m=>exact⟨λ_ h2=>h m rest h2,λz=>absurd z Qo⟩
theorem j_{c:Cl}{k:Nat}(a:rn c=1+k)(h1:∀m rest,k<=m->hd rest≠"*"->firstOf (bx m) (wd c++rest)=some (c,rest))(h2:∀m rest,m<k->firstOf (bx m) (wd c++rest)=none):ip c:=λm rest=>by
 rw[a];cases m with
 |zero=>exact⟨λz=>absurd z Qo,λ_=>rfl⟩
 |succ m=>exact⟨λz s=>h1 m rest Qo s,λz=>h2 m rest Qo⟩
theorem Jn{w:Str}{n:Nat}(h:nb w=some n)(f:lG)(l:List Str):firstOf f (w::l)=(kO n l).map λq=>(.nm w q.1,q.2):=by
 unfold firstOf;rw[lS,h];rfl
theorem reads:∀c:Cl,wf c->wD c/\(nl c=false->ip c)
 |.nm w ns,h=>by
  have F:ip (.nm w ns):=lB rfl λm rest _=>by
   show firstOf _ (w::(ns++rest))=_;rw[Jn h.1,zI h.2];rfl
  exact⟨jg F,λ_=>F⟩
 |.cost a b n,h=>by
  have F:ip (.cost a b n):=lB rfl λm rest _=>by
   show firstOf _ ("cost"::a::b::"<="::numT n::rest)=_;show jX (a::b::"<="::numT n::rest)=_;unfold jX;rw[ll h.1];show(rName (b::"<="::numT n::rest)).bind _=_;rw[ll h.2.1];show(km (numT n)).map _=_;rw[sI h.2.2];rfl
  exact⟨jg F,λ_=>F⟩
 |.num n,h=>by
  have F:ip (.num n):=lB rfl λm rest i=>by
   show firstOf _ (numT n::rest)=_;rw[rA _ h];unfold Cj;rw[sI h];exact aO i
  exact⟨jg F,λ_=>F⟩
 |.size s,h=>by
  have F:ip (.size s):=lB rfl λm rest _=>by
   show(ic (mF s++rest)).map _=_;rw[oP h];rfl
  exact⟨jg F,λ_=>F⟩
 |.pairs s t,h=>by
  have F:ip (.pairs s t):=lB rfl λm rest _=>by
   show(ic ((mF s++mF t)++rest)).bind _=_;rw[ax,oP h.1];show(ic (mF t++rest)).map _=_;rw[oP h.2];rfl
  exact⟨jg F,λ_=>F⟩
 |.atm a b,h=>by
  obtain⟨ta,tb,g,j⟩:=h;exact⟨D5 ((reads a g).2 (iR ta)) ((reads b j).2 (iR tb)) ta tb,λz=>by cases z⟩
 |.neg a,h=>by
  obtain⟨ta,g⟩:=h;have A:=(reads a g).1;have F:ip (.neg a):=j_ (k:=rn a) rfl (λm rest d i=>by
    show(i9 (bx m) (wd a++rest)).map _=_;rw[Bw A ta d i];rfl) λm rest d=>by
    show(i9 (bx m) (wd a++rest)).map _=_;rw[FV A d];rfl
  exact⟨jg F,λ_=>F⟩
 |.bin w a b,h=>by
  obtain⟨hw,ta,tb,g,j⟩:=h;have A:=(reads a g).1;have B:=(reads b j).1;have F:ip (.bin w a b):=by
   have e:∀rest,(wd a++w::(wd b++[(")":Str)]))++rest=wd a++w::(wd b++(")":Str)::rest):=λrest=>Qs;have w1:w≠"*":=by rcases hw with rfl|rfl<;>decide+kernel
   have w2:w≠"+":=by rcases hw with rfl|rfl<;>decide+kernel
   refine j_ (k:=max (rn a) (rn b)) rfl (λm rest d i=>?_) λm rest d=>?_
   ·show tQ (bx m) ((wd a++w::(wd b++[(")":Str)]))++rest)=_;rw[e];unfold tQ;rw[(A m _).1 Qo (jw w1) λz=>by rw[ta]at z;cases z];show(jh (bx m) (wd b++(")":Str)::rest)).bind _=_;rw[(B m _).1 Qo (jw Qk) λz=>by rw[tb]at z;cases z];show(if w="+"/\dY a=true/\dY b=true then _ else if(w="and"\/w="or")/\dY a=false/\dY b=false then _ else _)=_;rw[aG (λz=>w2 z.1),aO ⟨hw,ta,tb⟩];rfl
   ·show tQ (bx m) ((wd a++w::(wd b++[(")":Str)]))++rest)=_;rw[e];unfold tQ;by_cases o:m<rn a
    ·rw[(A m _).2 o];rfl
    ·rw[(A m _).1 Qo (jw w1) λz=>by rw[ta]at z;cases z];show(jh (bx m) (wd b++(")":Str)::rest)).bind _=_;rw[(B m _).2 Qo];rfl
  exact⟨jg F,λ_=>F⟩
 |.plus a b,h=>by
  obtain⟨ta,tb,g,j⟩:=h;have A:=(reads a g).1;have B:=(reads b j).1;have F:ip (.plus a b):=by
   have e:∀rest,(wd a++("+":Str)::(wd b++[(")":Str)]))++rest=wd a++("+":Str)::(wd b++(")":Str)::rest):=λrest=>Qs;refine j_ (k:=max (rn a) (rn b)) rfl (λm rest d i=>?_) λm rest d=>?_
   ·show tQ (bx m) ((wd a++("+":Str)::(wd b++[(")":Str)]))++rest)=_;rw[e];unfold tQ;rw[(A m _).1 Qo (jw Qk) λ_=>jw Qk];show(jh (bx m) (wd b++(")":Str)::rest)).bind _=_;rw[(B m _).1 Qo (jw Qk) λ_=>jw Qk];show(if("+":Str)="+"/\dY a=true/\dY b=true then _ else _)=_;rw[aO ⟨rfl,ta,tb⟩];rfl
   ·show tQ (bx m) ((wd a++("+":Str)::(wd b++[(")":Str)]))++rest)=_;rw[e];unfold tQ;by_cases o:m<rn a
    ·rw[(A m _).2 o];rfl
    ·rw[(A m _).1 Qo (jw Qk) λ_=>jw Qk];show(jh (bx m) (wd b++(")":Str)::rest)).bind _=_;rw[(B m _).2 Qo];rfl
  exact⟨jg F,λ_=>F⟩
 |.two w a b,h=>by
  obtain⟨hw,ta,tb,g,j⟩:=h;have A:=(reads a g).2 (iR ta);have B:=(reads b j).2 (iR tb);have F:ip (.two w a b):=by
   have e:∀rest,(wd a++(",":Str)::(wd b++[(")":Str)]))++rest=wd a++(",":Str)::(wd b++(")":Str)::rest):=λrest=>Qs;have u:∀(f:lG)(l:List Str),firstOf f (w::l)=oE f w l:=λf l=>by rcases hw with rfl|rfl<;>rfl
   refine j_ (k:=max (rn a) (rn b)) rfl (λm rest d i=>?_) λm rest d=>?_
   ·show firstOf (bx m) (w::("(":Str)::((wd a++(",":Str)::(wd b++[(")":Str)]))++rest))=_;rw[e,u];show(gx (bx m) (wd a++(",":Str)::(wd b++(")":Str)::rest))).bind _=_;rw[qN A ta Qo (jw Qk)];show(gx (bx m) (wd b++(")":Str)::rest)).bind _=_;rw[qN B tb Qo (jw Qk)];rfl
   ·show firstOf (bx m) (w::("(":Str)::((wd a++(",":Str)::(wd b++[(")":Str)]))++rest))=_;rw[e,u];show(gx (bx m) (wd a++(",":Str)::(wd b++(")":Str)::rest))).bind _=_;by_cases o:m<rn a
    ·rw[yR A o];rfl
    ·rw[qN A ta Qo (jw Qk)];show(gx (bx m) (wd b++(")":Str)::rest)).bind _=_;rw[yR B Qo];rfl
  exact⟨jg F,λ_=>F⟩
 |.ov w v s a,h=>by
  obtain⟨hw,y,i,ta,g⟩:=h;have A:=(reads a g).1;have F:ip (.ov w v s a):=by
   have u:∀(f:lG)(l:List Str),firstOf f (w::l)=jW f w l:=λf l=>by rcases hw with rfl|rfl<;>rfl
   have q:∀(m:Nat)(rest:List Str),firstOf (bx m) (wd (.ov w v s a)++rest)=(i9 (bx m) (wd a++rest)).map λp=>(.ov w v s p.1,p.2):=λm rest=>by
    show firstOf (bx m) (w::v::("in":Str)::((mF s++(":":Str)::wd a)++rest))=_;rw[u];unfold jW;rw[lS,aO y];show(ic ((mF s++(":":Str)::wd a)++rest)).bind _=_;rw[ax,oP i];rfl
   refine j_ (k:=rn a) rfl (λm rest d x=>?_) λm rest d=>?_
   ·rw[q,Bw A ta d x];rfl
   ·rw[q,FV A d];rfl
  exact⟨jg F,λ_=>F⟩
 |.tim n a,h=>by
  obtain⟨h0,hn,ta,g⟩:=h;have A:=(reads a g).2 (iR ta);have F:ip (.tim n a):=by
   have q:∀(m:Nat)(rest:List Str),firstOf (bx m) (wd (.tim n a)++rest)=(gx (bx m) (wd a++rest)).map λp=>(.tim n p.1,p.2):=λm rest=>by
    show firstOf (bx m) (numT n::("*":Str)::(wd a++rest))=_;rw[rA _ hn];unfold Cj;rw[sI hn];refine Eq.trans (aG (show¬n<0 by omega)) ?_;rfl
   refine j_ (k:=rn a) rfl (λm rest d x=>?_) λm rest d=>?_
   ·rw[q,qN A ta d x];rfl
   ·rw[q,yR A d];rfl
  exact⟨jg F,λ_=>F⟩
def iP:List Nat:=[40,41,123,125,44,58]
def ib(S:List Nat)(l:List Nat):List Nat:=l.flatMap λc=>if c∈S then [32,c,32]else [c]
theorem BM{c:Nat}{S:List Nat}(g:c∉S)(b:c≠32)(l:List Nat):jl c [32,c,32] (ib S l)=ib (c::S) l:=by
 induction l with
 |nil=>rfl
 |cons d r e=>
  show jl c [32,c,32] ((if d∈S then [32,d,32]else [d])++ib S r)=(if d∈c::S then [32,d,32]else [d])++ib (c::S) r;have f:∀u v:List Nat,jl c [32,c,32] (u++v)=jl c [32,c,32] u++jl c [32,c,32] v:=λu v=>by
   unfold jl;rw[List.flatMap_append]
  rw[f,e];refine bL (·++ib (c::S) r) ?_;by_cases hd:d∈S
  ·have a:d≠c:=λz=>g (z▸hd);rw[aO hd,aO (aB _ hd)];show(if 32=c then _ else [32])++((if d=c then _ else [d])++((if 32=c then _ else [32])++[]))=_;rw[aG (Ne.symm b),aG a];rfl
  ·rw[aG hd];show(if d=c then [32,c,32]else [d])++[]=_;rw[bq];by_cases a:d=c
   ·rw[aO a,aO (by rw[a];exact aA),a]
   ·rw[aG a,aG (by simp[a,hd])]
theorem El(l:List Nat):ib [] l=l:=by
 induction l with
 |nil=>rfl
 |cons d r a=>
  show(if d∈([]:List Nat)then _ else [d])++ib [] r=_;rw[a,aG (λz=>nomatch z)];rfl
theorem se(S l:List Nat):(ib S l).length<=3*l.length:=by
 induction l with
 |nil=>exact ao _
 |cons d r a=>
  show((if d∈S then [32,d,32]else [d])++ib S r).length<=_;rw[ae,aK];split
  ·show 3+_<=_;omega
  ·show 1+_<=_;omega
def wL(w:List Nat):List (List Nat):=if w=[]then []else [w]
def tk:List Nat->List Nat->List (List Nat)
 |w,[]=>wL w
 |w,c::r=>if c=32 then wL w++tk [] r else if c∈iP then wL w++[c]::tk [] r else tk (w++[c]) r
theorem rZ:∀(l w:List Nat),(gg 32 w (ib [58,44,125,123,41,40] l)).filter (λt=>decide (t≠ []))=tk w l
 |[],w=>by
  show([w]:List (List Nat)).filter _=wL w;unfold wL;by_cases h:w=[]
  ·rw[aO h,h];rfl
  ·rw[aG h,f9 (by simp[h])];rfl
 |c::r,w=>by
  have e:(c∈ [58,44,125,123,41,40])↔c∈iP:=by
   unfold iP;simp only[aq,a_,or_false];omega
  have d:∀L:List (List Nat),(w::L).filter (λt=>decide (t≠ []))=wL w++L.filter λt=>decide (t≠ []):=λL=>by
   unfold wL;by_cases h:w=[]
   ·rw[aO h,h];rfl
   ·rw[aG h,f9 (by simp[h])];rfl
  show(gg 32 w ((if c∈ [58,44,125,123,41,40]then [32,c,32]else [c])++ib [58,44,125,123,41,40] r)).filter _=tk w (c::r);unfold tk;by_cases a:c=32
  ·subst a;rw[aG Qd,aO rfl];show(gg 32 w (32::ib _ r)).filter _=_;unfold gg;rw[aO rfl,d,rZ r []]
  ·rw[aG a];by_cases b:c∈iP
   ·rw[aO (e.mpr b),aO b];show(gg 32 w (32::c::32::ib _ r)).filter _=_;unfold gg;rw[aO rfl,d];unfold gg;rw[aG a];unfold gg;rw[aO rfl,f9 Qs,rZ r []];rfl
   ·rw[aG (λz=>b (e.mp z)),aG b];show(gg 32 w (c::ib _ r)).filter _=_
    conv=>lhs;unfold gg
    rw[aG a,rZ r (w++[c])]
def Sto(r:List Nat):Prop:=∀c,r.head?=some c->c=32\/c∈iP
def xK(v:List Nat):Prop:=∀c∈v,c≠32/\c∉iP
theorem BD:∀(v w r:List Nat),xK v->tk w (v++r)=tk (w++v) r
 |[],w,r,_=>by rw[bq];rfl
 |c::v,w,r,h=>by
  obtain⟨h1,h2⟩:=h c aA;show tk w (c::(v++r))=_
  conv=>lhs;unfold tk
  rw[aG h1,aG h2,BD v _ r λd hd=>h d (aB _ hd),ax];rfl
theorem Ea{w r:List Nat}(hw:w≠ [])(e:Sto r):tk w r=w::tk [] r:=by
 have b:wL w=[w]:=aG hw;cases r with
 |nil=>
  show wL w=w::wL [];rw[b];rfl
 |cons c r=>
  unfold tk;by_cases a:c=32
  ·rw[aO a,aO a,b];rfl
  ·have d:c∈iP:=(e c rfl).resolve_left a;rw[aG a,aG a,aO d,aO d,b];rfl
theorem D_{v r:List Nat}(a:v≠ [])(h:xK v)(b:Sto r):tk [] (v++r)=v::tk [] r:=by
 rw[BD v [] r h,ix,Ea a b]
theorem Iv(r:List Nat):tk [] (32::r)=tk [] r:=by
 conv=>lhs;unfold tk
 rw[aO rfl];rfl
theorem Gx(r:List Nat):Sto (32::r):=λc h=>.inl (by simpa using h.symm)
theorem Ej:Sto []:=λ_ h=>nomatch h
def ir:Ks->Str
 |.all=>Str.join " " ["all"]
 |.of w n=>Str.join " " [w,n]
 |.these ns=>(("{":Str)++Str.join ", " ns)++("}":Str)
def tx:Cl->Str
 |.nm w ns=>Str.join " " (w::ns)
 |.cost a b n=>(Str.join " " ["cost",a,b]++(" <= ":Str))++numT n
 |.num n=>numT n
 |.size s=>Str.join " " ["size",ir s]
 |.pairs s t=>Str.join " " ["pairs",ir s,ir t]
 |.atm a b=>(tx a++(" <= ":Str))++tx b
 |.neg a=>("not ":Str)++tx a
 |.bin w a b=>("(":Str)++(tx a++((" ":Str)++(w++((" ":Str)++(tx b++((")":Str)++Str.empty))))))
 |.plus a b=>("(":Str)++(tx a++((" + ":Str)++(tx b++((")":Str)++Str.empty))))
 |.two w a b=>w++(("(":Str)++(tx a++((", ":Str)++(tx b++((")":Str)++Str.empty)))))
 |.ov w v s a=>w++((" ":Str)++(v++((" in ":Str)++(ir s++((": ":Str)++(tx a++Str.empty))))))
 |.tim n a=>(numT n++(" * ":Str))++tx a
def kx(x:Str):List Nat:=x.cps.toList
def fo(x:Str)(ws:List Str):Prop:=∀r,Sto r->tk [] (x.cps.toList++r)=ws.map kx++tk [] r
def kn(x:Str):Prop:=x.cps.toList≠ []/\xK x.cps.toList
theorem gC{x:Str}(h:kn x):fo x [x]:=λr a=>D_ h.1 h.2 a
theorem gj{x:Str}(h:okN x=true):kn x:=by
 have key:1<=x.length/\∀c∈x.cps.toList,65<=c/\c<=90\/97<=c/\c<=122:=by
  rcases dR.mp h with h|h
  ·exact⟨(vC h).1,λc a=>.inr (mx h c a)⟩
  ·unfold jz at h;simp only[bc,aD,bw]at h;refine⟨h.1.1,λc a=>.inl ?_⟩;have:=h.2 c a;unfold bS at this;simpa using this
 refine⟨λz=>?_,λc a=>?_⟩
 ·have:=key.1;rw[<-bQ,z]at this;exact absurd this Qd
 ·have:=key.2 c a;refine⟨Qo,λz=>?_⟩;unfold iP at z;simp only[aq,a_,or_false]at z;omega
theorem jZ{n:Int}(h:qP n):kn (numT n):=by
 refine⟨λz=>?_,λc a=>?_⟩
 ·have:=(sV h.1).1;rw[z]at this;exact absurd this Qd
 ·have:=lQ h.1 c a;refine⟨Qo,λz=>?_⟩;unfold iP at z;simp only[aq,a_,or_false]at z;omega
theorem gz{x:Str}(h:(decide (x.cps.toList≠ [])&&x.cps.toList.all λc=>decide (c≠32)&&decide (c∉iP))=true):kn x:=by
 simp only[bc,aD,bw]at h;exact h
theorem JR{x y:Str}{ws vs:List Str}(a:fo x ws)(b:fo y vs):fo (x++((" ":Str)++y)) (ws++vs):=λr c=>by
 rw[bC,bC,ax,ax,show(" ":Str).cps.toList=[32]from by decide+kernel];show tk [] (x.cps.toList++32::(y.cps.toList++r))=_;rw[a _ (Gx _),Iv,b r c,aT,ax]
theorem cV(z x:Str):Str.join z [x]=x:=by
 refine du ?_;have:=iF z [x.cps.toList];rw[b7,ku]at this;exact this
theorem cC(z x y:Str)(l:List Str):Str.join z (x::y::l)=x++(z++Str.join z (y::l)):=by
 refine du ?_;have e:∀l:List Str,(Str.join z l).cps.toList=glueL z.cps.toList (l.map kx):=λl=>by
  have:=iF z (l.map kx);rw[fM]at this;have a:l.map (mkS∘kx)=l:=by
   have:(mkS∘kx)=id:=funext λx=>ku x;rw[this,FT]
  rw[a]at this;exact this
 rw[e,bC,bC,e];rfl
theorem oZ:∀{l:List (Str×List Str)},l≠ []->(∀p∈l,fo p.1 p.2)->fo (Str.join " " (l.map (·.1))) (l.flatMap (·.2))
 |[],h,_=>absurd rfl h
 |[p],_,h=>by
  show fo (Str.join " " [p.1]) (p.2++[]);rw[cV,bq];exact h p aA
 |p::q::l,_,h=>by
  show fo (Str.join " " (p.1::q.1::l.map (·.1))) (p.2++(q::l).flatMap (·.2));rw[cC];exact JR (h p aA) (oZ (b_ _ _) λx a=>h x (aB _ a))
theorem qk{ns:List Str}(b:ns≠ [])(h:∀n∈ns,kn n):fo (Str.join " " ns) ns:=by
 have:=oZ (l:=ns.map λn=>(n,[n])) (by simpa using b) (λp e=>by
  obtain⟨n,hn,rfl⟩:=cU.mp e;exact gC (h n hn))
 rw[fM,List.flatMap_map]at this;have c:ns.map ((λp:Str×List Str=>p.1)∘λn=>(n,[n]))=ns:=by
  have:((λp:Str×List Str=>p.1)∘λn=>(n,[n]))=id:=rfl;rw[this,FT]
 have d:(ns.flatMap λn=>[n])=ns:=by
  induction ns with
  |nil=>rfl
  |cons a r g=>simp
 rw[c]at this;have f:(ns.flatMap λa=>(((a,[a]):Str×List Str)).2)=ns:=d;rw[f]at this;exact this
theorem fX(x y z:Str):(x++y)++z=x++(y++z):=du (by rw[bC,bC,bC,bC,ax])
def nB(s:Str)(us:List Str):Prop:=∀r,tk [] (s.cps.toList++r)=us.map kx++tk [] r
def FR(s:Str):Prop:=∀r,Sto (s.cps.toList++r)
theorem nu{s y:Str}{us vs:List Str}(c:nB s us)(a:fo y vs):fo (s++y) (us++vs):=λr b=>by
 rw[bC,ax,c,a r b,aT,ax]
theorem fR{x s y:Str}{ws us vs:List Str}(a:fo x ws)(e:FR s)(d:nB s us)(b:fo y vs):fo (x++(s++y)) (ws++(us++vs)):=λr c=>by
 rw[bC,ax,a _ (by rw[bC,ax];exact e _),nu d b r c,aT,aT,aT,ax,ax,ax]
theorem ql:fo Str.empty []:=λr _=>rfl
theorem JS{x:Str}{ws:List Str}(h:fo x ws):fo (x++Str.empty) ws:=λr a=>by
 rw[bC,show Str.empty.cps.toList=[]from rfl,bq];exact h r a
theorem DI{s:Str}{c:Nat}{t:List Nat}(e:s.cps.toList=c::t)(a:c=32\/c∈iP):FR s:=λr d hd=>by
 rw[e]at hd;have:c=d:=by simpa using hd
 rw[<-this];exact a
theorem HP:(" <= ":Str).cps.toList=[32,60,61,32]:=Qk
theorem JJ:(" in ":Str).cps.toList=[32,105,110,32]:=Qk
theorem HQ:(", ":Str).cps.toList=[44,32]:=Qk
theorem JL:(": ":Str).cps.toList=[58,32]:=Qk
theorem JH:(" + ":Str).cps.toList=[32,43,32]:=Qk
theorem JG:(" * ":Str).cps.toList=[32,42,32]:=Qk
theorem JI:("(":Str).cps.toList=[40]:=Qk
theorem FD:(")":Str).cps.toList=[41]:=Qk
theorem yD:(" ":Str).cps.toList=[32]:=Qk
theorem K1:("not ":Str).cps.toList=[110,111,116,32]:=Qk
theorem K2:("{":Str).cps.toList=[123]:=Qk
theorem JK:("}":Str).cps.toList=[125]:=Qk
theorem Js:nB " <= " ["<="]:=λr=>by
 rw[HP,show([("<=":Str)].map kx)=[[60,61]]from by decide+kernel];rfl
theorem KO:nB " in " ["in"]:=λr=>by
 rw[JJ,show([("in":Str)].map kx)=[[105,110]]from by decide+kernel];rfl
theorem Ju:nB ", " [","]:=λr=>by
 rw[HQ,show([(",":Str)].map kx)=[[44]]from by decide+kernel];rfl
theorem KQ:nB ": " [":"]:=λr=>by
 rw[JL,show([(":":Str)].map kx)=[[58]]from by decide+kernel];rfl
theorem KM:nB " + " ["+"]:=λr=>by
 rw[JH,show([("+":Str)].map kx)=[[43]]from by decide+kernel];rfl
theorem KL:nB " * " ["*"]:=λr=>by
 rw[JG,show([("*":Str)].map kx)=[[42]]from by decide+kernel];rfl
theorem HB:nB "(" ["("]:=λr=>by
 rw[show([("(":Str)].map kx)=[[40]]from by decide+kernel,JI];rfl
theorem HA:nB ")" [")"]:=λr=>by
 rw[show([(")":Str)].map kx)=[[41]]from by decide+kernel,FD];rfl
theorem HC:nB " " []:=λr=>by rw[yD];rfl
theorem KN:nB "not " ["not"]:=λr=>by
 rw[K1,show([("not":Str)].map kx)=[[110,111,116]]from by decide+kernel];rfl
theorem KP:nB "{" ["{"]:=λr=>by
 rw[show([("{":Str)].map kx)=[[123]]from by decide+kernel,K2];rfl
theorem Jt:nB "}" ["}"]:=λr=>by
 rw[show([("}":Str)].map kx)=[[125]]from by decide+kernel,JK];rfl
theorem vZ{s:Str}{t:List Nat}(e:s.cps.toList=32::t):FR s:=DI e (.inl rfl)
theorem vY{s:Str}{c:Nat}{t:List Nat}(e:s.cps.toList=c::t)(h:c∈iP):FR s:=DI e (.inr h)
theorem wB:∀{ns:List Str},(∀n∈ns,okN n=true)->fo (Str.join ", " ns) (gl ns)
 |[],_=>λr _=>rfl
 |[n],h=>by
  rw[cV];exact gC (gj (h n aA))
 |n::m::r,h=>by
  rw[cC];have b:=wB (ns:=m::r) λx a=>h x (aB _ a);have:=fR (gC (gj (h n aA))) (vY HQ Qd) Ju b;exact this
theorem tO{s:Ks}(h:tU s):fo (ir s) (mF s):=by
 cases s with
 |all=>
  show fo (Str.join " " ["all"]) _;rw[cV];exact gC (gz Qk)
 |of w n=>
  refine qk (b_ _ _) λx a=>?_;rcases aq.mp a with rfl|a
  ·rcases h.1 with rfl|rfl<;>exact gz Qk
  ·rcases aq.mp a with rfl|a
   ·exact gj h.2
   ·cases a
 |these ns=>
  show fo ((("{":Str)++Str.join ", " ns)++("}":Str)) _;rw[fX];have b:fo ("}":Str) ["}"]:=λr _=>Jt r;have h1:fo (Str.join ", " ns++("}":Str)) (gl ns++[("}":Str)]):=λr c=>by
   rw[bC,ax,wB h _ (vY JK Qd r),Jt r,aT,ax]
  exact nu KP h1
theorem apart:∀c:Cl,wf c->fo (tx c) (wd c)
 |.nm w ns,h=>by
  refine qk (b_ _ _) λx f=>?_;rcases aq.mp f with rfl|f
  ·refine gz ?_;have:=h.1;unfold nb at this;split at this
   ·rename_i e;rw[e];decide+kernel
   split at this
   ·rename_i e;rw[e];decide+kernel
   split at this
   ·rename_i e;rw[e];decide+kernel
   split at this
   ·rename_i e;rw[e];decide+kernel
   split at this
   ·rename_i e;rw[e];decide+kernel
   split at this
   ·rename_i e;rw[e];decide+kernel
   split at this
   ·rename_i e;rw[e];decide+kernel
   cases this
  ·exact gj (h.2 x f)
 |.cost a b n,h=>by
  show fo ((Str.join " " ["cost",a,b]++(" <= ":Str))++numT n) _;rw[fX];refine fR (ws:=["cost",a,b]) (qk (b_ _ _) λx f=>?_) (vZ HP) Js (gC (jZ h.2.2));rcases aq.mp f with rfl|f
  ·exact gz Qk
  ·rcases aq.mp f with rfl|f
   ·exact gj h.1
   ·rcases aq.mp f with rfl|f
    ·exact gj h.2.1
    ·cases f
 |.num n,h=>gC (jZ h)
 |.size s,h=>by
  show fo (Str.join " " ["size",ir s]) _;have:=oZ (l:=[(("size":Str),[("size":Str)]),(ir s,mF s)]) (b_ _ _) (λp d=>by
   rcases aq.mp d with rfl|d
   ·exact gC (gz Qk)
   ·rcases aq.mp d with rfl|d
    ·exact tO h
    ·cases d)
  have e:([(("size":Str),[("size":Str)]),(ir s,mF s)]:List (Str×List Str)).flatMap (·.2)=wd (.size s):=by
   show [("size":Str)]++(mF s++[])=_;rw[bq];rfl
  rw[e]at this;exact this
 |.pairs s t,h=>by
  show fo (Str.join " " ["pairs",ir s,ir t]) _;have:=oZ (l:=[(("pairs":Str),[("pairs":Str)]),(ir s,mF s),(ir t,mF t)]) (b_ _ _) (λp d=>by
   rcases aq.mp d with rfl|d
   ·exact gC (gz Qk)
   ·rcases aq.mp d with rfl|d
    ·exact tO h.1
    ·rcases aq.mp d with rfl|d
     ·exact tO h.2
     ·cases d)
  have e:([(("pairs":Str),[("pairs":Str)]),(ir s,mF s),(ir t,mF t)]:List (Str×List Str)).flatMap (·.2)=wd (.pairs s t):=by
   show [("pairs":Str)]++(mF s++(mF t++[]))=_;rw[bq];rfl
  rw[e]at this;exact this
 |.atm a b,h=>by
  show fo ((tx a++(" <= ":Str))++tx b) _;rw[fX];exact fR (apart a h.2.2.1) (vZ HP) Js (apart b h.2.2.2)
 |.neg a,h=>nu KN (apart a h.2)
 |.bin w a b,h=>by
  obtain⟨hw,_,_,g,i⟩:=h;have j:kn w:=by rcases hw with rfl|rfl<;>exact gz Qk
  have:=nu HB (fR (apart a g) (vZ yD) HC (fR (gC j) (vZ yD) HC (fR (apart b i) (vY FD Qd) HA ql)));exact this
 |.plus a b,h=>by
  obtain⟨_,_,g,i⟩:=h;have:=nu HB (fR (apart a g) (vZ JH) KM (fR (apart b i) (vY FD Qd) HA ql));exact this
 |.two w a b,h=>by
  obtain⟨hw,_,_,g,i⟩:=h;have j:kn w:=by rcases hw with rfl|rfl<;>exact gz Qk
  have:=fR (gC j) (vY JI Qd) HB (fR (apart a g) (vY HQ Qd) Ju (fR (apart b i) (vY FD Qd) HA ql));exact this
 |.ov w v s a,h=>by
  obtain⟨hw,k,m,_,g⟩:=h;have j:kn w:=by rcases hw with rfl|rfl<;>exact gz Qk
  have pv:kn v:=gj (by unfold okN;rw[k,iX]);have:=fR (gC j) (vZ yD) HC (fR (gC pv) (vZ JJ) KO (fR (tO m) (vY JL Qd) KQ (JS (apart a g))));exact this
 |.tim n a,h=>by
  show fo ((numT n++(" * ":Str))++tx a) _;rw[fX];exact fR (gC (jZ h.2.1)) (vZ JG) KL (apart a h.2.2.2)
def dC(x:Str):List Str:=(tk [] x.cps.toList).map mkS
theorem Bv{c:Cl}(h:wf c):dC (tx c)=wd c:=by
 have:=apart c h [] Ej;rw[bq]at this;unfold dC;rw[this];show((wd c).map kx++[]).map mkS=_;rw[bq,fM];have e:(mkS∘kx)=id:=funext λx=>ku x;rw[e,FT]
def iu:List Str:=["all","from","to","these"]
structure qC(P:Program)(w:World)(K:ah)(mg:Str->Option Value)(C:Addr):Prop where
 cl:yM K C
 mgC:mg "WordRow"=some (.ref C)
 nW:iU K C "words"
 nT:iU K C "taken"
 setW:∃a,mg "SET_WORDS"=some (.ref a)/\∀H,SqT K H a (iu.map V.str)
 termW:∃a,mg "TERM_WORDS"=some (.ref a)/\∀H,SqT K H a (cG.map V.str)
 nbD:∃a vs,mg "NAMES_BEHIND"=some (.ref a)/\wG P w K a vs/\(∀x:Str,(valueAt vs (Sum.inr x)).isSome=(nb x).isSome)/\∀(x:Str)(n:Nat),nb x=some n->∃u,valueAt vs (Sum.inr x)=some u/\dc (.int (n:Int)) u
def dm(a:Addr)(i:Nat):List (Str×V):=[("words",.ref a),("taken",.int (i:Int))]
theorem Bu:¬(("words":Str)="taken"):=Qk
theorem Ce(a:Addr)(i:Nat):(dm a i).lookup ("words":Str)=some (.ref a):=by
 unfold dm;rw[cD,show(("words":Str)=="words")=true from by decide+kernel]
theorem tf{x y:Str}{v:V}{l:List (Str×V)}(h:x≠y):List.lookup x ((y,v)::l)=List.lookup x l:=by
 rw[cD,beq_eq_false_iff_ne.mpr h]
theorem xH(a:Addr)(i:Nat):(dm a i).lookup ("taken":Str)=some (.int (i:Int)):=by
 unfold dm;rw[tf (Ne.symm Bu)];rfl
theorem sG(a:Addr)(i:Nat){m:Str}(h1:m≠"words")(h2:m≠"taken"):(dm a i).lookup m=none:=by
 unfold dm;rw[tf h1,tf h2];rfl
theorem IT(a:Addr):jY "words" (.ref a) []=[(("words":Str),V.ref a)]:=rfl
theorem IU(a:Addr):jY "taken" (.int 0) [(("words":Str),V.ref a)]=dm a 0:=by
 show(if("words":Str)="taken"then _ else _)=_;rw[aG Bu];rfl
theorem IV(a:Addr)(i:Nat)(v:V):jY "taken" v (dm a i)=[(("words":Str),V.ref a),(("taken":Str),v)]:=by
 show(if("words":Str)="taken"then _ else(("words":Str),V.ref a)::(if("taken":Str)="taken"then _ else _))=_;rw[aG Bu,aO rfl]
structure ge(C:Addr)(Z:Addr->Prop)(H:Hp)(r dx a:Addr)(ws:List Str)(i:Nat):Prop where
 row:H r=some (.ins C dx (dm a i))
 lst:H a=some (.lst (ws.map V.str))
 fr:∀p,H p=none->Z p
theorem nQ{H H':Hp}(s:al H H'){p:Addr}(h:H' p=none):H p=none:=by
 cases e:H p with
 |none=>rfl
 |some o=>rw[s _ _ e]at h;cases h
theorem jq{H:Hp}{r:Addr}{o:HO}{p:Addr}(h:upd H r o p=none):H p=none:=by
 by_cases e:p=r
 ·rw[e,ak]at h;cases h
 ·rw[b5 e]at h;exact h
def PDF(Z:Addr->Prop)(H:Hp):Nat->V->PyData->Prop
 |_,.non,d=>d=.none
 |_,.bl b,d=>d=.bool b
 |_,.int i,d=>d=.int i
 |_,.str x,d=>PyData.strOk x=true/\d=.str x
 |n+1,.ref a,d=>(∃xs ds,H a=some (.lst xs)/\Z a/\d=.list ds/\Paired (PDF Z H n) xs ds)\/∃xs ds,H a=some (.tup xs)/\d=.tuple ds/\Paired (PDF Z H n) xs ds
 |_,_,_=>False
theorem PDF.pd{Z:Addr->Prop}{H:Hp}:∀{n:Nat}{v:V}{d:PyData},PDF Z H n v d->PD H n v d
 |0,v,d,h=>by cases v<;>first|exact h|exact h.elim
 |n+1,v,d,h=>by
  cases v<;>first|exact h|exact h.elim|skip
  rcases h with⟨xs,ds,e,_,a,p⟩|⟨xs,ds,e,a,p⟩
  ·exact .inl ⟨xs,ds,e,a,L2.Paired.mapP p λ_ _ h=>PDF.pd h⟩
  ·exact .inr ⟨xs,ds,e,a,L2.Paired.mapP p λ_ _ h=>PDF.pd h⟩
theorem PDF.same{Z:Addr->Prop}{H H':Hp}(s:al H H'):∀{n:Nat}{v:V}{d:PyData},PDF Z H n v d->PDF Z H' n v d
 |0,v,d,h=>by cases v<;>first|exact h|exact h.elim
 |n+1,v,d,h=>by
  cases v<;>first|exact h|exact h.elim|skip
  rcases h with⟨xs,ds,e,f,a,p⟩|⟨xs,ds,e,a,p⟩
  ·exact .inl ⟨xs,ds,s _ _ e,f,a,L2.Paired.mapP p λ_ _ h=>PDF.same s h⟩
  ·exact .inr ⟨xs,ds,s _ _ e,a,L2.Paired.mapP p λ_ _ h=>PDF.same s h⟩
theorem PDF.up{Z:Addr->Prop}{H:Hp}:∀{n:Nat}{v:V}{d:PyData},PDF Z H n v d->PDF Z H (n+1) v d
 |0,v,d,h=>by cases v<;>first|exact h|exact h.elim
 |n+1,v,d,h=>by
  cases v<;>first|exact h|exact h.elim|skip
  rcases h with⟨xs,ds,e,f,a,p⟩|⟨xs,ds,e,a,p⟩
  ·exact .inl ⟨xs,ds,e,f,a,L2.Paired.mapP p λ_ _ h=>PDF.up h⟩
  ·exact .inr ⟨xs,ds,e,a,L2.Paired.mapP p λ_ _ h=>PDF.up h⟩
theorem PDF.mono{Z:Addr->Prop}{H:Hp}{n:Nat}{v:V}{d:PyData}(h:PDF Z H n v d):∀k,PDF Z H (n+k) v d
 |0=>h
 |k+1=>(PDF.mono h k).up
def Rw(r:Addr)(H H':Hp):Prop:=∀b o,b≠r->H b=some o->H' b=some o
theorem Rw.refl(r:Addr)(H:Hp):Rw r H H:=λ_ _ _ e=>e
theorem Rw.trans{r:Addr}{H H1 H2:Hp}(a:Rw r H H1)(b:Rw r H1 H2):Rw r H H2:=λx o n e=>b x o n (a x o n e)
theorem Rw.same{r:Addr}{H H':Hp}(s:al H H'):Rw r H H':=λx o _ e=>s x o e
theorem Rw.upd(r:Addr)(H:Hp)(o:HO):Rw r H (upd H r o):=λx u n e=>by rw[b5 n];exact e
theorem ge.same{C:Addr}{Z:Addr->Prop}{H H':Hp}{r dx a:Addr}{ws:List Str}{i:Nat}(R:ge C Z H r dx a ws i)(s:al H H'):ge C Z H' r dx a ws i:=⟨s _ _ R.row,s _ _ R.lst,λp b=>R.fr p (nQ s b)⟩
theorem ge.ne{C:Addr}{Z:Addr->Prop}{H:Hp}{r dx a:Addr}{ws:List Str}{i:Nat}(R:ge C Z H r dx a ws i):a≠r:=λz=>by
 have h1:=R.row;have h2:=R.lst;rw[z,h1]at h2;cases h2
theorem Rw.pd{r:Addr}{Z:Addr->Prop}{H H':Hp}{C dx:Addr}{fs:List (Str×V)}(s:Rw r H H')(a:H r=some (.ins C dx fs)):∀{n:Nat}{v:V}{d:PyData},PDF Z H n v d->PDF Z H' n v d
 |0,v,d,h=>by cases v<;>first|exact h|exact h.elim
 |n+1,v,d,h=>by
  cases v<;>first|exact h|exact h.elim|skip
  rcases h with⟨xs,ds,e,f,b,p⟩|⟨xs,ds,e,b,p⟩
  ·exact .inl ⟨xs,ds,s _ _ (λz=>by rw[z,a]at e;cases e) e,f,b,L2.Paired.mapP p λ_ _ h=>Rw.pd s a h⟩
  ·exact .inr ⟨xs,ds,s _ _ (λz=>by rw[z,a]at e;cases e) e,b,L2.Paired.mapP p λ_ _ h=>Rw.pd s a h⟩
def CP(ws:List Str):Prop:=ws.length<=8000/\∀y∈ws,okX y
theorem AO:okX "":=⟨Qk,λc a=>by have:c∈([]:List Nat):=a;cases this⟩
theorem CP.hd{ws:List Str}(h:CP ws)(i:Nat):okX (hd (ws.drop i)):=by
 unfold Net.hd;cases e:ws.drop i with
 |nil=>exact AO
 |cons x r=>exact h.2 x (jD (by rw[e];exact aA))
def fU{d:Type}(C ct:Addr)(Z:Addr->Prop)(rest:List V)(c:List Str->Option (d×List Str))(b:Hp->V->d->Prop):Sp:=λvs H Q E=>∃(r dx a:Addr)(ws:List Str)(i:Nat),vs=.ref r::rest/\ge C Z H r dx a ws i/\CP ws/\
 (∀x e,c (ws.drop i)=some (x,e)->∀v H' f,Rw r H H'->ge C Z H' r dx a ws f->ws.drop f=e->b H' v x->Q v H')/\(c (ws.drop i)=none->∀H',Rw r H H'->E (.ref ct) none H')
def BN:Sp:=λvs H Q _=>∃(x:Str),vs=[.str x]/\x.length<=sizeLine/\∀H',al H H'->Q (.bl (jz x)) H'
def pk:Sp:=λvs H Q _=>∃(x:Str),vs=[.str x]/\okX x/\∀l H',al H H'->H' l=some (.lst ((dC x).map V.str))->Q (.ref l) H'
def sm(C:Addr):Sp:=λvs H Q _=>∃(r dx a:Addr),vs=[.ref r,.ref a]/\H r=some (.ins C dx [])/\Q .non (upd H r (.ins C dx (dm a 0)))
def jT(C:Addr)(Z:Addr->Prop):Sp:=λvs H Q _=>∃(r dx a:Addr)(ws:List Str)(i:Nat),vs=[.ref r]/\ge C Z H r dx a ws i/\Q (.str (hd (ws.drop i))) H
def iO(C:Addr)(Z:Addr->Prop):Sp:=λvs H Q _=>∃(r dx a:Addr)(ws:List Str)(i:Nat),vs=[.ref r]/\ge C Z H r dx a ws i/\Q (.str (hd (ws.drop i))) (upd H r (.ins C dx (dm a (i+1))))
def mq(C ct:Addr)(Z:Addr->Prop):Sp:=λvs H Q E=>∃(r dx a:Addr)(ws:List Str)(i:Nat)(w:Str),vs=[.ref r,.str w]/\okX w/\ge C Z H r dx a ws i/\(hd (ws.drop i)=w->Q .non (upd H r (.ins C dx (dm a (i+1)))))/\(hd (ws.drop i)≠w->∀H',Rw r H H'->E (.ref ct) none H')
theorem ge.next{C:Addr}{Z:Addr->Prop}{H:Hp}{r dx a:Addr}{ws:List Str}{i:Nat}(R:ge C Z H r dx a ws i)(j:Nat):ge C Z (upd H r (.ins C dx (dm a j))) r dx a ws j:=⟨ak,by rw[b5 R.ne];exact R.lst,λp b=>R.fr p (jq b)⟩
theorem dj(ws:List Str)(i:Nat):ws.drop (i+1)=(ws.drop i).tail:=by rw[List.tail_drop]
def uG:Sp:=λvs H Q _=>∃(v:V)(n:Nat)(c:Cl),vs=[v]/\PD H n v (dat c)/\Q (.bl (dY c)) H
theorem HR(c:Cl):∃ds,dat c=.tuple (.str (hw c)::ds):=by cases c<;>exact⟨_,rfl⟩
theorem PD.tup_of{H:Hp}{n:Nat}{v:V}{ds:List PyData}(h:PD H n v (.tuple ds)):∃m a xs,n=m+1/\v=.ref a/\H a=some (.tup xs)/\Paired (PD H m) xs ds:=by
 cases n with
 |zero=>cases v<;>first|exact h.elim|cases(show PyData.tuple ds=_ from h)|cases h.2
 |succ n=>
  cases v<;>first|exact h.elim|cases(show PyData.tuple ds=_ from h)|cases h.2|skip
  rcases h with⟨xs,c,d,b,p⟩|⟨xs,c,d,b,p⟩
  ·cases b
  ·cases b;exact⟨n,_,xs,rfl,rfl,d,p⟩
theorem PD.str_is{H:Hp}{n:Nat}{v:V}{x:Str}(h:PD H n v (.str x)):v=.str x:=by
 obtain⟨y,h1,h2⟩:=h.str_of rfl;cases h2;exact h1
theorem rB{H:Hp}{n:Nat}{v:V}{c:Cl}(h:PD H n v (dat c)):∃a xs,v=.ref a/\H a=some (.tup (.str (hw c)::xs)):=by
 obtain⟨ds,e⟩:=HR c;rw[e]at h;obtain⟨m,a,xs,rfl,rfl,f,d⟩:=h.tup_of;cases d with
 | @cons x _ b _ p t=>exact⟨a,b,rfl,by rw[f,p.str_is]⟩
theorem im(x:Str)(l:List Str):tR (.str x) (l.map V.str)=decide (x∈l):=by
 unfold tR;rw[List.any_map,be,tP,aD];constructor
 ·rintro⟨y,a,h⟩;have:y=x:=by
   have h':decide (y=x)=true:=h;exact bb h'
  rw[<-this];exact a
 ·intro h;exact⟨x,h,aH rfl⟩
theorem em(l:List Str):(l.map V.str).all nq=true:=by
 rw[List.all_map,bw];intro x _;rfl
section
variable{P:Program}{w:World}{K:ah}{mg:Str->Option Value}{base:Heap}{C ct:Addr}{Z:Addr->Prop}
theorem AW(c:Nat):decide (c∈("ABCDEFGHIJKLMNOPQRSTUVWXYZ":Str).cps.toList)=bS c:=by
 have e:("ABCDEFGHIJKLMNOPQRSTUVWXYZ":Str).cps.toList=(List.range 26).map (65+ ·):=Qk;rw[e];unfold bS;rw[be];simp only[aD,bc,cU,eM];constructor
 ·rintro⟨k,h1,h2⟩;omega
 ·intro h;exact⟨c-65,Qo,Qo⟩
theorem GC:bD ["word"] ["word"] (aU s_is_variable):=⟨rfl,rfl,rfl,Qk,rfl,Qk,Qk⟩
theorem GX{f:Addr}{fd:FuncData}(F:fg K "is_variable" "is_variable" s_is_variable f fd)(T:dF K mg)(d:dk P w K mg base 1 "is_made_of" ["text","signs"] sk):FnOk P w K mg base gW 2 f fd ["word"] BN:=by
 refine F.ok GC (λvs H Q E h=>?_) (λb A outer s H vs Q E g h=>?_)
 ·obtain⟨x,rfl,_⟩:=h;rfl
 ·obtain⟨x,rfl,a,k⟩:=h;refine⟨_,(am (aR (xN (uX rg rg ai (bP cP Qr T.len gc (aa (pv 0) ac)) (cN T.longV Qr)) (sP (aJ d g Qr (aa (pv 0) (aa (cN T.great Qr) ac))))))),?_⟩;refine⟨_,rfl,x,rfl,a,_,_,rfl,rfl,_,rfl,?_⟩;refine eG (λh1=>⟨_,_,rfl,rfl,_,rfl,eG (λh2=>⟨_,rfl,x,_,rfl,a,λH' s'=>?_⟩) (λh2=>?_)⟩) (λh1=>⟨_,rfl,eZ ?_⟩)
  ·have e:jz x=(x.cps.toList.all λc=>decide (c∈("ABCDEFGHIJKLMNOPQRSTUVWXYZ":Str).cps.toList)):=by
    unfold jz;rw[aH (p:=1<=x.length) (by have:=bb h1;omega),aH (p:=x.length<=3) (by have:=bb h2;omega)];simp only[AW,Bk]
   rw[<-e];exact k H' s'
  ·have e:jz x=false:=by
    unfold jz;rw[aP (p:=x.length<=3) (λz=>h2 (aH Qo))];simp
   have:=k H (al.refl H);rw[e]at this;exact this
  ·have e:jz x=false:=by
    unfold jz;rw[aP (p:=1<=x.length) (λz=>h1 (aH Qo))];simp
   have:=k H (al.refl H);rw[e]at this;exact this
theorem B_:bD ["self","words"] ["self","words"] (aU s_WordRow_init):=⟨rfl,rfl,rfl,Qk,rfl,Qk,Qk⟩
theorem CO{f:Addr}{fd:FuncData}(F:fg K "__init__" "WordRow.__init__" s_WordRow_init f fd)(W:qC P w K mg C):FnOk P w K mg base gW 1 f fd ["self","words"] (sm C):=by
 refine F.ok B_ (λvs H Q E h=>?_) (λb A outer s H vs Q E d h=>?_)
 ·obtain⟨r,dx,a,rfl,_⟩:=h;rfl
 ·obtain⟨r,dx,a,rfl,c,q⟩:=h;refine⟨_,(aw (Cp (pv 0) (pv 1) rfl)
   (am (Cp (pv 0) ai rfl))),?_⟩
  refine⟨_,rfl,_,rfl,r,C,dx,_,rfl,c,W.cl,W.nW,Qd,?_⟩;refine⟨_,rfl,r,C,dx,_,rfl,ak,W.cl,W.nT,by show 1<1000;decide,?_⟩;rw[rR,IT,IU];exact q
theorem AC:bD ["self"] ["self"] (aU s_WordRow_coming):=⟨rfl,rfl,rfl,Qk,rfl,Qk,Qk⟩
theorem AN{f:Addr}{fd:FuncData}(F:fg K "coming" "WordRow.coming" s_WordRow_coming f fd)(T:dF K mg)(W:qC P w K mg C):FnOk P w K mg base gW 1 f fd ["self"] (jT C Z):=by
 refine F.ok AC (λvs H Q E h=>?_) (λb A outer s H vs Q E c h=>?_)
 ·obtain⟨r,dx,a,ws,i,rfl,_⟩:=h;rfl
 ·obtain⟨r,dx,a,ws,i,rfl,R,q⟩:=h;refine⟨_,(am (aR (pS (aI jn (sR (pv 0) rfl) (bP eL Qr T.len gc (aa (sR (pv 0) rfl) ac)) (aS _)) (bE d_ (sR (pv 0) rfl) (sR (pv 0) rfl) (λ_ _=>Qr)) ad))),?_⟩;refine⟨_,rfl,r,C,dx,_,_,rfl,R.row,W.cl,W.nT,xH a i,_,rfl,r,C,dx,_,_,rfl,R.row,W.cl,W.nW,Ce a i,a,_,rfl,.inl (SqL.of R.lst),_,_,rfl,rfl,_,rfl,?_⟩;refine eG (λh=>?_) (λh=>?_)
  ·have hi:i<ws.length:=by
    have:=bb h;rw[ay]at this;omega
   refine⟨_,rfl,r,C,dx,_,_,rfl,R.row,W.cl,W.nW,Ce a i,_,rfl,r,C,dx,_,_,rfl,R.row,W.cl,W.nT,xH a i,a,_,_,_,rfl,rfl,SqL.of R.lst,fE (v:=V.str ws[i]) (by simp[hi]),?_⟩;have e:hd (ws.drop i)=ws[i]:=by
    rw[List.drop_eq_getElem_cons hi];rfl
   rw[e]at q;exact q
  ·have hi:ws.length<=i:=by
    by_cases z:i<ws.length
    ·exact absurd (aH (by rw[ay];omega)) h
    ·omega
   rw[List.drop_of_length_le hi]at q;exact q
theorem zE:bD ["self","word"] ["self"] (aU s_WordRow_take):=⟨rfl,rfl,rfl,Qk,rfl,Qk,Qk⟩
theorem vV(a:Addr)(i:Nat):(dm a i).lookup ("coming":Str)=none:=sG a i Qk Qk
theorem ma(a:Addr)(i:Nat):(dm a i).lookup ("take":Str)=none:=sG a i Qk Qk
theorem om(a:Addr)(i:Nat):(dm a i).lookup ("pass_over":Str)=none:=sG a i Qk Qk
theorem E3{f:Addr}{fd:FuncData}(F:fg K "take" "WordRow.take" s_WordRow_take f fd)(W:qC P w K mg C)(m1:kR P w K mg base 1 C "coming" ["self"] (jT C Z)):FnOk P w K mg base gW 2 f fd ["self"] (iO C Z):=by
 refine F.ok zE (λvs H Q E h=>?_) (λb A outer s H vs Q E c h=>?_)
 ·obtain⟨r,dx,a,ws,i,rfl,_⟩:=h;rfl
 ·obtain⟨r,dx,a,ws,i,rfl,R,q⟩:=h;refine⟨_,(aw (aY (i:=1) zE.nd rfl (aN rfl) (dM (pv 0) W.cl m1 c))
   (aw (AE (pv 0) ai HJ)
   (am (aR (pv 1))))),?_⟩
  refine⟨_,rfl,r,dx,_,rfl,R.row,vV a i,r,dx,a,ws,i,rfl,R,?_⟩;refine⟨_,rfl,r,C,dx,_,_,rfl,R.row,W.cl,W.nT,xH a i,_,_,rfl,rfl,dx,_,R.row,by show 2<1000;decide,?_⟩;refine⟨_,rfl,?_⟩;rw[IV];have e:[(("words":Str),V.ref a),(("taken":Str),V.int ((i:Int)+1))]=dm a (i+1):=by
   unfold dm;rw[Int.natCast_succ]
  rw[e];exact q
theorem Et:bD ["self","word"] ["self","word"] (aU s_WordRow_pass_over):=⟨rfl,rfl,rfl,Qk,rfl,Qk,Qk⟩
theorem E9{f:Addr}{fd:FuncData}(F:fg K "pass_over" "WordRow.pass_over" s_WordRow_pass_over f fd)(W:qC P w K mg C)(c:yL K mg ct)(m1:kR P w K mg base 2 C "take" ["self"] (iO C Z)):FnOk P w K mg base (kS P w) 3 f fd ["self","word"] (mq C ct Z):=by
 refine F.okX Et (λvs H Q E h=>?_) (λd A outer s H vs Q E g e h=>?_)
 ·obtain⟨r,dx,a,ws,i,x,rfl,_⟩:=h;rfl
 ·obtain⟨r,dx,a,ws,i,x,rfl,b,R,q,j⟩:=h;refine⟨_,(am (bA (aI fc (dM (pv 0) W.cl m1 g) (pv 1) (aS _)) (am (fi e rfl Qr c.mt c.ex bG (aa (fB (bO (ko (pv 1)) (bO ad gI)) Qd) ac))) aW)),?_⟩;refine⟨_,rfl,r,dx,_,rfl,R.row,ma a i,r,dx,a,ws,i,rfl,R,_,rfl,rfl,_,rfl,eG (λh=>?_) (λh=>?_)⟩
  ·refine⟨_,rfl,.inl ⟨x,rfl,b.repS,_,rfl,b.rep,_,rfl,Qk,by show 1<=sizeLine;decide,j (λz=>?_) _ (Rw.upd _ _ _)⟩⟩;rw[z]at h;simp at h
  ·refine q ?_;by_cases z:hd (ws.drop i)=x
   ·exact z
   ·refine absurd ?_ h;rw[aP (λy=>z (by injection y))];rfl
theorem GF:bD ["whole"] ["whole"] (aU s_is_term):=⟨rfl,rfl,rfl,Qk,rfl,Qk,Qk⟩
theorem He{f:Addr}{fd:FuncData}(F:fg K "is_term" "is_term" s_is_term f fd)(W:qC P w K mg C):FnOk P w K mg base gW 1 f fd ["whole"] uG:=by
 obtain⟨tw,mt,g⟩:=W.termW;refine F.ok GF (λvs H Q E h=>?_) (λb A outer s H vs Q E i h=>?_)
 ·obtain⟨v,n,c,rfl,_⟩:=h;rfl
 ·obtain⟨v,n,c,rfl,d,q⟩:=h;obtain⟨a,xs,rfl,e⟩:=rB d;refine⟨_,(am (aR (kr iD (bE bB (pv 0) ai (λ_ _=>Qr)) (cN (v:=.ref tw) ⟨_,mt,rfl⟩ Qr) Qw))),?_⟩;refine⟨_,rfl,a,_,_,V.str (hw c),rfl,rfl,SqT.of e,fE (j:=0) rfl,tw,_,rfl,.inr (g H),rfl,em _,?_⟩;show Q (.bl (tR (.str (hw c)) (cG.map V.str))) H;rw[im];exact q
end
theorem Eo:("(){},:":Str).cps.toList=iP:=Qk
theorem GB{j c:Nat}(h:iP[j]?=some c):j<6/\Builtin.Str.strKind ⟨#[c]⟩<=1/\c≠32/\c∉(iP.take j).reverse/\(iP.take (j+1)).reverse=c::(iP.take j).reverse:=by
 have a:j<6:=(b8.mp h).1;have:j=0\/j=1\/j=2\/j=3\/j=4\/j=5:=Qo;rcases this with rfl|rfl|rfl|rfl|rfl|rfl<;>(simp[iP]at h;subst h;exact⟨Qd,Qk,Qd,Qd,rfl⟩)
theorem Ax{x y:Str}{c:Nat}{S:List Nat}(d:Builtin.Str.strKind ⟨#[c]⟩<=1)(a:c≠32)(e:c∉S)(b:y=mkS (ib S x.cps.toList)):
  PySem.Txt.replace y ⟨#[c]⟩ ((" ":Str)++((⟨#[c]⟩:Str)++((" ":Str)++Str.empty)))=mkS (ib (c::S) x.cps.toList):=by
 refine du ?_;rw[uP _ _ _ d,bC,bC,bC,yD,b];show jl c ([32]++([c]++([32]++[]))) (ib S x.cps.toList)=ib (c::S) x.cps.toList;exact BM e a _
theorem wQ(l:List Nat):∀w:List Nat,(tk w l).length<=w.length+l.length/\(∀p∈tk w l,p.length<=w.length+l.length/\∀c∈p,c∈w\/c∈l):=by
 have b:∀w:List Nat,(wL w).length<=w.length/\∀p∈wL w,p=w:=λw=>by
  unfold wL;by_cases h:w=[]
  ·rw[aO h];exact⟨bV _,λ_ z=>nomatch z⟩
  ·rw[aG h];refine⟨?_,λp a=>by simpa using a⟩;have:w.length≠0:=λz=>h (f8.mp z);show 1<=_;omega
 induction l with
 |nil=>
  intro w;refine⟨by have:=(b w).1;show(wL w).length<=_;omega,λp a=>?_⟩;have:=(b w).2 p a;subst this;exact⟨ao _,λc k=>.inl k⟩
 |cons c r g=>
  intro w;unfold tk;have f:=g [];have j:=g (w++[c]);by_cases e:c=32
  ·rw[aO e];refine⟨by have:=(b w).1;rw[ae,aK];have:=f.1;simp at this;omega,λp a=>?_⟩;rcases bY.mp a with a|a
   ·have:=(b w).2 p a;subst this;exact⟨Qo,λd hd=>.inl hd⟩
   ·obtain⟨h1,h2⟩:=f.2 p a;refine⟨by rw[aK];simp at h1;omega,λd hd=>?_⟩;rcases h2 d hd with z|z
    ·cases z
    ·exact .inr (aB _ z)
  ·rw[aG e];by_cases i:c∈iP
   ·rw[aO i];refine⟨by have:=(b w).1;rw[ae,aK,aK];have:=f.1;simp at this;omega,λp a=>?_⟩;rcases bY.mp a with a|a
    ·have:=(b w).2 p a;subst this;exact⟨Qo,λd hd=>.inl hd⟩
    ·rcases aq.mp a with rfl|a
     ·refine⟨by rw[cZ,aK];omega,λd hd=>?_⟩;have:d=c:=by simpa using hd
      exact .inr (by rw[this];exact aA)
     ·obtain⟨h1,h2⟩:=f.2 p a;refine⟨by rw[aK];simp at h1;omega,λd hd=>?_⟩;rcases h2 d hd with z|z
      ·cases z
      ·exact .inr (aB _ z)
   ·rw[aG i];refine⟨by have:=j.1;rw[ae,cZ]at this;rw[aK];omega,λp a=>?_⟩;obtain⟨h1,h2⟩:=j.2 p a;rw[ae,cZ]at h1;refine⟨by rw[aK];omega,λd hd=>?_⟩;rcases h2 d hd with z|z
    ·rcases bY.mp z with z|z
     ·exact .inl z
     ·have:d=c:=by simpa using z
      exact .inr (by rw[this];exact aA)
    ·exact .inr (aB _ z)
theorem qO{x:Str}(h:okX x):CP (dC x):=by
 obtain⟨h1,h2⟩:=wQ x.cps.toList [];have a:=h.1;rw[<-bQ]at a;refine⟨by unfold dC;rw[ay];simp at h1;simp at a;omega,λy b=>?_⟩;obtain⟨p,d,rfl⟩:=cU.mp b;obtain⟨g,f⟩:=h2 p d;refine⟨by rw[jJ];simp at g;simp at a;omega,λc e=>?_⟩;rcases f c e with z|z
 ·cases z
 ·exact h.2 c z
theorem Bc:(" ":Str)=⟨#[32]⟩:=Qk
section
variable{P:Program}{w:World}{K:ah}{mg:Str->Option Value}{base:Heap}{C ct:Addr}
theorem lM:bD ["text","spread","sign"] ["text"] (aU s_split_text):=⟨rfl,rfl,rfl,Qk,rfl,Qk,Qk⟩
theorem AK{f:Addr}{fd:FuncData}(F:fg K "split_text" "split_text" s_split_text f fd)(T:dF K mg):FnOk P w K mg base gW 1 f fd ["text"] pk:=by
 have k:List.Nodup (["word"]:List Str):=Qk;refine F.okT lM Qr (λvs H Q E h=>?_) (λR A outer s H vs Q E hr h s1 C I=>?_)
 ·obtain⟨x,rfl,_⟩:=h;rfl
 ·obtain⟨x,rfl,hx,q⟩:=h;refine bX (EM (X:=Cx.nox _) (aY (i:=1) lM.nd rfl (aN rfl) (pv 0)) (λpins s2 Z H2 t2 I2 h2=>Cn (i:=2)
   (tb:=λc D σ H=>∃z:Str,σ[1]?=some (some (.str z))/\ph (tC (.str " ")) (ph (ID (Gr 2)) (ph (tC (.str " ")) BH)) σ H λw H1=>(((⟨#[c]⟩:Str)==w)=false/\z.length+(z.length+1)*w.length<=16777216/\D.nx (σ.set 1 (some (.str (PySem.Txt.replace z ⟨#[c]⟩ w)))) H1))
   PassesOwn.never rfl lM.nd rfl rfl (cN T.signs Qr)
   (λpins s3 xb H3 D3 c xa U u h0 h1⟨z,O,h⟩=>Ek (i:=1) (c:=⟨#[c]⟩) (z:=z) lM.nd rfl rfl rfl (aN rfl) (pQ ad (pQ (gk (pv 2)) (pQ ad ER))) Qd U u h0 h1 O h)
   (am (aR (kq (N:=["word"]) (xs:=1) (js:=[]) rfl (dD rfl) (mW (dW aX gu DV vE (pv 1) (aa ad ac))) (λ_ _ _ _=>db (i:=0) k rfl (aN rfl)) (λ_ _ _ _=>sJ (aI fc (pv 0) ad (aS _))) (λ_ _ _ _=>pv 0))))
   t2 I2 h2) C (I.wish _) ?_) (λ_ _ q=>q.unwish) λ_ _ z=>False.elim z
  have hl:=bQ x;have h0:=hx.1;refine⟨_,rfl,_,rfl,Qk,λj a H'=>H'=H/\∃o,a=[some (.str x),some (.str (mkS (ib (iP.take j).reverse x.cps.toList))),o],⟨rfl,none,?_⟩,?_,?_⟩
  ·show [some (V.str x),some (V.str x),none]=_;rw[show(iP.take 0).reverse=[]from rfl,El,ku]
  ·rintro j c a H' S⟨rfl,o,rfl⟩;have G:iP[j]?=some c:=by
    rw[<-Eo];simpa using S
   obtain⟨hj,hk,B,hS,hN⟩:=GB G;have O:(mkS (ib (iP.take j).reverse x.cps.toList)).length<=24000:=by
    rw[jJ];have:=se (iP.take j).reverse x.cps.toList;omega
   have L:(⟨#[c]⟩:Str).length=1:=rfl;refine⟨_,rfl,_,rfl,Qk,_,rfl,.inl ⟨_,rfl,by rw[L];decide,_,rfl,by rw[L];decide,_,rfl,Qk,?_,?_,?_⟩⟩
   ·rw[beq_eq_false_iff_ne];intro z;have:=bL (λy:Str=>y.cps.toList.length) z;simp only[bC,ae,yD]at this;exact absurd this Qs
   ·have:((" ":Str)++((⟨#[c]⟩:Str)++((" ":Str)++Str.empty))).length=3:=by
     rw[<-bQ,bC,bC,bC,yD];rfl
    rw[this];omega
   ·refine⟨rfl,some (.str ⟨#[c]⟩),?_⟩;show [some (V.str x),some (V.str _),some (V.str ⟨#[c]⟩)]=_;rw[Ax hk B hS rfl,hN]
  ·intro a H' u;obtain⟨Y,o,rfl⟩:=u;rw[Y];have W:(iP.take ("(){},:":Str).cps.size).reverse=[58,44,125,123,41,40]:=Qk;rw[W];have n2:(mkS (ib [58,44,125,123,41,40] x.cps.toList)).length<=24000:=by
    rw[jJ];have:=se [58,44,125,123,41,40] x.cps.toList;omega
   have e3:PySem.Txt.split (mkS (ib [58,44,125,123,41,40] x.cps.toList)) " "=(gg 32 [] (ib [58,44,125,123,41,40] x.cps.toList)).map mkS:=by
    rw[Bc,nK _ _ Qk];rfl
   have M:(gg 32 [] (ib [58,44,125,123,41,40] x.cps.toList)).length<=80000:=by
    have h3:=lC 32 (ib [58,44,125,123,41,40] x.cps.toList) [];have:=se [58,44,125,123,41,40] x.cps.toList;omega
   refine⟨_,rfl,rfl,_,_,rfl,rfl,Qk,af (Nat.add_le_add_right n2 2) Qd,λl J=>?_⟩;rw[e3];have s1:al H (upd H l (.lst (((gg 32 [] (ib [58,44,125,123,41,40] x.cps.toList)).map mkS).map V.str))):=al.new J;have n:(upd H l (.lst (((gg 32 [] (ib [58,44,125,123,41,40] x.cps.toList)).map mkS).map V.str))) l=some (.lst (((gg 32 [] (ib [58,44,125,123,41,40] x.cps.toList)).map mkS).map V.str)):=ak;generalize upd H l (.lst (((gg 32 [] (ib [58,44,125,123,41,40] x.cps.toList)).map mkS).map V.str))=H1 at s1 n;have tc:=rZ x.cps.toList [];generalize gg 32 [] (ib [58,44,125,123,41,40] x.cps.toList)=ps at M n tc;refine⟨l,rfl,⟨_,SqL.of n⟩,rE (K:=K) (ys:=(ps.map mkS).map V.str) (λi b a H'=>H'=H1/\b=(((ps.take i).filter λt=>decide (t≠ [])).map mkS).map V.str/\∃o,a=[o])
    ⟨rfl,rfl,none,rfl⟩ (λi b a H' h=>?_) ?_ (λi b a H' _ h=>by rw[h.1];exact SqL.of n) (λi v b a H' e h=>?_) (λb a H' h p g=>?_)⟩
   ·rw[h.2.1,ay,ay];refine af (nI _ _) ?_;rw[bT];omega
   ·rw[ay,ay];exact af M Qd
   ·obtain⟨rfl,rfl,o,rfl⟩:=h;rw[cE,cE]at e;cases g:ps[i]? with
    |none=>rw[g]at e;cases e
    |some p=>
     rw[g]at e;cases e;refine⟨_,rfl,rfl,_,rfl,?_⟩;rw[Dy];have m:ps.take (i+1)=ps.take i++[p]:=by rw[dP,g];rfl
     refine eG (λh1=>?_) (λh1=>?_)
     ·have d:p≠ []:=λz=>by
       rw[z]at h1;exact absurd h1 Qs
      refine⟨_,rfl,rfl,?_,_,rfl⟩;rw[m,kE,f9 (by simp[d]),aT,aT];rfl
     ·have d:p=[]:=by
       by_cases z:p=[]
       ·exact z
       ·refine absurd ?_ h1;have:¬V.str (mkS p)=V.str (mkS []):=λy=>z (by
         injection y with y
         have:=bL (λq:Str=>q.cps.toList) y;exact this)
        rw[aP this];rfl
      refine⟨rfl,?_,_,rfl⟩;rw[m,kE,d,Bs Qs,List.filter_nil,bq]
   ·obtain⟨rfl,rfl,o,rfl⟩:=h;refine q p _ (s1.upd g) ?_;rw[ak];have et:ps.take ((ps.map mkS).map V.str).length=ps:=bW (by rw[ay,ay];exact ao _);rw[et,tc];rfl
end
theorem hV{x y:Str}(h:decide (V.str x=V.str y)=true):x=y:=by injection bb h
theorem io{x y:Str}(h:¬decide (V.str x=V.str y)=true):x≠y:=λz=>h (aH (by rw[z]))
theorem vP{x y:Str}(h:(!decide (V.str x=V.str y))=true):x≠y:=λz=>by rw[z]at h;simp at h
theorem vQ{x y:Str}(h:¬(!decide (V.str x=V.str y))=true):x=y:=by
 by_cases z:x=y
 ·exact z
 ·exact absurd (by rw[aP (λe=>z (by injection e))];rfl) h
theorem rc{l:List Str}(h:hd l≠","):f_ l=some ([],l):=by
 match l,h with
 |[],_=>rfl
 |[a],h=>exact aG h
 |a::w::l,h=>exact aG h
theorem AQ:okN ""=false:=Qk
theorem xJ{l:List Str}(h:hd l=","):f_ l=(rName l.tail).bind λq=>(f_ q.2).map λp=>(q.1::p.1,p.2):=by
 match l,h with
 |[],h=>exact absurd h Qk
 |[a],h=>
  have h':a=",":=h;show(if a=","then none else some ([],[a]))=(rName []).bind _;rw[aO h'];show none=(if okN ""=true then _ else none).bind _;rw[AQ];rfl
 |a::w::l,h=>
  have h':a=",":=h;show(if a=","then(if okN w=true then(f_ l).map λq=>(w::q.1,q.2)else none)else some ([],a::w::l))=(if okN w=true then some (w,l)else none).bind _;rw[aO h'];split<;>rfl
def gK(ns:List Str)(l:List Str):Option (List Str×List Str):=(f_ l).bind λp=>(dG "}" p.2).map λa=>(ns++p.1,a)
theorem q_(l:List Str):fG l=if hd l="}"then gK [] l else(rName l).bind λq=>gK [q.1] q.2:=by
 unfold fG gK;by_cases h:hd l="}"
 ·rw[aO h,aO h,rc (by rw[h];decide+kernel)];show _=(if hd l="}"then some l.tail else none).map _;rw[aO h];rfl
 ·rw[aG h,aG h];rfl
theorem vB{ns l:List Str}(h:hd l=","):gK ns l=(rName l.tail).bind λq=>gK (ns++[q.1]) q.2:=by
 unfold gK;rw[xJ h];cases rName l.tail with
 |none=>rfl
 |some q=>
  show((f_ q.2).map _).bind _=(f_ q.2).bind _;cases f_ q.2 with
  |none=>rfl
  |some p=>
   show(dG "}" p.2).map _=(dG "}" p.2).map _;simp only[ax,List.singleton_append]
theorem xR{ns l:List Str}(h:hd l≠","):gK ns l=(dG "}" l).map λa=>(ns,a):=by
 unfold gK;rw[rc h];show(dG "}" l).map (λa=>(ns++[],a))=_;rw[bq]
def yK(_:Hp)(v:V)(x:Str):Prop:=v=.str x
def Ia(Z:Addr->Prop)(H:Hp)(v:V)(ns:List Str):Prop:=∃p,v=.ref p/\Z p/\H p=some (.lst (ns.map V.str))
def Bf(Z:Addr->Prop)(H:Hp)(v:V)(s:Ks):Prop:=PDF Z H 2 v (datK s)
def gO(Z:Addr->Prop)(H:Hp)(v:V)(c:Cl):Prop:=PDF Z H (dep c+2) v (dat c)
theorem j4{x:Str}(h:okX x):PyData.strOk x=true:=by
 unfold PyData.strOk;rw[qt];intro c a;have:=h.2 c (by simpa using a);simpa using this
theorem gm{Z:Addr->Prop}{H:Hp}{n:Nat}{x:Str}(h:PyData.strOk x=true):PDF Z H n (.str x) (.str x):=by cases n<;>exact⟨h,rfl⟩
theorem xO{Z:Addr->Prop}{H:Hp}{n:Nat}{i:Int}:PDF Z H n (.int i) (.int i):=by cases n<;>rfl
theorem iQ{Z:Addr->Prop}{H:Hp}{n:Nat}{p:Addr}{xs:List V}{ds:List PyData}(h:H p=some (.tup xs))(a:Paired (PDF Z H n) xs ds):PDF Z H (n+1) (.ref p) (.tuple ds):=.inr ⟨xs,ds,h,rfl,a⟩
theorem GT{Z:Addr->Prop}{H:Hp}{n:Nat}{p:Addr}{xs:List V}{ds:List PyData}(h:H p=some (.lst xs))(b:Z p)(a:Paired (PDF Z H n) xs ds):PDF Z H (n+1) (.ref p) (.list ds):=.inl ⟨xs,ds,h,b,rfl,a⟩
theorem j5{x:Str}(h:okN x=true):PyData.strOk x=true:=by
 rcases dR.mp h with h|h
 ·exact BL h
 ·unfold jz at h;simp only[bc,bw]at h;unfold PyData.strOk;rw[qt];intro c a;have:=h.2 c (by simpa using a);unfold bS at this;simp at this;simp;omega
theorem pT{Z:Addr->Prop}{H:Hp}{n:Nat}:∀{ns:List Str},(∀x∈ns,okN x=true)->Paired (PDF Z H n) (ns.map V.str) (ns.map PyData.str)
 |[],_=>.nil
 |x::r,ok=>.cons (gm (j5 (ok x aA))) (pT λy a=>ok y (aB _ a))
theorem iB{l:List Str}{q:Str×List Str}(h:rName l=some q):okN q.1=true/\q.1=hd l/\q.2=l.tail:=by
 unfold rName at h;split at h
 ·cases h;exact⟨‹_›,rfl,rfl⟩
 ·cases h
theorem pN:∀{l:List Str}{q:List Str×List Str},f_ l=some q->∀n∈q.1,okN n=true
 |[],q,h=>by cases h;exactλ_ z=>nomatch z
 |[a],q,h=>by
  have h':(if a=","then none else some (([]:List Str),[a]))=some q:=h;split at h'
  ·cases h'
  ·cases h';exactλ_ z=>nomatch z
 |a::w::l,q,h=>by
  have h':(if a=","then(if okN w=true then(f_ l).map λq=>(w::q.1,q.2)else none)else some (([]:List Str),a::w::l))=some q:=h;split at h'
  ·split at h'
   ·rename_i hw;cases e:f_ l with
    |none=>rw[e]at h';cases h'
    |some p=>
     rw[e]at h';cases h';intro n hn;rcases aq.mp hn with rfl|hn
     ·exact hw
     ·exact pN e n hn
   ·cases h'
  ·cases h';exactλ_ z=>nomatch z
theorem uT{l:List Str}{q:List Str×List Str}(h:fG l=some q):∀n∈q.1,okN n=true:=by
 unfold fG at h;split at h
 ·cases h;exactλ_ z=>nomatch z
 ·cases e1:rName l with
  |none=>rw[e1]at h;cases h
  |some a=>
   rw[e1]at h;cases e2:f_ a.2 with
   |none=>
    have h':(f_ a.2).bind _=some q:=h;rw[e2]at h';cases h'
   |some p=>
    have h':(f_ a.2).bind _=some q:=h;rw[e2]at h';cases e3:dG "}" p.2 with
    |none=>
     have h2:(dG "}" p.2).map _=some q:=h';rw[e3]at h2;cases h2
    |some b=>
     have h2:(dG "}" p.2).map _=some q:=h';rw[e3]at h2;cases h2;intro n hn;rcases aq.mp hn with rfl|hn
     ·exact(iB e1).1
     ·exact pN e2 n hn
section
variable{P:Program}{w:World}{K:ah}{mg:Str->Option Value}{base:Heap}{C ct:Addr}{Z:Addr->Prop}
theorem uJ:bD ["row","word"] ["row"] (aU s_read_name):=⟨rfl,rfl,rfl,Qk,rfl,Qk,Qk⟩
theorem CG{f:Addr}{fd:FuncData}(F:fg K "read_name" "read_name" s_read_name f fd)(W:qC P w K mg C)(k:yL K mg ct)(mt:kR P w K mg base 2 C "take" ["self"] (iO C Z))(cn:dk P w K mg base 2 "is_name" ["word"] BT)(p:dk P w K mg base 2 "is_variable" ["word"] BN):
  FnOk P w K mg base (kS P w) 3 f fd ["row"] (fU C ct Z [] rName yK):=by
 refine F.okX uJ (λvs H Q E h=>?_) (λm A outer s H vs Q E e n h=>?_)
 ·obtain⟨r,dx,a,ws,i,rfl,_⟩:=h;rfl
 ·obtain⟨r,dx,a,ws,i,rfl,R,ok,q,o⟩:=h;refine⟨_,(aw (aY (i:=1) uJ.nd rfl (aN rfl) (dM (pv 0) W.cl mt e))
   (aw (bA (PW.pt (gH (ij (fe (aJ cn e Qr (aa (pv 1) ac)))) (gb (ij (fe (aJ p e Qr (aa (pv 1) ac))))))) (am (fi n rfl Qr k.mt k.ex bG (aa (fB (bO (ko (pv 1)) (bO ad gI)) Qd) ac))) aW)
   (am (aR (pv 1))))),?_⟩
  refine⟨_,rfl,r,dx,_,rfl,R.row,ma a i,r,dx,a,ws,i,rfl,R,?_⟩;have g:=R.next (i+1);have s1:Rw r H (upd H r (.ins C dx (dm a (i+1)))):=Rw.upd _ _ _;have d:=ok.hd i;generalize upd H r (.ins C dx (dm a (i+1)))=H1 at g s1;have b:okN (hd (ws.drop i))=true->∀H2,al H1 H2->Q (.str (hd (ws.drop i))) H2:=λh H2 c=>
   q (hd (ws.drop i)) (ws.drop i).tail (aO h) _ H2 (i+1) (s1.trans (Rw.same c)) (g.same c) (dj ws i) rfl
  refine⟨_,rfl,_,rfl,d.len,λH2 c=>⟨_,rfl,?_⟩⟩;cases hn:hJ (hd (ws.drop i))with
  |true=>
   refine eZ ⟨_,rfl,b ?_ H2 c⟩;unfold okN;rw[hn];rfl
  |false=>
   refine eT ⟨_,rfl,_,rfl,d.len,λl j=>⟨_,rfl,?_⟩⟩;cases hv:jz (hd (ws.drop i))with
   |true=>
    refine eZ ⟨_,rfl,b ?_ l (c.trans j)⟩;unfold okN;rw[hv,iX]
   |false=>
    refine eT ⟨_,rfl,.inl ⟨_,rfl,d.repS,_,rfl,d.rep,_,rfl,Qk,by show 1<=sizeLine;decide,o ?_ _ (s1.trans (Rw.same (c.trans j)))⟩⟩;unfold rName okN;rw[hn,hv];rfl
theorem qY:bD ["row","names"] ["row"] (aU s_read_names):=⟨rfl,rfl,rfl,Qk,rfl,Qk,Qk⟩
theorem AL{f:Addr}{fd:FuncData}(F:fg K "read_names" "read_names" s_read_names f fd)(W:qC P w K mg C)(mt:kR P w K mg base 2 C "take" ["self"] (iO C Z))(mc:kR P w K mg base 1 C "coming" ["self"] (jT C Z))(mp:oB P w K mg base 3 C "pass_over" ["self","word"] (mq C ct Z))
  (cr:dE P w K mg base 3 "read_name" ["row"] (fU C ct Z [] rName yK)):FnOk P w K mg base (kS P w) 4 f fd ["row"] (fU C ct Z [] fG (Ia Z)):=by
 refine F.okX qY (λvs H Q E h=>?_) (λxa A outer s H vs Q E u M h=>?_)
 ·obtain⟨r,dx,a,ws,i,rfl,_⟩:=h;rfl
 ·obtain⟨r,dx,a,ws,i,rfl,R,ok,q,O⟩:=h;have r1:cF 1 _:=u.mono Qd;have r2:cF 2 _:=u.mono Qd;refine⟨_,(aw (aY (i:=1) qY.nd rfl (aN rfl) (cA ac))
   (aQ (bA (aI fc (dM (pv 0) W.cl mc r1) ad (aS _)) (am (dJ (dW cQ cI cH gA (pv 1) (aa (cz cr M u Qr (aa (pv 0) ac)) ac)))) aW)
   (aw (pO M.own (aI b4 (dM (pv 0) W.cl mc r1) ad (aS _))
     (aw (dJ (dM (pv 0) W.cl mt r2))
   (am (dJ (dW cQ cI cH gA (pv 1) (aa (cz cr M u Qr (aa (pv 0) ac)) ac))))))
   (aw (dJ (iJ (pv 0) W.cl mp M u (aa ad ac)))
   (am (aR (pv 1))))))),?_⟩
  refine⟨Qd,λp d=>?_⟩;have l:p≠r:=λz=>by rw[z,R.row]at d;cases d
  have zp:Z p:=R.fr p d;have J:ge C Z (upd H p (.lst [])) r dx a ws i:=R.same (al.new d);have L:(upd H p (.lst [])) p=some (.lst (([]:List Str).map V.str)):=ak;have s1:Rw r H (upd H p (.lst [])):=Rw.same (al.new d);have ap:a≠p:=λz=>by rw[<-z,R.lst]at d;cases d
  have dl:∀j,(ws.drop j).length<=8000:=λj=>by rw[ig];have:=ok.1;omega
  have kp:∀{H1 H2:Hp},Rw r H H1->(∀b o,b≠r->b≠p->H1 b=some o->H2 b=some o)->Rw r H H2:=λh1 h2 b o nb e=>h2 b o nb (λz=>by rw[z,d]at e;cases e) (h1 b o nb e);generalize upd H p (.lst [])=H0 at J L s1;refine⟨λI H'=>I=[some (.ref r),some (.ref p)]/\∃ns c,Rw r H H'/\ge C Z H' r dx a ws c/\H' p=some (.lst (ns.map V.str))/\fG (ws.drop i)=gK ns (ws.drop c)/\ns.length+(ws.drop c).length<=8001,?_,?_⟩
  ·refine⟨_,rfl,r,dx,_,rfl,J.row,vV a i,r,dx,a,ws,i,rfl,J,rfl,_,rfl,eG (λh=>?_) (λh=>?_)⟩
   ·have h:=vP h;have e0:fG (ws.drop i)=(rName (ws.drop i)).bind λq=>gK [q.1] q.2:=by rw[q_,aG h]
    refine⟨_,rfl,.inl ⟨rfl,_,SqL.of L⟩,_,rfl,r,dx,a,ws,i,rfl,J,ok,λx X e v H' c s' k d' g=>?_,λe H' s'=>O (by rw[e0,e];rfl) _ (s1.trans s')⟩;cases g;have gp:=s' p _ l L;refine⟨p,_,_,rfl,rfl,gp,Qd,rfl,[x],c,kp (s1.trans s') (λb o nb Y e=>by rw[b5 Y];exact e),⟨by rw[b5 l.symm];exact k.row,by rw[b5 ap];exact k.lst,λz U=>k.fr z (jq U)⟩,ak,?_,by show 1+_<=_;have:=dl c;omega⟩
    ·rw[e0,e];show gK [x] X=_;rw[d']
   ·have h:=vQ h;exact⟨rfl,[],i,s1,J,L,by rw[q_,aO h],by show 0+_<=_;have:=dl i;omega⟩
  ·rintro I H'⟨rfl,ns,c,s',k,g',e',hl⟩;refine⟨λm y H2=>y=[some (.ref r),some (.ref p)]/\∃ns c,m=(ws.drop c).length/\Rw r H H2/\ge C Z H2 r dx a ws c/\H2 p=some (.lst (ns.map V.str))/\fG (ws.drop i)=gK ns (ws.drop c)/\ns.length+(ws.drop c).length<=8001,
    ⟨_,rfl,ns,c,rfl,s',k,g',e',hl⟩,?_⟩
   clear s' k g' e' hl;rintro m y H2⟨rfl,ns,c,rfl,s2,R2,g2,e2,hl⟩;refine⟨_,rfl,r,dx,_,rfl,R2.row,vV a c,r,dx,a,ws,c,rfl,R2,rfl,_,rfl,eG (λh=>?_) (λh=>?_)⟩
   ·have h:=hV h;refine⟨λB G=>B=[some (.ref r),some (.ref p)]/\∃ns n,(ws.drop n).length <(ws.drop c).length/\Rw r H G/\ge C Z G r dx a ws n/\G p=some (.lst (ns.map V.str))/\fG (ws.drop i)=gK ns (ws.drop n)/\ns.length+(ws.drop n).length<=8001,?_,?_⟩
    ·rintro B G⟨rfl,ns3,n,lt,t3⟩;exact⟨_,lt,rfl,ns3,n,rfl,t3⟩
    have ne:0<(ws.drop c).length:=by
     cases z:ws.drop c with
     |nil=>rw[z]at h;exact absurd h Qk
     |cons _ _=>exact Nat.zero_lt_succ _
    have lt:(ws.drop (c+1)).length +1=(ws.drop c).length:=by
     rw[dj,List.length_tail];omega
    refine⟨_,rfl,r,dx,_,rfl,R2.row,ma a c,r,dx,a,ws,c,rfl,R2,?_⟩;have R3:=R2.next (c+1);have N:(upd H2 r (.ins C dx (dm a (c+1)))) p=some (.lst (ns.map V.str)):=by rw[b5 l];exact g2
    have T:Rw r H (upd H2 r (.ins C dx (dm a (c+1)))):=s2.trans (Rw.upd _ _ _);generalize upd H2 r (.ins C dx (dm a (c+1)))=G at R3 N T;have D:gK ns (ws.drop c)=(rName (ws.drop (c+1))).bind λq=>gK (ns++[q.1]) q.2:=by rw[vB h,dj]
    refine⟨_,rfl,.inl ⟨rfl,_,SqL.of N⟩,_,rfl,r,dx,a,ws,c+1,rfl,R3,ok,λx X e v H4 i4 t S d4 g=>?_,λe H4 t=>O (by rw[e2,D,e];rfl) _ (T.trans t)⟩;cases g;have g4:=t p _ l N;have xb:(ws.drop i4).length<=(ws.drop (c+1)).length:=by
     have e9:X=_:=(iB e).2.2;rw[d4,e9,List.length_tail];omega
    refine⟨p,_,_,rfl,rfl,g4,?_,rfl,ns++[x],i4,Qo,kp (T.trans t) (λb o nb Y e=>by rw[b5 Y];exact e),⟨by rw[b5 l.symm];exact S.row,by rw[b5 ap];exact S.lst,λz U=>S.fr z (jq U)⟩,?_,?_,?_⟩
    ·rw[ay];exact iG (show ns.length<=8001 by omega) Qd
    ·rw[ak,aT];rfl
    ·rw[e2,D,e,d4];rfl
    ·rw[ae,cZ];omega
   ·have h:=io h;have D:gK ns (ws.drop c)=(dG "}" (ws.drop c)).map λl3=>(ns,l3):=xR h;refine⟨_,rfl,r,dx,_,rfl,R2.row,om a c,r,dx,a,ws,c,_,rfl,⟨Qk,Qk⟩,R2,λz=>?_,λz H4 t=>O ?_ _ (s2.trans t)⟩
    ·refine⟨_,rfl,q ns (ws.drop c).tail ?_ _ _ (c+1) (s2.trans (Rw.upd _ _ _)) (R2.next (c+1)) (dj ws c) ⟨p,rfl,zp,?_⟩⟩
     ·rw[e2,D];unfold dG;rw[aO z];rfl
     ·rw[b5 l];exact g2
    ·rw[e2,D];unfold dG;rw[aG z];rfl
theorem zF:bD ["row","word"] ["row"] (aU s_read_set):=⟨rfl,rfl,rfl,Qk,rfl,Qk,Qk⟩
theorem E8{f:Addr}{fd:FuncData}(F:fg K "read_set" "read_set" s_read_set f fd)(W:qC P w K mg C)(S:yL K mg ct)(mt:kR P w K mg base 2 C "take" ["self"] (iO C Z))(cr:dE P w K mg base 3 "read_name" ["row"] (fU C ct Z [] rName yK))(cs:dE P w K mg base 4 "read_names" ["row"] (fU C ct Z [] fG (Ia Z))):
  FnOk P w K mg base (kS P w) 5 f fd ["row"] (fU C ct Z [] ic (Bf Z)):=by
 refine F.okX zF (λvs H Q E h=>?_) (λU A outer s H vs Q E L I h=>?_)
 ·obtain⟨r,dx,a,ws,i,rfl,_⟩:=h;rfl
 ·obtain⟨r,dx,a,ws,i,rfl,R,ok,q,M⟩:=h;have X:cF 3 _:=L.mono Qd;have r2:cF 2 _:=L.mono Qd;refine⟨_,(aw (aY (i:=1) zF.nd rfl (aN rfl) (dM (pv 0) W.cl mt r2))
   (aw (bA (aI b4 (pv 1) ad (aS _)) (am (aR (cM (aa (pv 1) ac)))) aW)
   (aQ (bA (PW.pt (eQ (aI b4 (pv 1) ad (aS _)) (dU (aI b4 (pv 1) ad (aS _))))) (am (aR (cM (aa (pv 1) (aa (cz cr I X Qr (aa (pv 0) ac)) ac))))) aW)
   (aw (bA (aI fc (pv 1) ad (aS _)) (am (fi I rfl Qr S.mt S.ex bG (aa (fB (bO (ko (pv 1)) (bO ad gI)) Qd) ac))) aW)
   (am (aR (cM (aa ad (aa (cz cs I L Qr (aa (pv 0) ac)) ac))))))))),?_⟩
  refine⟨_,rfl,r,dx,_,rfl,R.row,ma a i,r,dx,a,ws,i,rfl,R,?_⟩;have y:=R.next (i+1);have s1:Rw r H (upd H r (.ins C dx (dm a (i+1)))):=Rw.upd _ _ _;have J:=ok.hd i;have D:=dj ws i;generalize upd H r (.ins C dx (dm a (i+1)))=H1 at y s1;refine⟨_,rfl,rfl,_,rfl,eG (λh=>?_) (λh1=>?_)⟩
  ·have h:=hV h;refine⟨_,rfl,by show 1<=sizeLine;decide,λt c=>q .all (ws.drop i).tail (aO h) _ _ (i+1) (s1.trans (Rw.same (al.new c))) (y.same (al.new c)) D ?_⟩;rw[h];exact iQ (n:=1) ak (.cons (gm Qk) .nil)
  have h1:=io h1;have name:(hd (ws.drop i)="from"\/hd (ws.drop i)="to")->∃x,[some (V.ref r),some (V.str (hd (ws.drop i)))][1]?=some (some x)/\∃O,[some (V.ref r),some (V.str (hd (ws.drop i)))][0]?=some (some O)/\∃u k T b g,[O]=.ref u:: []/\ge C Z H1 u k T b g/\CP b/\
    (∀N j,rName (b.drop g)=some (N,j)->∀v H' l,Rw u H1 H'->ge C Z H' u k T b l->b.drop l=j->yK H' v N->[x,v].length<=sizeLine/\∀t,H' t=none->Q (.ref t) (upd H' t (.tup [x,v])))/\(rName (b.drop g)=none->∀H',Rw u H1 H'->E (.ref ct) none H'):=λh=>by
   have m:ic (ws.drop i)=(rName (ws.drop (i+1))).map λq=>(.of (hd (ws.drop i)) q.1,q.2):=by
    unfold ic;rw[aG h1,aO h,D]
   refine⟨_,rfl,_,rfl,r,dx,a,ws,i+1,rfl,y,ok,λx j e v H' g s' G d' d=>⟨by show 2<=sizeLine;decide,λt c=>?_⟩,λe H' s'=>M (by rw[m,e];rfl) _ (s1.trans s')⟩;cases d;refine q (.of (hd (ws.drop i)) x) j (by rw[m,e];rfl) _ _ g (s1.trans (s'.trans (Rw.same (al.new c)))) (G.same (al.new c)) d' ?_;exact iQ (n:=1) ak (.cons (gm (j4 J)) (.cons (gm (j5 (iB e).1)) .nil))
  refine⟨λo H'=>o=[some (V.ref r),some (V.str (hd (ws.drop i)))]/\H'=H1/\hd (ws.drop i)≠"from"/\hd (ws.drop i)≠"to",?_,?_⟩
  ·refine⟨_,rfl,rfl,_,rfl,eG (λh=>eT (name (.inl (hV h)))) (λh2=>⟨_,rfl,rfl,_,rfl,eG (λh=>name (.inr (hV h))) (λB=>⟨rfl,rfl,io h2,io B⟩)⟩)⟩
  ·rintro o H'⟨rfl,rfl,h2,B⟩;refine⟨_,rfl,rfl,_,rfl,eG (λh=>?_) (λh=>?_)⟩
   ·refine⟨_,rfl,.inl ⟨_,rfl,J.repS,_,rfl,J.rep,_,rfl,Qk,by show 1<=sizeLine;decide,M ?_ _ s1⟩⟩;unfold ic;rw[aG h1,aG (λz=>z.elim h2 B),aG (vP h)]
   ·have h:=vQ h;have m:ic (ws.drop i)=(fG (ws.drop (i+1))).map λq=>(.these q.1,q.2):=by
     unfold ic;rw[aG h1,aG (λz=>z.elim h2 B),aO h,D]
    refine⟨_,rfl,r,dx,a,ws,i+1,rfl,y,ok,λx j e v H' g s' G d' d=>⟨by show 2<=sizeLine;decide,λt c=>?_⟩,λe H' s'=>M (by rw[m,e];rfl) _ (s1.trans s')⟩;obtain⟨p,rfl,Y,hp⟩:=d;refine q (.these x) j (by rw[m,e];rfl) _ _ g (s1.trans (s'.trans (Rw.same (al.new c)))) (G.same (al.new c)) d' ?_;exact iQ (n:=1) ak (.cons (gm Qk) (.cons (GT (n:=0) (al.new c _ _ hp) Y (pT (uT e))) .nil))
theorem pJ:bD ["row","a","b"] ["row"] (aU s_read_cost):=⟨rfl,rfl,rfl,Qk,rfl,Qk,Qk⟩
theorem CJ{f:Addr}{fd:FuncData}(F:fg K "read_cost" "read_cost" s_read_cost f fd)(T:dF K mg)(W:qC P w K mg C)(mt:kR P w K mg base 2 C "take" ["self"] (iO C Z))(mp:oB P w K mg base 3 C "pass_over" ["self","word"] (mq C ct Z))(S:dE P w K mg base 3 "read_name" ["row"] (fU C ct Z [] rName yK))
  (U:dE P w K mg base 2 "read_number" ["text","most_figures"] (xC ct)):FnOk P w K mg base (kS P w) 4 f fd ["row"] (fU C ct Z [] jX (gO Z)):=by
 refine F.okX pJ (λvs H Q E h=>?_) (λV A outer s H vs Q E m j h=>?_)
 ·obtain⟨r,dx,a,ws,i,rfl,_⟩:=h;rfl
 ·obtain⟨r,dx,a,ws,i,rfl,R,ok,q,o⟩:=h;have I:cF 2 _:=m.mono Qd;refine⟨_,(aw (aY (i:=1) pJ.nd rfl (aN rfl) (cz S j m Qr (aa (pv 0) ac)))
   (aw (aY (i:=2) pJ.nd rfl (aN rfl) (cz S j m Qr (aa (pv 0) ac)))
   (aw (dJ (iJ (pv 0) W.cl mp j m (aa ad ac)))
   (am (aR (cM (aa ad (aa (pv 1) (aa (pv 2) (aa (cz U j I Qr (aa (dM (pv 0) W.cl mt I) (aa (cN T.mostF Qr) ac))) ac)))))))))),?_⟩
  refine⟨_,rfl,r,dx,a,ws,i,rfl,R,ok,λu l1 y v1 H1 v s1 R1 d1 d=>?_,λe H' s'=>o (by unfold jX;rw[e];rfl) _ s'⟩;cases d;subst d1;refine⟨_,rfl,r,dx,a,ws,v,rfl,R1,ok,λx l2 N v2 H2 b J R2 d2 g=>?_,λe H' s'=>o (by unfold jX;rw[y];show(rName (ws.drop v)).bind _=_;rw[e];rfl) _ (s1.trans s')⟩;cases g;subst d2;have D:jX (ws.drop i)=(dG "<=" (ws.drop b)).bind λB=>(km (hd B)).map λn=>(.cost u x n,B.tail):=by
   unfold jX;rw[y];show(rName (ws.drop v)).bind _=_;rw[N];rfl
  refine⟨_,rfl,r,dx,_,rfl,R2.row,om a b,r,dx,a,ws,b,_,rfl,⟨Qk,Qk⟩,R2,λz=>?_,λz X c=>o ?_ _ (s1.trans (J.trans c))⟩
  rotate_left
  ·rw[D];unfold dG;rw[aG z];rfl
  have k:=R2.next (b+1);have L:Rw r H (upd H2 r (.ins C dx (dm a (b+1)))):=s1.trans (J.trans (Rw.upd _ _ _));generalize upd H2 r (.ins C dx (dm a (b+1)))=H3 at k L;have G:jX (ws.drop i)=(km (hd (ws.drop (b+1)))).map λn=>(.cost u x n,(ws.drop (b+1)).tail):=by
   rw[D];unfold dG;rw[aO z,dj];rfl
  refine⟨_,rfl,_,rfl,_,rfl,r,dx,_,rfl,k.row,ma a (b+1),r,dx,a,ws,b+1,rfl,k,?_⟩;have O:=k.next (b+1+1);have c:Rw r H (upd H3 r (.ins C dx (dm a (b+1+1)))):=L.trans (Rw.upd _ _ _);generalize upd H3 r (.ins C dx (dm a (b+1+1)))=X at O c;refine⟨_,rfl,ok.hd _,λp Y l=>⟨by show 4<=sizeLine;decide,λt M=>?_⟩,λp Y l=>o ?_ _ (c.trans (Rw.same l))⟩
  ·refine q (.cost u x _) (ws.drop (b+1)).tail (by rw[G];unfold km;rw[aO p];rfl) _ _ (b+1+1) (c.trans (Rw.same (l.trans (al.new M)))) (O.same (l.trans (al.new M))) (dj ws (b+1)) ?_;exact iQ (n:=2) ak (.cons (gm Qk) (.cons (gm (j5 (iB y).1)) (.cons (gm (j5 (iB N).1)) (.cons xO .nil))))
  ·rw[G];unfold km;rw[p];rfl
end
def pA(C ct:Addr)(Z:Addr->Prop)(m:Nat):Sp:=fU C ct Z [.int (m:Int)] (bx m) (gO Z)
def uB(C ct:Addr)(Z:Addr->Prop)(m:Nat):Sp:=fU C ct Z [.int (m:Int)] (gx (bx m)) (gO Z)
def Ay(C ct:Addr)(Z:Addr->Prop)(m:Nat):Sp:=fU C ct Z [.int (m:Int)] (jh (bx m)) (gO Z)
def w_(C ct:Addr)(Z:Addr->Prop)(m:Nat):Sp:=fU C ct Z [.int (m:Int)] (i9 (bx m)) (gO Z)
def xB(C ct:Addr)(Z:Addr->Prop)(m:Nat):Sp:=λvs H Q E=>∃w:Str,(w="each"\/w="some")/\fU C ct Z [.int ((m+1:Nat):Int),.str w] (jW (bx m) w) (gO Z) vs H Q E
def BP(C ct:Addr)(Z:Addr->Prop)(m:Nat):Sp:=λvs H Q E=>∃w:Str,(w="least"\/w="most")/\fU C ct Z [.int ((m+1:Nat):Int),.str w] (oE (bx m) w) (gO Z) vs H Q E
def Gz(C ct:Addr)(Z:Addr->Prop)(m:Nat):Sp:=fU C ct Z [.int ((m+1:Nat):Int)] (tQ (bx m)) (gO Z)
def Gy(C ct:Addr)(Z:Addr->Prop)(m:Nat):Sp:=λvs H Q E=>∃w:Str,okX w/\fU C ct Z [.int ((m+1:Nat):Int),.str w] (Cj (bx m) w) (gO Z) vs H Q E
theorem ju(r:Addr)(m:Nat):[V.ref r,V.int (((m+1:Nat):Int)-1)]=V.ref r:: [V.int (m:Int)]:=by
 have:((m+1:Nat):Int)-1=(m:Int):=Qo;rw[this]
theorem gO.rw{r C dx:Addr}{Z:Addr->Prop}{fs:List (Str×V)}{H H':Hp}{v:V}{c:Cl}(h:gO Z H v c)(s:Rw r H H')(a:H r=some (.ins C dx fs)):gO Z H' v c:=s.pd a h
theorem gO.same{Z:Addr->Prop}{H H':Hp}{v:V}{c:Cl}(h:gO Z H v c)(s:al H H'):gO Z H' v c:=PDF.same s h
theorem yB{f:lG}{l:List Str}(h:nb (hd l)=none):firstOf f l=(if hd l="cost"then jX l.tail else if hd l="not"then(i9 f l.tail).map λq=>(.neg q.1,q.2)
  else if hd l="each"\/hd l="some"then jW f (hd l) l.tail else if hd l="size"then(ic l.tail).map λq=>(.size q.1,q.2)
  else if hd l="pairs"then(ic l.tail).bind λq=>(ic q.2).map λp=>(.pairs q.1 p.1,p.2)
  else if hd l="least"\/hd l="most"then oE f (hd l) l.tail else if hd l="("then tQ f l.tail else Cj f (hd l) l.tail):=by
 unfold firstOf;rw[h]
theorem Ds{f:lG}{l:List Str}{n:Nat}(h:nb (hd l)=some n):firstOf f l=(kO n l.tail).map λq=>(.nm (hd l) q.1,q.2):=by
 unfold firstOf;rw[h]
theorem Cf{Z:Addr->Prop}{H:Hp}{t:Addr}{w:Str}{ns:List Str}(h:H t=some (.tup (.str w::ns.map V.str)))(hw:PyData.strOk w=true)(hn:∀x∈ns,okN x=true):gO Z H (.ref t) (.nm w ns):=iQ (n:=2) h (.cons (gm hw) (pT hn))
theorem EC{Z:Addr->Prop}{H:Hp}{t:Addr}{v:V}{c:Cl}(h:H t=some (.tup [.str "not",v]))(a:gO Z H v c):gO Z H (.ref t) (.neg c):=by
 show PDF Z H (1+dep c+2) _ _;rw[show 1+dep c+2=(dep c+2)+1 by omega];exact iQ h (.cons (gm Qk) (.cons a .nil))
theorem EA{Z:Addr->Prop}{H:Hp}{w:Str}{v u:V}{a b:Cl}{n:Nat}(hn:n=max (dep a) (dep b))(hw:PyData.strOk w=true)(c:gO Z H v a)(d:gO Z H u b):Paired (PDF Z H (n+2)) [.str w,v,u] [.str w,dat a,dat b]:=by
 have h1:PDF Z H (n+2) v (dat a):=by
  have:=PDF.mono c (n-dep a);rwa[show dep a+2+(n-dep a)=n+2 by omega]at this
 have h2:PDF Z H (n+2) u (dat b):=by
  have:=PDF.mono d (n-dep b);rwa[show dep b+2+(n-dep b)=n+2 by omega]at this
 exact .cons (gm hw) (.cons h1 (.cons h2 .nil))
theorem zH{Z:Addr->Prop}{H:Hp}{t:Addr}{w:Str}{v u:V}{a b c:Cl}(h:H t=some (.tup [.str w,v,u]))(hw:PyData.strOk w=true)(e:gO Z H v a)(f:gO Z H u b)(hd:dep c=1+max (dep a) (dep b))(d:dat c=.tuple [.str w,dat a,dat b]):gO Z H (.ref t) c:=by
 show PDF Z H (dep c+2) _ _;rw[hd,d,show 1+max (dep a) (dep b)+2=(max (dep a) (dep b)+2)+1 by omega];exact iQ h (EA rfl hw e f)
theorem EB{Z:Addr->Prop}{H:Hp}{t:Addr}{n:Int}{v:V}{c:Cl}(h:H t=some (.tup [.str "times",.int n,v]))(a:gO Z H v c):gO Z H (.ref t) (.tim n c):=by
 show PDF Z H (1+dep c+2) _ _;rw[show 1+dep c+2=(dep c+2)+1 by omega];exact iQ h (.cons (gm Qk) (.cons xO (.cons a .nil)))
theorem GH{Z:Addr->Prop}{H:Hp}{t:Addr}{w x:Str}{k v:V}{s:Ks}{c:Cl}(h:H t=some (.tup [.str w,.str x,k,v]))(hw:PyData.strOk w=true)(a:PyData.strOk x=true)(d:Bf Z H k s)(b:gO Z H v c):gO Z H (.ref t) (.ov w x s c):=by
 show PDF Z H (1+dep c+2) _ _;rw[show 1+dep c+2=(dep c+2)+1 by omega];have h2:PDF Z H (dep c+2) k (datK s):=by
  have:=PDF.mono d (dep c);rwa[show 2+dep c=dep c+2 by omega]at this
 exact iQ h (.cons (gm hw) (.cons (gm a) (.cons h2 (.cons b .nil))))
section
variable{P:Program}{w:World}{K:ah}{mg:Str->Option Value}{base:Heap}{C ct:Addr}{Z:Addr->Prop}{L m:Nat}
theorem B1:bD ["row","room","whole"] ["row","room"] (aU s_read_whole_term):=⟨rfl,rfl,rfl,Qk,rfl,Qk,Qk⟩
theorem G4{f:Addr}{fd:FuncData}(F:fg K "read_whole_term" "read_whole_term" s_read_whole_term f fd)(k:yL K mg ct)(y:1<=L)(p:dE P w K mg base L "read_first" ["row","room"] (pA C ct Z m))(t:dk P w K mg base 1 "is_term" ["whole"] uG):FnOk P w K mg base (kS P w) (L+1) f fd ["row","room"] (uB C ct Z m):=by
 refine F.okX B1 (λvs H Q E h=>?_) (λn A outer s H vs Q E g d h=>?_)
 ·obtain⟨r,dx,a,ws,i,rfl,_⟩:=h;rfl
 ·obtain⟨r,dx,a,ws,i,rfl,R,ok,q,j⟩:=h;have o:cF 1 _:=g.mono Qo;refine⟨_,(aw (aY (i:=2) B1.nd rfl (aN rfl) (cz p d g Qr (aa (pv 0) (aa (pv 1) ac))))
   (aw (bA (ij (fe (aJ t o Qr (aa (pv 2) ac)))) (am (fi d rfl Qr k.mt k.ex bG (aa ad ac))) aW)
   (am (aR (pv 2))))),?_⟩
  refine⟨_,rfl,_,rfl,r,dx,a,ws,i,rfl,R,ok,λc u e v H' x s' l d' b=>?_,λe H' s'=>j (by unfold gx;rw[e];rfl) _ s'⟩;refine⟨_,rfl,v,_,c,rfl,PDF.pd b,_,rfl,?_⟩;cases ht:dY c with
  |true=>exact eZ ⟨_,rfl,q c u (by unfold gx;rw[e];exact aO ht) v H' x s' l d' b⟩
  |false=>exact eT ⟨by show 1<=sizeLine;decide,j (by unfold gx;rw[e];exact aG (by rw[ht];exact ba)) _ s'⟩
theorem B3:bD ["row","room","first"] ["row","room"] (aU s_read_whole):=⟨rfl,rfl,rfl,Qk,rfl,Qk,Qk⟩
theorem G5{f:Addr}{fd:FuncData}(F:fg K "read_whole" "read_whole" s_read_whole f fd)(W:qC P w K mg C)(hL:2<=L)(V:dE P w K mg base L "read_first" ["row","room"] (pA C ct Z m))(cw:dE P w K mg base L "read_whole_term" ["row","room"] (uB C ct Z m))(ci:dk P w K mg base 1 "is_term" ["whole"] uG)
  (mc:kR P w K mg base 1 C "coming" ["self"] (jT C Z))(mt:kR P w K mg base 2 C "take" ["self"] (iO C Z)):FnOk P w K mg base (kS P w) (L+1) f fd ["row","room"] (Ay C ct Z m):=by
 refine F.okX B3 (λvs H Q E h=>?_) (λS A outer s H vs Q E n J h=>?_)
 ·obtain⟨r,dx,a,ws,i,rfl,_⟩:=h;rfl
 ·obtain⟨r,dx,a,ws,i,rfl,R,ok,q,N⟩:=h;have I:cF 1 _:=n.mono Qo;have X:cF 2 _:=n.mono Qo;refine⟨_,(aw (aY (i:=2) B3.nd rfl (aN rfl) (cz V J n Qr (aa (pv 0) (aa (pv 1) ac))))
   (aw (bA (PW.pt (eQ (ij (fe (aJ ci I Qr (aa (pv 2) ac)))) (dU (aI fc (dM (pv 0) W.cl mc I) ad (aS _))))) (am (aR (pv 2))) aW)
   (aw (dJ (dM (pv 0) W.cl mt X))
   (am (aR (cM (aa ad (aa (pv 2) (aa (cz cw J n Qr (aa (pv 0) (aa (pv 1) ac))) ac))))))))),?_⟩
  refine⟨_,rfl,_,rfl,r,dx,a,ws,i,rfl,R,ok,λc l' e v H' d s' j d' g=>?_,λe H' s'=>N (by unfold jh;rw[e];rfl) _ s'⟩;subst d';have D:jh (bx m) (ws.drop i)=if dY c=false\/hd (ws.drop d)≠"<="then some (c,ws.drop d)else(gx (bx m) (ws.drop d).tail).map λp=>(.atm c p.1,p.2):=by
   unfold jh;rw[e];rfl
  refine⟨_,rfl,v,_,c,rfl,PDF.pd g,_,rfl,?_⟩;cases x:dY c with
  |false=>exact eT ⟨_,rfl,q c _ (by rw[D];exact aO (.inl x)) v H' d s' j rfl g⟩
  |true=>
   refine eZ ⟨_,rfl,r,dx,_,rfl,j.row,vV a d,r,dx,a,ws,d,rfl,j,rfl,_,rfl,eG (λh=>?_) (λh=>?_)⟩
   ·exact⟨_,rfl,q c _ (by rw[D];exact aO (.inr (vP h))) v H' d s' j rfl g⟩
   ·have h:=vQ h;have M:jh (bx m) (ws.drop i)=(gx (bx m) (ws.drop (d+1))).map λp=>(.atm c p.1,p.2):=by
     rw[D,aG (λz=>z.elim (λy=>by rw[x]at y;cases y) (λy=>y h)),dj]
    refine⟨_,rfl,r,dx,_,rfl,j.row,ma a d,r,dx,a,ws,d,rfl,j,?_⟩;have R2:=j.next (d+1);have o:Rw r H' (upd H' r (.ins C dx (dm a (d+1)))):=Rw.upd _ _ _;have k:=g.rw o j.row;generalize upd H' r (.ins C dx (dm a (d+1)))=H2 at R2 o k;refine⟨_,rfl,_,rfl,_,rfl,r,dx,a,ws,d+1,rfl,R2,ok,λb O G U B T u Y d3 l=>⟨by show 3<=sizeLine;decide,λt x=>?_⟩,λG B u=>N (by rw[M,G];rfl) _ (s'.trans (o.trans u))⟩;have sn:al B (upd B t (.tup [.str "atmost",v,U])):=al.new x;exact q (.atm c b) O (by rw[M,G];rfl) _ _ T (s'.trans (o.trans (u.trans (Rw.same sn)))) (Y.same sn) d3 (zH ak Qk ((k.rw u R2.row).same sn) (l.same sn) rfl rfl)
theorem B4:bD ["row","room","whole"] ["row","room"] (aU s_read_whole_claim):=⟨rfl,rfl,rfl,Qk,rfl,Qk,Qk⟩
theorem G6{f:Addr}{fd:FuncData}(F:fg K "read_whole_claim" "read_whole_claim" s_read_whole_claim f fd)(k:yL K mg ct)(y:1<=L)(p:dE P w K mg base L "read_whole" ["row","room"] (Ay C ct Z m))(t:dk P w K mg base 1 "is_term" ["whole"] uG):FnOk P w K mg base (kS P w) (L+1) f fd ["row","room"] (w_ C ct Z m):=by
 refine F.okX B4 (λvs H Q E h=>?_) (λn A outer s H vs Q E g d h=>?_)
 ·obtain⟨r,dx,a,ws,i,rfl,_⟩:=h;rfl
 ·obtain⟨r,dx,a,ws,i,rfl,R,ok,q,j⟩:=h;have o:cF 1 _:=g.mono Qo;refine⟨_,(aw (aY (i:=2) B4.nd rfl (aN rfl) (cz p d g Qr (aa (pv 0) (aa (pv 1) ac))))
   (aw (bA (fe (aJ t o Qr (aa (pv 2) ac))) (am (fi d rfl Qr k.mt k.ex bG (aa ad ac))) aW)
   (am (aR (pv 2))))),?_⟩
  refine⟨_,rfl,_,rfl,r,dx,a,ws,i,rfl,R,ok,λc u e v H' x s' l d' b=>?_,λe H' s'=>j (by unfold i9;rw[e];rfl) _ s'⟩;refine⟨_,rfl,v,_,c,rfl,PDF.pd b,_,rfl,?_⟩;cases ht:dY c with
  |false=>exact eZ ⟨_,rfl,q c u (by unfold i9;rw[e];exact aG (by rw[ht];exact ba)) v H' x s' l d' b⟩
  |true=>exact eT ⟨by show 1<=sizeLine;decide,j (by unfold i9;rw[e];exact aO ht) _ s'⟩
end
theorem lN{w:Str}{l:List Str}(h:hd l=w):dG w l=some l.tail:=aO h
theorem lO{w:Str}{l:List Str}(h:hd l≠w):dG w l=none:=aG h
theorem wV{x:Str}(h:jz x=true):PyData.strOk x=true:=j5 (by unfold okN;rw[h,iX])
theorem lP{x:Str}(h:(decide (x.length<=8000)&&x.cps.toList.all λc=>decide (c<1114112))=true):okX x:=by
 simp only[bc,aD,bw]at h;exact h
section
variable{P:Program}{w:World}{K:ah}{mg:Str->Option Value}{base:Heap}{C ct:Addr}{Z:Addr->Prop}{L m:Nat}
theorem xF:bD ["row","room","word","variable","kind"] ["row","room","word"] (aU s_read_over_places):=⟨rfl,rfl,rfl,Qk,rfl,Qk,Qk⟩
theorem G8{f:Addr}{fd:FuncData}(F:fg K "read_over_places" "read_over_places" s_read_over_places f fd)(W:qC P w K mg C)(U:yL K mg ct)(hL:5<=L)(mt:kR P w K mg base 2 C "take" ["self"] (iO C Z))(cv:dk P w K mg base 2 "is_variable" ["word"] BN)
  (mp:oB P w K mg base 3 C "pass_over" ["self","word"] (mq C ct Z))(cs:dE P w K mg base 5 "read_set" ["row"] (fU C ct Z [] ic (Bf Z)))(cw:dE P w K mg base L "read_whole_claim" ["row","room"] (w_ C ct Z m)):FnOk P w K mg base (kS P w) (L+1) f fd ["row","room","word"] (xB C ct Z m):=by
 refine F.okX xF (λvs H Q E h=>?_) (λxa A outer s H vs Q E B v h=>?_)
 ·obtain⟨x,_,r,dx,a,ws,i,rfl,_⟩:=h;rfl
 ·obtain⟨x,hx,r,dx,a,ws,i,rfl,R,ok,q,j⟩:=h;have r2:cF 2 _:=B.mono Qo;have V:cF 3 _:=B.mono Qo;have r5:cF 5 _:=B.mono Qo;refine⟨_,(aw (aY (i:=3) xF.nd rfl (aN rfl) (dM (pv 0) W.cl mt r2))
   (aw (bA (ij (fe (aJ cv r2 Qr (aa (pv 3) ac)))) (am (fi v rfl Qr U.mt U.ex bG (aa (fB (bO (ko (pv 3)) (bO ad gI)) Qd) ac))) aW)
   (aw (dJ (iJ (pv 0) W.cl mp v V (aa ad ac)))
   (aw (aY (i:=4) xF.nd rfl (aN rfl) (cz cs v r5 Qr (aa (pv 0) ac)))
   (aw (dJ (iJ (pv 0) W.cl mp v V (aa ad ac)))
   (am (aR (cM (aa (pv 2) (aa (pv 3) (aa (pv 4) (aa (cz cw v B Qr (aa (pv 0) (aa (aF gX (pv 1) ai) ac))) ac)))))))))))),?_⟩
  have J:=ok.hd i;refine⟨_,rfl,r,dx,_,rfl,R.row,ma a i,r,dx,a,ws,i,rfl,R,?_⟩;have R1:=R.next (i+1);have s1:Rw r H (upd H r (.ins C dx (dm a (i+1)))):=Rw.upd _ _ _;generalize upd H r (.ins C dx (dm a (i+1)))=H1 at R1 s1;refine⟨_,rfl,_,rfl,J.len,λH2 I=>⟨_,rfl,?_⟩⟩;cases hv:jz (hd (ws.drop i))with
  |false=>
   refine eT ⟨_,rfl,.inl ⟨_,rfl,J.repS,_,rfl,J.rep,_,rfl,Qk,by show 1<=sizeLine;decide,j ?_ _ (s1.trans (Rw.same I))⟩⟩;unfold jW;rw[hv];rfl
  |true=>
   have R2:=R1.same I;have t2:Rw r H H2:=s1.trans (Rw.same I);have e0:jW (bx m) x (ws.drop i)=(dG "in" (ws.drop (i+1))).bind λl1=>(ic l1).bind λq=>(dG ":" q.2).bind λl=>(i9 (bx m) l).map λp=>(.ov x (hd (ws.drop i)) q.1 p.1,p.2):=by
    unfold jW;rw[aO hv,dj]
   refine eZ ⟨_,rfl,r,dx,_,rfl,R2.row,om a (i+1),r,dx,a,ws,i+1,_,rfl,lP Qk,R2,λz=>?_,λz g G=>j (by rw[e0,lO z];rfl) _ (t2.trans G)⟩;have R3:=R2.next (i+1+1);have D:Rw r H (upd H2 r (.ins C dx (dm a (i+1+1)))):=t2.trans (Rw.upd _ _ _);generalize upd H2 r (.ins C dx (dm a (i+1+1)))=H3 at R3 D;have e3:jW (bx m) x (ws.drop i)=(ic (ws.drop (i+1+1))).bind λq=>(dG ":" q.2).bind λl=>(i9 (bx m) l).map λp=>(.ov x (hd (ws.drop i)) q.1 p.1,p.2):=by
    rw[e0,lN z,dj ws (i+1)];rfl
   refine⟨_,rfl,r,dx,a,ws,i+1+1,rfl,R3,ok,λk l4 e4 N g b G y d4 n=>?_,λe H' s'=>j (by rw[e3,e];rfl) _ (D.trans s')⟩;subst d4;have X:jW (bx m) x (ws.drop i)=(dG ":" (ws.drop b)).bind λl=>(i9 (bx m) l).map λp=>(.ov x (hd (ws.drop i)) k p.1,p.2):=by
    rw[e3,e4];rfl
   refine⟨_,rfl,r,dx,_,rfl,y.row,om a b,r,dx,a,ws,b,_,rfl,lP Qk,y,λz=>?_,λz H5 u=>j (by rw[X,lO z];rfl) _ (D.trans (G.trans u))⟩;have M:=y.next (b+1);have O:Rw r g (upd g r (.ins C dx (dm a (b+1)))):=Rw.upd _ _ _;have d:Bf Z (upd g r (.ins C dx (dm a (b+1)))) N k:=O.pd y.row n;have u:Rw r H (upd g r (.ins C dx (dm a (b+1)))):=D.trans (G.trans O);generalize upd g r (.ins C dx (dm a (b+1)))=H5 at M u d;have S:jW (bx m) x (ws.drop i)=(i9 (bx m) (ws.drop (b+1))).map λp=>(.ov x (hd (ws.drop i)) k p.1,p.2):=by
    rw[X,lN z,dj ws b];rfl
   refine⟨_,rfl,_,rfl,_,rfl,_,rfl,_,rfl,_,_,rfl,rfl,r,dx,a,ws,b+1,ju r m,M,ok,λc l7 e7 v7 Y i7 T R7 d7 o=>⟨by show 4<=sizeLine;decide,λt ht=>?_⟩,λe H' s'=>j (by rw[S,e];rfl) _ (u.trans s')⟩;have sn:al Y (upd Y t (.tup [.str x,.str (hd (ws.drop i)),N,v7])):=al.new ht;refine q (.ov x (hd (ws.drop i)) k c) l7 (by rw[S,e7];rfl) _ _ i7 (u.trans (T.trans (Rw.same sn))) (R7.same sn) d7 (GH ak ?_ (wV hv) (PDF.same sn (T.pd M.row d)) (o.same sn));rcases hx with rfl|rfl<;>decide+kernel
theorem sB:bD ["row","room","word","first","second"] ["row","room","word"] (aU s_read_of_two):=⟨rfl,rfl,rfl,Qk,rfl,Qk,Qk⟩
theorem E7{f:Addr}{fd:FuncData}(F:fg K "read_of_two" "read_of_two" s_read_of_two f fd)(W:qC P w K mg C)(hL:5<=L)
  (N:oB P w K mg base 3 C "pass_over" ["self","word"] (mq C ct Z))(cw:dE P w K mg base L "read_whole_term" ["row","room"] (uB C ct Z m)):FnOk P w K mg base (kS P w) (L+1) f fd ["row","room","word"] (BP C ct Z m):=by
 refine F.okX sB (λvs H Q E h=>?_) (λxa A outer s H vs Q E I o h=>?_)
 ·obtain⟨x,_,r,dx,a,ws,i,rfl,_⟩:=h;rfl
 ·obtain⟨x,hx,r,dx,a,ws,i,rfl,R,ok,q,j⟩:=h;have J:cF 3 _:=I.mono Qo;refine⟨_,(aw (dJ (iJ (pv 0) W.cl N o J (aa ad ac)))
   (aw (aY (i:=3) sB.nd rfl (aN rfl) (cz cw o I Qr (aa (pv 0) (aa (aF gX (pv 1) ai) ac))))
   (aw (dJ (iJ (pv 0) W.cl N o J (aa ad ac)))
   (aw (aY (i:=4) sB.nd rfl (aN rfl) (cz cw o I Qr (aa (pv 0) (aa (aF gX (pv 1) ai) ac))))
   (aw (dJ (iJ (pv 0) W.cl N o J (aa ad ac)))
   (am (aR (cM (aa (pv 2) (aa (pv 3) (aa (pv 4) ac))))))))))),?_⟩
  refine⟨_,rfl,r,dx,_,rfl,R.row,om a i,r,dx,a,ws,i,_,rfl,lP Qk,R,λz=>?_,λz H4 O=>j (by unfold oE;rw[lO z];rfl) _ O⟩;have e1:oE (bx m) x (ws.drop i)=(gx (bx m) (ws.drop (i+1))).bind λq=>(dG "," q.2).bind λu=>(gx (bx m) u).bind λp=>(dG ")" p.2).map λg=>(.two x q.1 p.1,g):=by
   unfold oE;rw[lN z,dj ws i];rfl
  have R1:=R.next (i+1);have s1:Rw r H (upd H r (.ins C dx (dm a (i+1)))):=Rw.upd _ _ _;generalize upd H r (.ins C dx (dm a (i+1)))=H1 at R1 s1;refine⟨_,rfl,_,rfl,_,_,rfl,rfl,r,dx,a,ws,i+1,ju r m,R1,ok,λy u e2 v2 H2 c Y R2 d2 k=>?_,λe H' s'=>j (by rw[e1,e];rfl) _ (s1.trans s')⟩;subst d2;have e3:oE (bx m) x (ws.drop i)=(dG "," (ws.drop c)).bind λu=>(gx (bx m) u).bind λp=>(dG ")" p.2).map λg=>(.two x y p.1,g):=by
   rw[e1,e2];rfl
  refine⟨_,rfl,r,dx,_,rfl,R2.row,om a c,r,dx,a,ws,c,_,rfl,lP Qk,R2,λz=>?_,λz H4 O=>j (by rw[e3,lO z];rfl) _ (s1.trans (Y.trans O))⟩;have V:oE (bx m) x (ws.drop i)=(gx (bx m) (ws.drop (c+1))).bind λp=>(dG ")" p.2).map λg=>(.two x y p.1,g):=by
   rw[e3,lN z,dj ws c];rfl
  have T:=R2.next (c+1);have u3:Rw r H2 (upd H2 r (.ins C dx (dm a (c+1)))):=Rw.upd _ _ _;have d:=k.rw u3 R2.row;have B:Rw r H (upd H2 r (.ins C dx (dm a (c+1)))):=s1.trans (Y.trans u3);generalize upd H2 r (.ins C dx (dm a (c+1)))=H3 at T B d;refine⟨_,rfl,_,rfl,_,_,rfl,rfl,r,dx,a,ws,c+1,ju r m,T,ok,λU l5 e5 v5 v b M l d5 n=>?_,λe H' s'=>j (by rw[V,e];rfl) _ (B.trans s')⟩;subst d5;have X:oE (bx m) x (ws.drop i)=(dG ")" (ws.drop b)).map λg=>(.two x y U,g):=by
   rw[V,e5];rfl
  refine⟨_,rfl,r,dx,_,rfl,l.row,om a b,r,dx,a,ws,b,_,rfl,lP Qk,l,λz=>?_,λz G D=>j (by rw[X,lO z];rfl) _ (B.trans (M.trans D))⟩;have R6:=l.next (b+1);have S:Rw r v (upd v r (.ins C dx (dm a (b+1)))):=Rw.upd _ _ _;have ra:=(d.rw M T.row).rw S l.row;have rb:=n.rw S l.row;have D:Rw r H (upd v r (.ins C dx (dm a (b+1)))):=B.trans (M.trans S);generalize upd v r (.ins C dx (dm a (b+1)))=G at R6 D ra rb;refine⟨_,rfl,_,rfl,_,rfl,by show 3<=sizeLine;decide,λt ht=>?_⟩;have sn:al G (upd G t (.tup [.str x,v2,v5])):=al.new ht;refine q (.two x y U) (ws.drop b).tail (by rw[X,lN z];rfl) _ _ (b+1) (D.trans (Rw.same sn)) (R6.same sn) (dj ws b) (zH ak ?_ (ra.same sn) (rb.same sn) rfl rfl);rcases hx with rfl|rfl<;>decide+kernel
theorem sD:bD ["row","room","first","word","second"] ["row","room"] (aU s_read_bracket):=⟨rfl,rfl,rfl,Qk,rfl,Qk,Qk⟩
theorem Hb{f:Addr}{fd:FuncData}(F:fg K "read_bracket" "read_bracket" s_read_bracket f fd)(W:qC P w K mg C)(R0:yL K mg ct)(hL:5<=L)(mt:kR P w K mg base 2 C "take" ["self"] (iO C Z))(Y:dk P w K mg base 1 "is_term" ["whole"] uG)
  (mp:oB P w K mg base 3 C "pass_over" ["self","word"] (mq C ct Z))(cw:dE P w K mg base L "read_whole" ["row","room"] (Ay C ct Z m)):FnOk P w K mg base (kS P w) (L+1) f fd ["row","room"] (Gz C ct Z m):=by
 refine F.okX sD (λvs H Q E h=>?_) (λxa A outer s H vs Q E y U h=>?_)
 ·obtain⟨r,dx,a,ws,i,rfl,_⟩:=h;rfl
 ·obtain⟨r,dx,a,ws,i,rfl,R,ok,q,J⟩:=h;have M:cF 1 _:=y.mono Qo;have r2:cF 2 _:=y.mono Qo;have r3:cF 3 _:=y.mono Qo;refine⟨_,(aw (aY (i:=2) sD.nd rfl (aN rfl) (cz cw U y Qr (aa (pv 0) (aa (aF gX (pv 1) ai) ac))))
   (aw (aY (i:=3) sD.nd rfl (aN rfl) (dM (pv 0) W.cl mt r2))
   (aw (aY (i:=4) sD.nd rfl (aN rfl) (cz cw U y Qr (aa (pv 0) (aa (aF gX (pv 1) ai) ac))))
   (aw (dJ (iJ (pv 0) W.cl mp U r3 (aa ad ac)))
   (aQ (bA (PW.pt (gH (aI b4 (pv 3) ad (aS _)) (gH (fe (aJ Y M Qr (aa (pv 2) ac))) (gb (fe (aJ Y M Qr (aa (pv 4) ac))))))) (am (aR (cM (aa ad (aa (pv 2) (aa (pv 4) ac)))))) aW)
   (aQ (bA (PW.pt (gH (PW.pt (eQ (aI b4 (pv 3) ad (aS _)) (dU (aI b4 (pv 3) ad (aS _))))) (gH (ij (fe (aJ Y M Qr (aa (pv 2) ac)))) (gb (ij (fe (aJ Y M Qr (aa (pv 4) ac)))))))) (am (aR (cM (aa (pv 3) (aa (pv 2) (aa (pv 4) ac)))))) aW)
   (am (fi U rfl Qr R0.mt R0.ex bG (aa (fB (bO (ko (pv 3)) (bO ad gI)) Qd) ac))))))))),?_⟩
  refine⟨_,rfl,_,rfl,_,_,rfl,rfl,r,dx,a,ws,i,ju r m,R,ok,λc l1 e1 n H1 b s1 X d1 G=>?_,λe H' s'=>J (by unfold tQ;rw[e];rfl) _ s'⟩;subst d1;have O:=ok.hd b;refine⟨_,rfl,r,dx,_,rfl,X.row,ma a b,r,dx,a,ws,b,rfl,X,?_⟩;have R2:=X.next (b+1);have u2:Rw r H1 (upd H1 r (.ins C dx (dm a (b+1)))):=Rw.upd _ _ _;have k:=G.rw u2 X.row;have N:Rw r H (upd H1 r (.ins C dx (dm a (b+1)))):=s1.trans u2;generalize upd H1 r (.ins C dx (dm a (b+1)))=H2 at R2 N k;have e2:tQ (bx m) (ws.drop i)=(jh (bx m) (ws.drop (b+1))).bind λp=>(dG ")" p.2).bind λo=>
    if hd (ws.drop b)="+"/\dY c=true/\dY p.1=true then some (.plus c p.1,o)else if(hd (ws.drop b)="and"\/hd (ws.drop b)="or")/\dY c=false/\dY p.1=false then some (.bin (hd (ws.drop b)) c p.1,o)else none:=by
   unfold tQ;rw[e1,dj ws b];rfl
  refine⟨_,rfl,_,rfl,_,_,rfl,rfl,r,dx,a,ws,b+1,ju r m,R2,ok,λd o e3 v T g s3 I d3 B=>?_,λe H' s'=>J (by rw[e2,e];rfl) _ (N.trans s')⟩;subst d3;have e4:tQ (bx m) (ws.drop i)=(dG ")" (ws.drop g)).bind λo=>
    if hd (ws.drop b)="+"/\dY c=true/\dY d=true then some (.plus c d,o)else if(hd (ws.drop b)="and"\/hd (ws.drop b)="or")/\dY c=false/\dY d=false then some (.bin (hd (ws.drop b)) c d,o)else none:=by
   rw[e2,e3];rfl
  refine⟨_,rfl,r,dx,_,rfl,I.row,om a g,r,dx,a,ws,g,_,rfl,lP Qk,I,λz=>?_,λz H4 s4=>J (by rw[e4,lO z];rfl) _ (N.trans (s3.trans s4))⟩;have R5:=I.next (g+1);have u5:Rw r T (upd T r (.ins C dx (dm a (g+1)))):=Rw.upd _ _ _;have ra:=(k.rw s3 R2.row).rw u5 I.row;have D:=B.rw u5 I.row;have S:Rw r H (upd T r (.ins C dx (dm a (g+1)))):=N.trans (s3.trans u5);generalize upd T r (.ins C dx (dm a (g+1)))=l at R5 S ra D;have u:tQ (bx m) (ws.drop i)=if hd (ws.drop b)="+"/\dY c=true/\dY d=true then some (.plus c d,(ws.drop g).tail)else if(hd (ws.drop b)="and"\/hd (ws.drop b)="or")/\dY c=false/\dY d=false then some (.bin (hd (ws.drop b)) c d,(ws.drop g).tail)else none:=by
   rw[e4,lN z];rfl
  generalize hd (ws.drop b)=x at u O;clear e4 e2 z;have dt:=dj ws g;refine⟨λj H'=>j=[some (V.ref r),some (V.int ((m+1:Nat):Int)),some n,some (V.str x),some v]/\H'=l/\¬(x="+"/\dY c=true/\dY d=true),?_,?_⟩
  ·refine⟨_,rfl,rfl,_,rfl,eG (λh=>?_) (λh=>⟨rfl,rfl,λz=>io h z.1⟩)⟩;refine⟨_,rfl,n,_,c,rfl,PDF.pd ra,_,rfl,?_⟩;cases t1:dY c with
   |false=>exact eZ ⟨rfl,rfl,λz=>by have:=z.2.1;cases this⟩
   |true=>
    refine eT ⟨_,rfl,v,_,d,rfl,PDF.pd D,_,rfl,?_⟩;cases t3:dY d with
    |false=>exact eZ ⟨rfl,rfl,λz=>by have:=z.2.2;cases this⟩
    |true=>
     refine eT ⟨_,rfl,_,rfl,by show 3<=sizeLine;decide,λt ht=>?_⟩;have sn:al l (upd l t (.tup [.str "plus",n,v])):=al.new ht;exact q (.plus c d) (ws.drop g).tail (by rw[u,aO ⟨hV h,t1,t3⟩]) _ _ (g+1) (S.trans (Rw.same sn)) (R5.same sn) dt (zH ak Qk (ra.same sn) (D.same sn) rfl rfl)
  ·rintro j l⟨rfl,rfl,n1⟩;rw[aG n1]at u;refine⟨λj H'=>j=[some (V.ref r),some (V.int ((m+1:Nat):Int)),some n,some (V.str x),some v]/\H'=l/\¬((x="and"\/x="or")/\dY c=false/\dY d=false),?_,?_⟩
   ·refine⟨_,rfl,rfl,_,rfl,eG (λh=>eT ?_) (λh=>⟨_,rfl,rfl,_,rfl,eG (λh'=>?_) (λh'=>⟨rfl,rfl,λz=>z.1.elim (io h) (io h')⟩)⟩)⟩
    all_goals have hx:x="and"\/x="or":=by first|exact .inl (hV h)|exact .inr (hV h')
    all_goals refine⟨_,rfl,n,_,c,rfl,PDF.pd ra,_,rfl,?_⟩
    all_goals cases t1:dY c
    all_goals first|exact eZ ⟨rfl,rfl,λz=>by have:=z.2.1;cases this⟩|refine eT ⟨_,rfl,v,_,d,rfl,PDF.pd D,_,rfl,?_⟩
    all_goals cases t3:dY d
    all_goals first|exact eZ ⟨rfl,rfl,λz=>by have:=z.2.2;cases this⟩|refine eT ⟨_,rfl,_,rfl,_,rfl,by show 3<=sizeLine;decide,λt ht=>?_⟩
    all_goals have sn:al l (upd l t (.tup [.str x,n,v])):=al.new ht
    all_goals exact q (.bin x c d) (ws.drop g).tail (by rw[u,aO ⟨hx,t1,t3⟩]) _ _ (g+1) (S.trans (Rw.same sn)) (R5.same sn) dt (zH ak (j4 O) (ra.same sn) (D.same sn) rfl rfl)
   ·rintro j H'⟨rfl,rfl,n2⟩;rw[aG n2]at u;exact⟨_,rfl,.inl ⟨_,rfl,O.repS,_,rfl,O.rep,_,rfl,Qk,by show 1<=sizeLine;decide,J u _ S⟩⟩
theorem B6:bD ["row","room","word","number"] ["row","room","word"] (aU s_read_from_number):=⟨rfl,rfl,rfl,Qk,rfl,Qk,Qk⟩
theorem G9{f:Addr}{fd:FuncData}(F:fg K "read_from_number" "read_from_number" s_read_from_number f fd)(T:dF K mg)(W:qC P w K mg C)(B:yL K mg ct)(hL:5<=L)(mt:kR P w K mg base 2 C "take" ["self"] (iO C Z))(mc:kR P w K mg base 1 C "coming" ["self"] (jT C Z))
  (D:dE P w K mg base 2 "read_number" ["text","most_figures"] (xC ct))(V:dE P w K mg base L "read_whole_term" ["row","room"] (uB C ct Z m)):FnOk P w K mg base (kS P w) (L+1) f fd ["row","room","word"] (Gy C ct Z m):=by
 refine F.okX B6 (λvs H Q E h=>?_) (λJ A outer s H vs Q E l k h=>?_)
 ·obtain⟨x,_,r,dx,a,ws,i,rfl,_⟩:=h;rfl
 ·obtain⟨x,o,r,dx,a,ws,i,rfl,R,ok,q,p⟩:=h;have N:cF 1 _:=l.mono Qo;have y:cF 2 _:=l.mono Qo;refine⟨_,(aw (aY (i:=3) B6.nd rfl (aN rfl) (cz D k y Qr (aa (pv 2) (aa (cN T.mostF Qr) ac))))
   (aw (bA (aI fc (dM (pv 0) W.cl mc N) ad (aS _)) (am (aR (cM (aa ad (aa (pv 3) ac))))) aW)
   (aw (dJ (dM (pv 0) W.cl mt y))
   (aw (bA (aI jn (pv 3) ai (aS _)) (am (fi k rfl Qr B.mt B.ex bG (aa (fB (bO (gk (pv 2)) (bO ad gI)) Qd) ac))) aW)
   (am (aR (cM (aa ad (aa (pv 3) (aa (cz V k l Qr (aa (pv 0) (aa (aF gX (pv 1) ai) ac))) ac)))))))))),?_⟩
  refine⟨_,rfl,x,rfl,o,λj H1 s1=>?_,λj H1 s1=>p (by unfold Cj km;rw[j];rfl) _ (Rw.same s1)⟩;have b:Cj (bx m) x (ws.drop i)=if hd (ws.drop i)≠"*"then some (.num (i_ x.cps.toList),ws.drop i)else if i_ x.cps.toList<0 then none else(gx (bx m) (ws.drop (i+1))).map λq=>(.tim (i_ x.cps.toList) q.1,q.2):=by
   unfold Cj km;rw[aO j,dj ws i];rfl
  generalize i_ x.cps.toList=n at b;have c:=R.same s1;refine⟨_,rfl,r,dx,_,rfl,c.row,vV a i,r,dx,a,ws,i,rfl,c,rfl,_,rfl,eG (λh=>?_) (λh=>?_)⟩
  ·refine⟨_,rfl,by show 2<=sizeLine;decide,λt u=>?_⟩;have sn:al H1 (upd H1 t (.tup [.str "number",.int n])):=al.new u;exact q (.num n) (ws.drop i) (by rw[b,aO (vP h)]) _ _ i (Rw.same (s1.trans sn)) (c.same sn) rfl (iQ (n:=2) ak (.cons (gm Qk) (.cons xO .nil)))
  ·rw[aG (λz=>z (vQ h))]at b;refine⟨_,rfl,r,dx,_,rfl,c.row,ma a i,r,dx,a,ws,i,rfl,c,?_⟩;have R2:=c.next (i+1);have g:Rw r H (upd H1 r (.ins C dx (dm a (i+1)))):=(Rw.same s1).trans (Rw.upd _ _ _);generalize upd H1 r (.ins C dx (dm a (i+1)))=H2 at R2 g;refine⟨_,rfl,_,_,rfl,rfl,_,rfl,eG (λh2=>?_) (λh2=>?_)⟩
   ·refine⟨_,rfl,.inl ⟨_,rfl,o.len,_,rfl,af o.1 Qd,_,rfl,Qk,by show 1<=sizeLine;decide,p ?_ _ g⟩⟩;rw[b,aO (bb h2)]
   ·rw[aG (λz=>h2 (aH z))]at b;refine⟨_,rfl,_,rfl,_,rfl,_,_,rfl,rfl,r,dx,a,ws,i+1,ju r m,R2,ok,λX G S O v M Y U I d=>⟨by show 3<=sizeLine;decide,λt u=>?_⟩,λe H' s'=>p (by rw[b,e];rfl) _ (g.trans s')⟩;have sn:al v (upd v t (.tup [.str "times",.int n,O])):=al.new u;exact q (.tim n X) G (by rw[b,S];rfl) _ _ M (g.trans (Y.trans (Rw.same sn))) (U.same sn) I (EB ak (d.same sn))
end
theorem Jm{x:Str}{n:Nat}(h:nb x=some n):n<=3:=by
 unfold nb at h
 repeat' split at h
 all_goals first|(cases h;done)|(injection h with h;omega)
theorem EF{n:Nat}{l:List Str}{w:Str}{k:Nat}{a:List Str}{b:List Str}(c:k<n)(h:(kO n l).map (λq=>(Cl.nm w q.1,q.2))=(kO (n-k) b).map λq=>(Cl.nm w (a++q.1),q.2)):
  (kO n l).map (λq=>(Cl.nm w q.1,q.2))=(rName b).bind λp=>(kO (n-(k+1)) p.2).map λq=>(Cl.nm w ((a++[p.1])++q.1),q.2):=by
 rw[h,show n-k=(n-(k+1))+1 by omega];show((rName b).bind λq=>(kO (n-(k+1)) q.2).map λp=>(q.1::p.1,p.2)).map _=_;cases rName b with
 |none=>rfl
 |some p=>
  show((kO (n-(k+1)) p.2).map _).map _=(kO (n-(k+1)) p.2).map _;cases kO (n-(k+1)) p.2 with
  |none=>rfl
  |some q=>
   show some _=some _;simp
section
variable{P:Program}{w:World}{K:ah}{mg:Str->Option Value}{base:Heap}{C ct:Addr}{Z:Addr->Prop}{L m:Nat}
theorem B7:bD ["row","room","word"] ["row","room"] (aU s_read_first):=⟨rfl,rfl,rfl,Qk,rfl,Qk,Qk⟩
theorem G_{f:Addr}{fd:FuncData}(F:fg K "read_first" "read_first" s_read_first f fd)(T:dF K mg)(b:yL K mg ct):FnOk P w K mg base (kS P w) 6 f fd ["row","room"] (pA C ct Z 0):=by
 refine F.okX B7 (λvs H Q E h=>?_) (λc A outer s H vs Q E g d h=>?_)
 ·obtain⟨r,dx,a,ws,i,rfl,_⟩:=h;rfl
 ·obtain⟨r,dx,a,ws,i,rfl,R,ok,q,e⟩:=h;refine⟨_,(aw (bA (aI b4 (pv 1) ai (aS _)) (am (fi d rfl Qr b.mt b.ex bG (aa (fB (bO ad (bO (gk (cN T.deep Qr)) (bO ad gI))) Qd) ac))) aW)
   (aw gi
   (aw gi
   (aw gi
   (aw gi
   (aw gi
   (aw gi
   (aw gi
   (aw gi
   (aw gi
   (am gi))))))))))),?_⟩
  refine⟨_,rfl,rfl,_,rfl,eT ⟨_,rfl,Qk,.inr ⟨12,rfl,Qk,_,rfl,Qk,_,rfl,Qk,by show 1<=sizeLine;decide,e rfl _ (Rw.refl _ _)⟩⟩⟩
theorem Ja{f:Addr}{fd:FuncData}(F:fg K "read_first" "read_first" s_read_first f fd)(T:dF K mg)(W:qC P w K mg C)(R0:yL K mg ct)(hL:5<=L)(mt:kR P w K mg base 2 C "take" ["self"] (iO C Z))(xe:dE P w K mg base 3 "read_name" ["row"] (fU C ct Z [] rName yK))
  (cc:dE P w K mg base 4 "read_cost" ["row"] (fU C ct Z [] jX (gO Z)))(cs:dE P w K mg base 5 "read_set" ["row"] (fU C ct Z [] ic (Bf Z)))(cw:dE P w K mg base L "read_whole_claim" ["row","room"] (w_ C ct Z m))(co:dE P w K mg base L "read_over_places" ["row","room","word"] (xB C ct Z m))
  (c2:dE P w K mg base L "read_of_two" ["row","room","word"] (BP C ct Z m))(cb:dE P w K mg base L "read_bracket" ["row","room"] (Gz C ct Z m))(cf:dE P w K mg base L "read_from_number" ["row","room","word"] (Gy C ct Z m)):FnOk P w K mg base (kS P w) (L+1) f fd ["row","room"] (pA C ct Z (m+1)):=by
 have xb:List.Nodup (["number","row"]:List Str):=Qk;obtain⟨da,xj,mn,kd,k1,k2⟩:=W.nbD;refine F.okX B7 (λvs H Q E h=>?_) (λxh A outer s H vs Q E S M h=>?_)
 ·obtain⟨r,dx,a,ws,i,rfl,_⟩:=h;rfl
 ·obtain⟨r,dx,a,ws,i,rfl,R,ok,q,qE⟩:=h;have r2:cF 2 _:=S.mono Qo;have r3:cF 3 _:=S.mono Qo;have r4:cF 4 _:=S.mono Qo;have r5:cF 5 _:=S.mono Qo;refine⟨_,(aw (bA (aI b4 (pv 1) ai (aS _)) (am (fi M rfl Qr R0.mt R0.ex bG (aa (fB (bO ad (bO (gk (cN T.deep Qr)) (bO ad gI))) Qd) ac))) aW)
   (aw (aY (i:=2) B7.nd rfl (aN rfl) (dM (pv 0) W.cl mt r2))
   (aw (bA (sL (xP Qr mn kd (pv 2))) (am (aR (aF E1 (cM (aa (pv 2) ac)) (d9 (vX K Qr rfl) Qr T.tuple tL (aa (Cy (N:=["number","row"]) (xs:=1) (js:=[0]) wT rfl (dD rfl) (iC rfl T.range (aa (EV Qr mn kd (pv 2) (λ_ _=>Qr)) ac)) (λ_ _ _ _=>db (i:=0) xb rfl (aN rfl)) (λ_ _ _ _=>jI) (λ_ _ _ _=>pR xe r3 Qr (aa (pv 1) ac))) ac))))) aW)
   (aw (bA (aI b4 (pv 2) ad (aS _)) (am (aR (cz cc M r4 Qr (aa (pv 0) ac)))) aW)
   (aw (bA (aI b4 (pv 2) ad (aS _)) (am (aR (cM (aa (pv 2) (aa (cz cw M S Qr (aa (pv 0) (aa (aF gX (pv 1) ai) ac))) ac))))) aW)
   (aQ (bA (PW.pt (eQ (aI b4 (pv 2) ad (aS _)) (dU (aI b4 (pv 2) ad (aS _))))) (am (aR (cz co M S Qr (aa (pv 0) (aa (pv 1) (aa (pv 2) ac)))))) aW)
   (aw (bA (aI b4 (pv 2) ad (aS _)) (am (aR (cM (aa (pv 2) (aa (cz cs M r5 Qr (aa (pv 0) ac)) ac))))) aW)
   (aw (bA (aI b4 (pv 2) ad (aS _)) (am (aR (cM (aa (pv 2) (aa (cz cs M r5 Qr (aa (pv 0) ac)) (aa (cz cs M r5 Qr (aa (pv 0) ac)) ac)))))) aW)
   (aQ (bA (PW.pt (eQ (aI b4 (pv 2) ad (aS _)) (dU (aI b4 (pv 2) ad (aS _))))) (am (aR (cz c2 M S Qr (aa (pv 0) (aa (pv 1) (aa (pv 2) ac)))))) aW)
   (aw (bA (aI b4 (pv 2) ad (aS _)) (am (aR (cz cb M S Qr (aa (pv 0) (aa (pv 1) ac))))) aW)
   (am (aR (cz cf M S Qr (aa (pv 0) (aa (pv 1) (aa (pv 2) ac)))))))))))))))),?_⟩
  refine⟨_,rfl,rfl,_,rfl,bn (aP (λz=>by injection z with z;omega)) ?_⟩;have hX:=ok.hd i;refine⟨_,rfl,r,dx,_,rfl,R.row,ma a i,r,dx,a,ws,i,rfl,R,?_⟩;have R1:=R.next (i+1);have s1:Rw r H (upd H r (.ins C dx (dm a (i+1)))):=Rw.upd _ _ _;generalize upd H r (.ins C dx (dm a (i+1)))=H1 at R1 s1;have q':∀x l',firstOf (bx m) (ws.drop i)=some (x,l')->∀v H' B,Rw r H H'->ge C Z H' r dx a ws B->ws.drop B=l'->gO Z H' v x->Q v H':=q;have G:firstOf (bx m) (ws.drop i)=none->∀H',Rw r H H'->E (.ref ct) none H':=qE;clear q qE;have j:∀{rest:List V}{rf:lG},firstOf (bx m) (ws.drop i)=rf (ws.drop (i+1))->fU C ct Z rest rf (gO Z) (.ref r::rest) H1 Q E:=λe=>
   ⟨r,dx,a,ws,i+1,rfl,R1,ok,λx l' e' v H' B s' R' d' xa=>q' x l' (by rw[e];exact e') v H' B (s1.trans s') R' d' xa,λe' H' s'=>G (by rw[e];exact e') _ (s1.trans s')⟩
  have dt:=dj ws i;refine⟨_,rfl,Sum.inr (hd (ws.drop i)),rfl,_,rfl,?_⟩;rw[k1];cases hnb:nb (hd (ws.drop i))with
  |some n=>
   have b:=Ds (f:=bx m) hnb;rw[<-dt]at b;rw[b]at q' G;clear b j;generalize hd (ws.drop i)=x at*;have xi:=Jm hnb;obtain⟨u,hu,ru⟩:=k2 x n hnb;refine eT ⟨_,rfl,by show 1<=sizeLine;decide,λt O=>?_⟩;have tr:t≠r:=λz=>by rw[z,R1.row]at O;cases O
   have R2:ge C Z (upd H1 t (.tup [.str x])) r dx a ws (i+1):=R1.same (al.new O);have s2:Rw r H (upd H1 t (.tup [.str x])):=s1.trans (Rw.same (al.new O));have g2:(upd H1 t (.tup [.str x])) t=some (.tup [.str x]):=ak;generalize upd H1 t (.tup [.str x])=H2 at R2 s2 g2;refine⟨_,rfl,Sum.inr x,.int (n:Int),u,rfl,hu,ru,(n:Int),rfl,Qo,Qo,ky (n:=(n:Int).toNat) (λk X d H'=>k<=n/\∃(ns:List Str)(B:Nat)(o:Option V),X=ns.map V.str/\ns.length=k/\Rw r H H'/\ge C Z H' r dx a ws B/\H' t=some (.tup [.str x])/\
     (kO n (ws.drop (i+1))).map (λq=>(Cl.nm x q.1,q.2))=(kO (n-k) (ws.drop B)).map (λq=>(Cl.nm x (ns++q.1),q.2))/\d=[o,some (.ref r)]/\∀y∈ns,okN y=true)
    ⟨bV _,[],i+1,none,rfl,rfl,s2,R2,g2,rfl,rfl,λ_ z=>nomatch z⟩ (λk X d H' h=>?_) (af (show(n:Int).toNat<=3 by omega) Qd) (λk X d H' hk h=>?_) (λX d H' h p hp=>?_)⟩
   ·obtain⟨_,ns,B,o,rfl,hl,_⟩:=h;rw[ay,hl];exact ao _
   ·obtain⟨_,ns,B,o,rfl,hl,I,J,g3,U,rfl,hy⟩:=h;have xf:k<n:=Qo;have e4:=EF xf U;refine⟨_,rfl,r,dx,a,ws,B,rfl,J,ok,λy l4 e5 v Y i4 D R4 d4 xa=>?_,λe5 Y D=>G (by rw[e4,e5];rfl) _ (I.trans D)⟩;cases xa;refine⟨Qo,ns++[y],i4,some (.int (0+(k:Int))),by rw[aT];rfl,by rw[ae,hl];rfl,I.trans D,R4,D t _ tr g3,?_,rfl,λz hz=>?_⟩
    ·rw[e4,e5,<-d4];rfl
    ·rcases bY.mp hz with hz|hz
     ·exact hy z hz
     ·have:z=y:=by simpa using hz
      rw[this];exact(iB e5).1
   ·obtain⟨_,ns,B,o,rfl,hl,I,J,g3,U,rfl,hy⟩:=h;have xd:ns.length=n:=Qo;have e4:(kO n (ws.drop (i+1))).map (λq=>(Cl.nm x q.1,q.2))=some (.nm x ns,ws.drop B):=by
     rw[U,show n-(n:Int).toNat=0 by omega];show some (Cl.nm x (ns++[]),ws.drop B)=_;rw[bq]
    refine .inl ⟨p,_,rfl,SqL.of ak,λl hl=>?_⟩;have sp:al H' (upd H' p (.lst (ns.map V.str))):=al.new hp;have sl:al (upd H' p (.lst (ns.map V.str))) (upd (upd H' p (.lst (ns.map V.str))) l (.tup (ns.map V.str))):=al.new hl;have gl:(upd (upd H' p (.lst (ns.map V.str))) l (.tup (ns.map V.str))) l=some (.tup (ns.map V.str)):=ak;have D:=sp.trans sl;generalize upd (upd H' p (.lst (ns.map V.str))) l (.tup (ns.map V.str))=Y at sl gl D;refine⟨t,l,_,_,rfl,rfl,SqT.of (D _ _ g3),SqT.of gl,b_ _ _,?_,λz=>?_,λz p2 xg=>?_⟩
    ·rw[ay,xd];exact af (show 1+n<=4 by omega) Qd
    ·have zn:ns=[]:=by simpa using z
     subst zn;exact q' _ _ e4 _ _ B (I.trans (Rw.same D)) (J.same D) rfl (Cf (D _ _ g3) (j4 hX) hy)
    ·have s5:al Y (upd Y p2 (.tup ([.str x]++ns.map V.str))):=al.new xg;exact q' _ _ e4 _ _ B (I.trans (Rw.same (D.trans s5))) (J.same (D.trans s5)) rfl (Cf ak (j4 hX) hy)
  |none=>
   have b:=yB (f:=bx m) hnb;rw[<-dt]at b;generalize hd (ws.drop i)=x at*;refine eZ ⟨_,rfl,rfl,_,rfl,eG (λh=>⟨_,rfl,j (rest:=[]) (by rw[b,aO (hV h)])⟩) (λh1=>?_)⟩;have h1:=io h1;rw[aG h1]at b;refine⟨_,rfl,rfl,_,rfl,eG (λh=>?_) (λh2=>?_)⟩
   ·have h:=hV h;rw[aO h]at b;refine⟨_,rfl,_,rfl,_,rfl,_,_,rfl,rfl,r,dx,a,ws,i+1,ju r m,R1,ok,λc l3 U v3 H3 i3 I J d3 g=>⟨by show 2<=sizeLine;decide,λt O=>?_⟩,λe H' s'=>G (by rw[b,e];rfl) _ (s1.trans s')⟩;have sn:al H3 (upd H3 t (.tup [.str x,v3])):=al.new O;exact q' (.neg c) l3 (by rw[b,U];rfl) _ _ i3 (s1.trans (I.trans (Rw.same sn))) (J.same sn) d3 (EC (by rw[ak,h]) (g.same sn))
   have h2:=io h2;rw[aG h2]at b;refine⟨λd H'=>d=[some (V.ref r),some (V.int ((m+1:Nat):Int)),some (V.str x)]/\H'=H1/\¬(x="each"\/x="some"),?_,?_⟩
   ·refine⟨_,rfl,rfl,_,rfl,eG (λh=>eT ⟨_,rfl,_,rfl,_,rfl,x,.inl (hV h),j (by rw[b,aO (.inl (hV h))])⟩) (λh3=>⟨_,rfl,rfl,_,rfl,eG (λh=>⟨_,rfl,_,rfl,_,rfl,x,.inr (hV h),j (by rw[b,aO (.inr (hV h))])⟩) (λh4=>⟨rfl,rfl,λz=>z.elim (io h3) (io h4)⟩)⟩)⟩
   rintro d H1⟨rfl,rfl,h3⟩;rw[aG h3]at b;refine⟨_,rfl,rfl,_,rfl,eG (λh=>?_) (λh4=>?_)⟩
   ·have h:=hV h;rw[aO h]at b;refine⟨_,rfl,_,rfl,r,dx,a,ws,i+1,rfl,R1,ok,λc l3 U v3 H3 i3 I J d3 g=>⟨by show 2<=sizeLine;decide,λt O=>?_⟩,λe H' s'=>G (by rw[b,e];rfl) _ (s1.trans s')⟩;have sn:al H3 (upd H3 t (.tup [.str x,v3])):=al.new O;refine q' (.size c) l3 (by rw[b,U];rfl) _ _ i3 (s1.trans (I.trans (Rw.same sn))) (J.same sn) d3 (iQ (n:=2) (ak) ?_);have e9:("size":Str)=x:=h.symm;rw[e9];exact .cons (gm (j4 hX)) (.cons (PDF.same sn g) .nil)
   have h4:=io h4;rw[aG h4]at b;refine⟨_,rfl,rfl,_,rfl,eG (λh=>?_) (λh5=>?_)⟩
   ·have h:=hV h;rw[aO h]at b;refine⟨_,rfl,_,rfl,r,dx,a,ws,i+1,rfl,R1,ok,λc l3 U v3 H3 i3 I J d3 g=>?_,λe H' s'=>G (by rw[b,e];rfl) _ (s1.trans s')⟩;subst d3;have e6:firstOf (bx m) (ws.drop i)=(ic (ws.drop i3)).map λp=>(.pairs c p.1,p.2):=by
     rw[b,U];rfl
    refine⟨_,rfl,r,dx,a,ws,i3,rfl,J,ok,λc4 l4 e4 v4 Y i4 D R4 d4 xc=>⟨by show 3<=sizeLine;decide,λt O=>?_⟩,λe H' s'=>G (by rw[e6,e];rfl) _ (s1.trans (I.trans s'))⟩;have sn:al Y (upd Y t (.tup [.str x,v3,v4])):=al.new O;refine q' (.pairs c c4) l4 (by rw[e6,e4];rfl) _ _ i4 (s1.trans (I.trans (D.trans (Rw.same sn)))) (R4.same sn) d4 (iQ (n:=2) (ak) ?_);have e9:("pairs":Str)=x:=h.symm;rw[e9];exact .cons (gm (j4 hX)) (.cons (PDF.same sn (D.pd J.row g)) (.cons (PDF.same sn xc) .nil))
   have h5:=io h5;rw[aG h5]at b;refine⟨λd H'=>d=[some (V.ref r),some (V.int ((m+1:Nat):Int)),some (V.str x)]/\H'=H1/\¬(x="least"\/x="most"),?_,?_⟩
   ·refine⟨_,rfl,rfl,_,rfl,eG (λh=>eT ⟨_,rfl,_,rfl,_,rfl,x,.inl (hV h),j (by rw[b,aO (.inl (hV h))])⟩) (λh3=>⟨_,rfl,rfl,_,rfl,eG (λh=>⟨_,rfl,_,rfl,_,rfl,x,.inr (hV h),j (by rw[b,aO (.inr (hV h))])⟩) (λh4=>⟨rfl,rfl,λz=>z.elim (io h3) (io h4)⟩)⟩)⟩
   rintro d H1⟨rfl,rfl,h6⟩;rw[aG h6]at b;refine⟨_,rfl,rfl,_,rfl,eG (λh=>⟨_,rfl,_,rfl,j (by rw[b,aO (hV h)])⟩) (λh7=>?_)⟩;have h7:=io h7;rw[aG h7]at b;exact⟨_,rfl,_,rfl,_,rfl,x,hX,j b⟩
end
theorem CA{b c:Type}{F:b->c->Prop}{xs:List b}{a:c}(h:Paired F xs [a]):∃x,xs=[x]/\F x a:=by
 cases h with
 |cons p t=>cases t;exact⟨_,rfl,p⟩
theorem lp{c d:Type}{F:c->d->Prop}{xs:List c}{a b:d}(h:Paired F xs [a,b]):∃x y,xs=[x,y]/\F x a/\F y b:=by
 cases h with
 |cons p t=>obtain⟨y,rfl,q⟩:=CA t;exact⟨_,_,rfl,p,q⟩
theorem j0{d e:Type}{F:d->e->Prop}{xs:List d}{a b c:e}(h:Paired F xs [a,b,c]):∃x y z,xs=[x,y,z]/\F x a/\F y b/\F z c:=by
 cases h with
 |cons p t=>obtain⟨y,z,rfl,q⟩:=lp t;exact⟨_,_,_,rfl,p,q⟩
theorem zO{e f:Type}{F:e->f->Prop}{xs:List e}{a b c d:f}(h:Paired F xs [a,b,c,d]):∃x y z u,xs=[x,y,z,u]/\F x a/\F y b/\F z c/\F u d:=by
 cases h with
 |cons p t=>obtain⟨y,z,u,rfl,q⟩:=j0 t;exact⟨_,_,_,_,rfl,p,q⟩
theorem jd{H:Hp}{n:Nat}:∀{ns:List Str}{xs:List V},Paired (PD H n) xs (ns.map PyData.str)->xs=ns.map V.str
 |[],_,h=>by cases h;rfl
 |x::r,_,h=>by
  cases h with
  |cons p t=>rw[p.str_is,jd t];rfl
theorem nk(z:Str):∀l:List Str,l≠ []->(Str.join z l).length +z.length=(l.map (·.length)).sum +l.length*z.length
 |[],h=>absurd rfl h
 |[x],_=>by rw[cV];simp
 |x::y::l,_=>by
  have a:=nk z (y::l) (b_ _ _);rw[cC,ag,ag,b7,gF,aK,Nat.add_mul,Nat.one_mul];omega
theorem iE{z:Str}{l:List Str}{n:Nat}(b:1<=z.length)(a:z.length<=2)(h:(Str.join z l).length<=n):(l.map (·.length)).sum +l.length<=n+2:=by
 cases l with
 |nil=>exact bV _
 |cons x r=>
  have e:=nk z (x::r) (b_ _ _);have:(x::r).length *1<=(x::r).length *z.length:=Gd _ b;omega
theorem jv:(" ":Str).length=1:=Qk
theorem zZ:(", ":Str).length=2:=Qk
theorem oW(c:Cl):1<=dep c:=by
 cases c<;>first|exact ao _|(unfold dep;omega)
theorem oq{w x:Str}{n:Nat}(h:nb w=some n)(a:nb x=none):w≠x:=λz=>by rw[z,a]at h;cases h
theorem ik{n:Int}(h:qP n):n.natAbs.log2<1920:=by
 have:=Fj h.1;rw[h.2]at this;exact this
def qW:Sp:=λvs H Q _=>∃(v:V)(k:Nat)(s:Ks),vs=[v]/\PD H k v (datK s)/\tU s/\(ir s).length<=40000/\Q (.str (ir s)) H
def qV(n:Nat):Sp:=λvs H Q _=>∃(v:V)(k:Nat)(c:Cl),vs=[v]/\PD H k v (dat c)/\wf c/\dY c=true/\dep c<=n/\(tx c).length<=40000/\∀H',al H H'->Q (.str (tx c)) H'
def uD(n:Nat):Sp:=λvs H Q _=>∃(v:V)(k:Nat)(c:Cl),vs=[v]/\PD H k v (dat c)/\wf c/\dY c=false/\dep c<=n/\(tx c).length<=40000/\∀H',al H H'->Q (.str (tx c)) H'
theorem fh{x y:Str}(h:x≠y):decide (V.str x=V.str y)=false:=aP λz=>h (by injection z)
theorem qy{x y:Str}(h:x=y):decide (V.str x=V.str y)=true:=aH (by rw[h])
section
variable{P:Program}{w:World}{K:ah}{mg:Str->Option Value}{base:Heap}{C ct:Addr}{n:Nat}
theorem GE:bD ["kind"] ["kind"] (aU s_show_set):=⟨rfl,rfl,rfl,Qk,rfl,Qk,Qk⟩
theorem G1{f:Addr}{fd:FuncData}(F:fg K "show_set" "show_set" s_show_set f fd):FnOk P w K mg base gW 1 f fd ["kind"] qW:=by
 refine F.ok GE (λvs H Q E h=>?_) (λt A outer s H vs Q E I h=>?_)
 ·obtain⟨v,k,c,rfl,_⟩:=h;rfl
 ·obtain⟨v,k,c,rfl,j,u,D,q⟩:=h;cases c with
  |all=>
   obtain⟨m,a,xs,rfl,rfl,d,e⟩:=j.tup_of;obtain⟨x,rfl,g⟩:=CA e;rw[g.str_is]at d;refine⟨_,(aw (bA (aI b4 (bE bB (pv 0) ai (λ_ _=>Qr)) ad (aS _)) re aW)
   (am (aR (dW aX bg bf jr ad (aa (pv 0) ac))))),?_⟩
   refine⟨_,rfl,a,_,_,_,rfl,rfl,SqT.of d,rfl,rfl,_,rfl,bn (fh Qk) ⟨rfl,_,rfl,_,a,["all"],rfl,rfl,SqT.of d,Qk,Qk,q⟩⟩
  |of x y=>
   obtain⟨m,a,xs,rfl,rfl,d,e⟩:=j.tup_of;obtain⟨C,G,rfl,g,p2⟩:=lp e;rw[g.str_is,p2.str_is]at d;refine⟨_,(aw (bA (aI b4 (bE bB (pv 0) ai (λ_ _=>Qr)) ad (aS _)) re aW)
   (am (aR (dW aX bg bf jr ad (aa (pv 0) ac))))),?_⟩
   have B:x≠"these":=by rcases u.1 with rfl|rfl<;>decide+kernel
   have hw:=iE (by rw[jv];decide) (by rw[jv];decide) (show(Str.join " " [x,y]).length<=40000 from D);refine⟨_,rfl,a,_,_,_,rfl,rfl,SqT.of d,rfl,rfl,_,rfl,bn (fh B) ⟨rfl,_,rfl,_,a,[x,y],rfl,rfl,SqT.of d,Qk,af hw Qd,q⟩⟩
  |these ns=>
   obtain⟨m,a,xs,rfl,rfl,d,e⟩:=j.tup_of;obtain⟨C,G,rfl,g,p2⟩:=lp e;rw[g.str_is]at d;obtain⟨m2,b,ys,rfl,rfl,p,o⟩:=p2.list_of;rw[jd o]at p;refine⟨_,(aw (bA (aI b4 (bE bB (pv 0) ai (λ_ _=>Qr)) ad (aS _)) (am (aR (aF aM (aF aM ad (dW aX bg bf fQ ad (aa (bE bB (pv 0) ai (λ_ _=>Qr)) ac))) ad))) aW)
   (am gi)),?_⟩
   have i:("{":Str).length +(Str.join ", " ns).length +("}":Str).length<=40000:=by
    have:(ir (.these ns)).length=("{":Str).length +(Str.join ", " ns).length +("}":Str).length:=by
     show((("{":Str)++Str.join ", " ns)++("}":Str)).length=_;rw[ag,ag]
    omega
   have hw:=iE (z:=", ") (l:=ns) (n:=40000) (by rw[zZ];decide) (by rw[zZ];decide) Qo;refine⟨_,rfl,a,_,_,_,rfl,rfl,SqT.of d,rfl,rfl,_,rfl,fO (qy rfl) ⟨rfl,_,rfl,a,_,_,_,rfl,rfl,SqT.of d,rfl,_,b,ns,rfl,rfl,SqL.of p,Qk,af hw Qd,_,_,rfl,rfl,af (show _<=40000 by omega) Qd,_,_,rfl,rfl,?_,q⟩⟩;rw[ag];exact af i Qd
end
section
variable{P:Program}{w:World}{K:ah}{mg:Str->Option Value}{base:Heap}{C ct:Addr}{n:Nat}
theorem pG:bD ["term","word","first","second"] ["term"] (aU s_show_term):=⟨rfl,rfl,rfl,Qk,rfl,Qk,Qk⟩
theorem E4{f:Addr}{fd:FuncData}(F:fg K "show_term" "show_term" s_show_term f fd):FnOk P w K mg base gW 2 f fd ["term"] (qV 0):=by
 refine F.ok pG (λvs H Q E h=>?_) (λa A outer s H vs Q E b h=>?_)
 ·obtain⟨v,k,c,rfl,_⟩:=h;rfl
 ·obtain⟨v,k,c,rfl,_,_,_,hd,_⟩:=h;have:=oW c;omega
theorem k_:∀{l:List Str}{x:Str}{n:Nat},(Str.join " " l).length<=n->x∈l->x.length<=n:=λ{l x n}h a=>by
 have e:=nk " " l (λz=>by rw[z]at a;cases a);rw[jv]at e;have h2:x.length<=(l.map (·.length)).sum:=by
  clear e h;induction l with
  |nil=>cases a
  |cons y r b=>
   rw[b7,gF];rcases aq.mp a with rfl|a
   ·omega
   ·have:=b a;omega
 have:1<=l.length:=List.length_pos_of_mem a;omega
theorem G0{f:Addr}{fd:FuncData}(F:fg K "show_term" "show_term" s_show_term f fd)(T:dF K mg)(W:qC P w K mg C)(cs:dk P w K mg base 1 "show_set" ["kind"] qW)(ct:dk P w K mg base (n+2) "show_term" ["term"] (qV n)):FnOk P w K mg base gW (n+3) f fd ["term"] (qV (n+1)):=by
 have xf:List.Nodup (["kind"]:List Str):=Qk;obtain⟨da,xi,mn,kd,k1,k2⟩:=W.nbD;refine F.ok pG (λvs H Q E h=>?_) (λxh A outer s H vs Q E hr h=>?_)
 ·obtain⟨v,k,c,rfl,_⟩:=h;rfl
 ·obtain⟨v,k,c,rfl,pd,z,ht,hd,hl,q⟩:=h;have r1:cF 1 _:=hr.mono Qo;refine⟨_,(aw (aY (i:=1) pG.nd rfl (aN rfl) (bE bB (pv 0) ai (λ_ _=>Qr)))
   (aw (bA (aI b4 (pv 1) ad (aS _)) (am (aR (d9 eJ Qr T.str mj (aa (bE bB (pv 0) ai (λ_ _=>Qr)) ac)))) aW)
   (aw (bA (PW.pt (eQ (aI b4 (pv 1) ad (aS _)) (dU (aI b4 (pv 1) ad (aS _))))) (am (aR (dW aX bg bf fQ ad (aa (aF eR (cA (aa (pv 1) ac)) (kq (N:=["kind"]) (xs:=1) (js:=[]) rfl (dD rfl) (xM (bM ss (pv 0) (bi ai) fj)) (λ_ _ _ _=>db (i:=0) xf rfl (aN rfl)) (λ_ _ _ _=>jI) (λ_ _ _ _=>aJ cs r1 Qr (aa (pv 0) ac)))) ac)))) aW)
   (aw (bA (sL (xP Qr mn kd (pv 1))) (am (aR (dW aX bg bf jr ad (aa (pv 0) ac)))) aW)
   (aw (bA (aI b4 (pv 1) ad (aS _)) (am (aR (aF aM (aF aM (d9 eJ Qr T.str mj (aa (bE bB (pv 0) ai (λ_ _=>Qr)) ac)) ad) (aJ ct hr Qr (aa (bE bB (pv 0) ai (λ_ _=>Qr)) ac))))) aW)
   (aw (aY (i:=2) pG.nd rfl (aN rfl) (aJ ct hr Qr (aa (bE bB (pv 0) ai (λ_ _=>Qr)) ac)))
   (aw (aY (i:=3) pG.nd rfl (aN rfl) (aJ ct hr Qr (aa (bE bB (pv 0) ai (λ_ _=>Qr)) ac)))
   (am (aR (pS (aI b4 (pv 1) ad (aS _)) (fB (bO ad (bO (gk (pv 2)) (bO ad (bO (gk (pv 3)) (bO ad gI))))) Qd) (fB (bO (gk (pv 1)) (bO ad (bO (gk (pv 2)) (bO ad (bO (gk (pv 3)) (bO ad gI)))))) Qd))))))))))),?_⟩
  cases c with
  |nm x ns=>
   obtain⟨m,a,xs,rfl,rfl,b,J⟩:=pd.tup_of;have ex:=jd (ns:=x::ns) J;subst ex;have h0:nb x=some ns.length:=z.1;have hw:=iE (by rw[jv];decide) (by rw[jv];decide) (show(Str.join " " (x::ns)).length<=40000 from hl);refine⟨_,rfl,a,_,_,_,rfl,rfl,SqT.of b,fE (j:=0) rfl,?_⟩;refine⟨_,rfl,rfl,_,rfl,bn (fh (oq h0 Qk)) ?_⟩;refine⟨_,rfl,rfl,_,rfl,bn (fh (oq h0 Qk)) ⟨_,rfl,rfl,_,rfl,bn (fh (oq h0 Qk)) ?_⟩⟩;refine⟨_,rfl,Sum.inr x,rfl,_,rfl,fO (by rw[k1,h0];rfl) ⟨rfl,_,rfl,_,a,x::ns,rfl,rfl,SqT.of b,Qk,af hw Qd,q H (al.refl _)⟩⟩
  |num i=>
   obtain⟨m,a,xs,rfl,rfl,b,J⟩:=pd.tup_of;obtain⟨v1,g,rfl,S,p2⟩:=lp J;rw[S.str_is,p2.int_of]at b;refine⟨_,rfl,a,_,_,_,rfl,rfl,SqT.of b,rfl,_,rfl,rfl,_,rfl,fO (qy rfl) ⟨_,rfl,a,_,_,_,rfl,rfl,SqT.of b,rfl,i,rfl,ik z,q H (al.refl _)⟩⟩
  |size k=>
   obtain⟨m,a,xs,rfl,rfl,b,J⟩:=pd.tup_of;obtain⟨v1,g,rfl,S,p2⟩:=lp J;rw[S.str_is]at b;have G:Paired (PD H m) [g] ([k].map datK):=(.cons p2 .nil);have R:∀s∈ [k],tU s:=λs hs=>by
    simp only[aq,a_,or_false]at hs;rw[hs];exact z
   have hj:(Str.join " " (("size":Str):: [k].map ir)).length<=40000:=hl;have Z:∀H',al H H'->Q (.str (Str.join " " (("size":Str):: [k].map ir))) H':=q;have D:([k]:List Ks).length<=2:=by show 1<=2;decide
   have B:[g].length=([k]:List Ks).length:=rfl;have Y:kQ (V.str "size":: [g]) (some 1) none=[g]:=rfl;have X:¬(HT.sIx (V.str "size":: [g]).length 0 (some 1)=0/\HT.sIx (V.str "size":: [g]).length (V.str "size":: [g]).length none=(V.str "size":: [g]).length):=by show¬(HT.sIx 2 0 (some 1)=0/\HT.sIx 2 2 none=2);decide
   refine⟨_,rfl,a,_,_,_,rfl,rfl,SqT.of b,rfl,?_⟩;refine⟨_,rfl,rfl,_,rfl,bn (fh Qk) ?_⟩;refine⟨_,rfl,rfl,_,rfl,fO (qy rfl) (eT ?_)⟩;generalize hks:[k]=ks at G R hj Z D B;generalize hvs:[g]=zs at G B b Y X;clear hks hvs;have hw:=iE (by rw[jv];decide) (by rw[jv];decide) hj;refine⟨rfl,_,rfl,by show 1<=sizeLine;decide,λl xa=>?_⟩;have s1:al H (upd H l (.lst [.str "size"])):=al.new xa;have g1:(upd H l (.lst [.str "size"])) l=some (.lst [.str "size"]):=ak;generalize upd H l (.lst [.str "size"])=H1 at s1 g1;refine⟨_,rfl,_,rfl,a,_,rfl,SqT.of (s1 _ _ b),X,λp hp=>?_⟩;rw[Y];have L:al H1 (upd H1 p (.tup zs)):=al.new hp;have g2:(upd H1 p (.tup zs)) p=some (.tup zs):=ak;generalize upd H1 p (.tup zs)=H2 at L g2;refine⟨p,rfl,⟨_,SqT.of g2⟩,lD (K:=K) (ys:=zs) (λi y u H'=>al H2 H'/\y=(ks.take i).map (λd=>V.str (ir d))/\∃o,u=[o])
    ⟨al.refl _,rfl,none,rfl⟩ (λi y u H' h=>?_) (by rw[B];exact af D Qd) (λi y u H' _ h=>SqT.of (h.1 _ _ g2)) (λi x y u H' hx h=>?_) (λy u H' h p2 xe=>?_)⟩
   ·rw[h.2.1,ay,bT];omega
   ·obtain⟨U,rfl,o,rfl⟩:=h;obtain⟨d,t,xb⟩:=jm G hx;rw[cE]at t;cases e:ks[i]? with
    |none=>rw[e]at t;cases t
    |some c0=>
     rw[e]at t;cases t;refine⟨_,rfl,x,m,c0,rfl,xb.same (s1.trans (L.trans U)),R c0 (bR e),k_ hj (aB _ (fZ (bR e))),U,?_,_,rfl⟩;rw[dP,e,aT];rfl
   ·obtain⟨U,rfl,o,rfl⟩:=h;have et:ks.take zs.length=ks:=bW (by rw[B];exact ao _);rw[et];have s4:al H' (upd H' p2 (.lst (ks.map λd=>V.str (ir d)))):=al.new xe;refine⟨l,p2,_,_,rfl,rfl,s4 _ _ (U _ _ (L _ _ g1)),ak,?_,λO xc=>?_⟩
    ·rw[ay];exact af (show 1+ks.length<=3 by omega) Qd
    refine⟨_,O,("size":Str)::ks.map ir,rfl,rfl,SqL.of (by rw[ak,b7,fM];rfl),Qk,af hw Qd,?_⟩;exact Z _ (s1.trans (L.trans (U.trans (s4.upd xc))))
  |pairs k j=>
   obtain⟨m,a,xs,rfl,rfl,b,J⟩:=pd.tup_of;obtain⟨v1,g,I,rfl,S,p2,O⟩:=j0 J;rw[S.str_is]at b;have G:Paired (PD H m) [g,I] ([k,j].map datK):=(.cons p2 (.cons O .nil));have R:∀s∈ [k,j],tU s:=λs hs=>by
    simp only[aq,a_,or_false]at hs;rcases hs with rfl|rfl;exact z.1;exact z.2
   have hj:(Str.join " " (("pairs":Str):: [k,j].map ir)).length<=40000:=hl;have Z:∀H',al H H'->Q (.str (Str.join " " (("pairs":Str):: [k,j].map ir))) H':=q;have D:([k,j]:List Ks).length<=2:=by show 2<=2;decide
   have B:[g,I].length=([k,j]:List Ks).length:=rfl;have Y:kQ (V.str "pairs":: [g,I]) (some 1) none=[g,I]:=rfl;have X:¬(HT.sIx (V.str "pairs":: [g,I]).length 0 (some 1)=0/\HT.sIx (V.str "pairs":: [g,I]).length (V.str "pairs":: [g,I]).length none=(V.str "pairs":: [g,I]).length):=by show¬(HT.sIx 3 0 (some 1)=0/\HT.sIx 3 3 none=3);decide
   refine⟨_,rfl,a,_,_,_,rfl,rfl,SqT.of b,rfl,?_⟩;refine⟨_,rfl,rfl,_,rfl,bn (fh Qk) ?_⟩;refine⟨_,rfl,rfl,_,rfl,bn (fh Qk) ⟨_,rfl,rfl,_,rfl,fO (qy rfl) ?_⟩⟩;generalize hks:[k,j]=ks at G R hj Z D B;generalize hvs:[g,I]=zs at G B b Y X;clear hks hvs;have hw:=iE (by rw[jv];decide) (by rw[jv];decide) hj;refine⟨rfl,_,rfl,by show 1<=sizeLine;decide,λl xa=>?_⟩;have s1:al H (upd H l (.lst [.str "pairs"])):=al.new xa;have g1:(upd H l (.lst [.str "pairs"])) l=some (.lst [.str "pairs"]):=ak;generalize upd H l (.lst [.str "pairs"])=H1 at s1 g1;refine⟨_,rfl,_,rfl,a,_,rfl,SqT.of (s1 _ _ b),X,λp hp=>?_⟩;rw[Y];have L:al H1 (upd H1 p (.tup zs)):=al.new hp;have g2:(upd H1 p (.tup zs)) p=some (.tup zs):=ak;generalize upd H1 p (.tup zs)=H2 at L g2;refine⟨p,rfl,⟨_,SqT.of g2⟩,lD (K:=K) (ys:=zs) (λi y u H'=>al H2 H'/\y=(ks.take i).map (λd=>V.str (ir d))/\∃o,u=[o])
    ⟨al.refl _,rfl,none,rfl⟩ (λi y u H' h=>?_) (by rw[B];exact af D Qd) (λi y u H' _ h=>SqT.of (h.1 _ _ g2)) (λi x y u H' hx h=>?_) (λy u H' h p2 xe=>?_)⟩
   ·rw[h.2.1,ay,bT];omega
   ·obtain⟨U,rfl,o,rfl⟩:=h;obtain⟨d,t,xb⟩:=jm G hx;rw[cE]at t;cases e:ks[i]? with
    |none=>rw[e]at t;cases t
    |some c0=>
     rw[e]at t;cases t;refine⟨_,rfl,x,m,c0,rfl,xb.same (s1.trans (L.trans U)),R c0 (bR e),k_ hj (aB _ (fZ (bR e))),U,?_,_,rfl⟩;rw[dP,e,aT];rfl
   ·obtain⟨U,rfl,o,rfl⟩:=h;have et:ks.take zs.length=ks:=bW (by rw[B];exact ao _);rw[et];have s4:al H' (upd H' p2 (.lst (ks.map λd=>V.str (ir d)))):=al.new xe;refine⟨l,p2,_,_,rfl,rfl,s4 _ _ (U _ _ (L _ _ g1)),ak,?_,λO xc=>?_⟩
    ·rw[ay];exact af (show 1+ks.length<=3 by omega) Qd
    refine⟨_,O,("pairs":Str)::ks.map ir,rfl,rfl,SqL.of (by rw[ak,b7,fM];rfl),Qk,af hw Qd,?_⟩;exact Z _ (s1.trans (L.trans (U.trans (s4.upd xc))))
  |tim i c=>
   obtain⟨m,a,xs,rfl,rfl,b,J⟩:=pd.tup_of;obtain⟨v1,g,I,rfl,S,p2,O⟩:=j0 J;rw[S.str_is,p2.int_of]at b;have xg:(numT i).length +3+(tx c).length<=40000:=by
    have:(tx (.tim i c)).length=(numT i).length +(" * ":Str).length +(tx c).length:=by
     show((numT i++(" * ":Str))++tx c).length=_;rw[ag,ag]
    have h3:(" * ":Str).length=3:=Qk;omega
   have xd:dep c<=n:=by
    have:1+dep c<=n+1:=hd;omega
   refine⟨_,rfl,a,_,_,_,rfl,rfl,SqT.of b,rfl,?_⟩;refine⟨_,rfl,rfl,_,rfl,bn (fh Qk) ?_⟩;refine⟨_,rfl,rfl,_,rfl,bn (fh Qk) ⟨_,rfl,rfl,_,rfl,bn (fh Qk) ?_⟩⟩;refine⟨_,rfl,Sum.inr _,rfl,_,rfl,bn (by rw[k1];decide+kernel) ?_⟩;refine⟨_,rfl,rfl,_,rfl,fO (qy rfl) ⟨_,rfl,a,_,_,_,rfl,rfl,SqT.of b,rfl,i,rfl,ik z.2.1,_,_,rfl,rfl,?_,_,rfl,a,_,_,_,rfl,rfl,SqT.of b,rfl,I,_,c,rfl,O,z.2.2.2,z.2.2.1,xd,Qo,λH1 s1=>⟨_,_,rfl,rfl,?_,q H1 s1⟩⟩⟩
   ·have h3:(" * ":Str).length=3:=Qk;exact af (show(numT i).length +(" * ":Str).length<=40000 by omega) Qd
   ·have h3:(" * ":Str).length=3:=Qk;rw[ag];exact af (show(numT i).length +(" * ":Str).length +(tx c).length<=40000 by omega) Qd
  |plus a0 M=>
   obtain⟨m,a,xs,rfl,rfl,b,J⟩:=pd.tup_of;obtain⟨v1,g,I,rfl,S,p2,O⟩:=j0 J;rw[S.str_is]at b;have xg:(tx a0).length +(tx M).length<=40000:=by
    have:(tx (.plus a0 M)).length=("(":Str).length +((tx a0).length +((" + ":Str).length +((tx M).length +((")":Str).length +Str.empty.length)))):=by
     show(("(":Str)++(tx a0++((" + ":Str)++(tx M++((")":Str)++Str.empty))))).length=_;rw[ag,ag,ag,ag,ag]
    omega
   have xd:1+max (dep a0) (dep M)<=n+1:=hd;refine⟨_,rfl,a,_,_,_,rfl,rfl,SqT.of b,rfl,?_⟩;refine⟨_,rfl,rfl,_,rfl,bn (fh Qk) ?_⟩;refine⟨_,rfl,rfl,_,rfl,bn (fh Qk) ⟨_,rfl,rfl,_,rfl,bn (fh Qk) ?_⟩⟩;refine⟨_,rfl,Sum.inr _,rfl,_,rfl,bn (by rw[k1];decide+kernel) ?_⟩;refine⟨_,rfl,rfl,_,rfl,bn (fh Qk) ⟨_,rfl,a,_,_,_,rfl,rfl,SqT.of b,rfl,g,_,a0,rfl,p2,z.2.2.1,z.1,Qo,Qo,λH1 s1=>⟨_,rfl,a,_,_,_,rfl,rfl,SqT.of (s1 _ _ b),rfl,I,_,M,rfl,O.same s1,z.2.2.2,z.2.1,Qo,Qo,λH2 L=>?_⟩⟩⟩;exact⟨_,rfl,rfl,_,rfl,fO (qy rfl) ⟨_,rfl,Qk,_,rfl,.inl ⟨_,rfl,af (show _<=40000 by omega) Qd,_,rfl,af (show _<=40000 by omega) Qd,_,rfl,Qk,_,rfl,.inl ⟨_,rfl,af (show _<=40000 by omega) Qd,_,rfl,af (show _<=40000 by omega) Qd,_,rfl,Qk,q H2 (s1.trans L)⟩⟩⟩⟩
  |two x a0 M=>
   obtain⟨m,a,xs,rfl,rfl,b,J⟩:=pd.tup_of;obtain⟨v1,g,I,rfl,S,p2,O⟩:=j0 J;rw[S.str_is]at b;obtain⟨hx,z⟩:=z;have xg:x.length+((tx a0).length +(tx M).length)<=40000:=by
    have:(tx (.two x a0 M)).length=x.length+(("(":Str).length +((tx a0).length +((", ":Str).length +((tx M).length +((")":Str).length +Str.empty.length))))):=by
     show(x++(("(":Str)++(tx a0++((", ":Str)++(tx M++((")":Str)++Str.empty)))))).length=_;rw[ag,ag,ag,ag,ag,ag]
    omega
   have xd:1+max (dep a0) (dep M)<=n+1:=hd;have n1:x≠"number":=by rcases hx with rfl|rfl<;>decide+kernel
   have n2:x≠"size":=by rcases hx with rfl|rfl<;>decide+kernel
   have n3:x≠"pairs":=by rcases hx with rfl|rfl<;>decide+kernel
   have n4:x≠"times":=by rcases hx with rfl|rfl<;>decide+kernel
   have n5:x≠"plus":=by rcases hx with rfl|rfl<;>decide+kernel
   have n6:nb x=none:=by rcases hx with rfl|rfl<;>decide+kernel
   refine⟨_,rfl,a,_,_,_,rfl,rfl,SqT.of b,rfl,?_⟩;refine⟨_,rfl,rfl,_,rfl,bn (fh n1) ?_⟩;refine⟨_,rfl,rfl,_,rfl,bn (fh n2) ⟨_,rfl,rfl,_,rfl,bn (fh n3) ?_⟩⟩;refine⟨_,rfl,Sum.inr _,rfl,_,rfl,bn (by rw[k1,n6];rfl) ?_⟩;refine⟨_,rfl,rfl,_,rfl,bn (fh n4) ⟨_,rfl,a,_,_,_,rfl,rfl,SqT.of b,rfl,g,_,a0,rfl,p2,z.2.2.1,z.1,Qo,Qo,λH1 s1=>⟨_,rfl,a,_,_,_,rfl,rfl,SqT.of (s1 _ _ b),rfl,I,_,M,rfl,O.same s1,z.2.2.2,z.2.1,Qo,Qo,λH2 L=>?_⟩⟩⟩;exact⟨_,rfl,rfl,_,rfl,bn (fh n5) ⟨_,rfl,.inl ⟨_,rfl,af (show _<=40000 by omega) Qd,_,rfl,af (show _<=40000 by omega) Qd,_,rfl,Qk,_,rfl,.inl ⟨_,rfl,af (show _<=40000 by omega) Qd,_,rfl,af (show _<=40000 by omega) Qd,_,rfl,Qk,_,rfl,.inl ⟨_,rfl,af (show _<=40000 by omega) Qd,_,rfl,af (show _<=40000 by omega) Qd,_,rfl,Qk,q H2 (s1.trans L)⟩⟩⟩⟩⟩
  |cost _ _ _=>exact absurd ht (by show decide (("cost":Str)∈cG)≠true;decide+kernel)
  |atm _ _=>exact absurd ht (by show decide (("atmost":Str)∈cG)≠true;decide+kernel)
  |neg _=>exact absurd ht (by show decide (("not":Str)∈cG)≠true;decide+kernel)
  |bin x _ _=>
   refine absurd ht ?_;show decide (x∈cG)≠true;rcases z.1 with rfl|rfl<;>decide+kernel
  |ov x _ _ _=>
   refine absurd ht ?_;show decide (x∈cG)≠true;rcases z.1 with rfl|rfl<;>decide+kernel
end
section
variable{P:Program}{w:World}{K:ah}{mg:Str->Option Value}{base:Heap}{C ct:Addr}{n L:Nat}
theorem le:bD ["claim","word","first","second","variable","kind","within"] ["claim"] (aU s_show_claim):=⟨rfl,rfl,rfl,Qk,rfl,Qk,Qk⟩
theorem E5{f:Addr}{fd:FuncData}(F:fg K "show_claim" "show_claim" s_show_claim f fd):FnOk P w K mg base gW (L+1) f fd ["claim"] (uD 0):=by
 refine F.ok le (λvs H Q E h=>?_) (λa A outer s H vs Q E b h=>?_)
 ·obtain⟨v,k,c,rfl,_⟩:=h;rfl
 ·obtain⟨v,k,c,rfl,_,_,_,hd,_⟩:=h;have:=oW c;omega
theorem G2{f:Addr}{fd:FuncData}(F:fg K "show_claim" "show_claim" s_show_claim f fd)(T:dF K mg)(W:qC P w K mg C)(hL:1<=L)(cs:dk P w K mg base 1 "show_set" ["kind"] qW)(ct:dk P w K mg base L "show_term" ["term"] (qV n))(cc:dk P w K mg base L "show_claim" ["claim"] (uD n)):FnOk P w K mg base gW (L+1) f fd ["claim"] (uD (n+1)):=by
 obtain⟨da,xb,mn,kd,k1,k2⟩:=W.nbD;refine F.ok le (λvs H Q E h=>?_) (λxa A outer s H vs Q E D h=>?_)
 ·obtain⟨v,k,c,rfl,_⟩:=h;rfl
 ·obtain⟨v,k,c,rfl,J,d,N,hd,hl,q⟩:=h;have r1:cF 1 _:=D.mono Qo;refine⟨_,(aw (aY (i:=1) le.nd rfl (aN rfl) (bE bB (pv 0) ai (λ_ _=>Qr)))
   (aw (bA (sL (xP Qr mn kd (pv 1))) (am (aR (dW aX bg bf jr ad (aa (pv 0) ac)))) aW)
   (aw (bA (aI b4 (pv 1) ad (aS _)) (am (aR (aF aM (aF aM (dW aX bg bf jr ad (aa (bM ss (pv 0) fj (bi ai)) ac)) ad) (d9 eJ Qr T.str mj (aa (bE bB (pv 0) ai (λ_ _=>Qr)) ac))))) aW)
   (aw (bA (aI b4 (pv 1) ad (aS _)) (am (aR (aF aM (aF aM (aJ ct D Qr (aa (bE bB (pv 0) ai (λ_ _=>Qr)) ac)) ad) (aJ ct D Qr (aa (bE bB (pv 0) ai (λ_ _=>Qr)) ac))))) aW)
   (aw (bA (aI b4 (pv 1) ad (aS _)) (am (aR (aF aM ad (aJ cc D Qr (aa (bE bB (pv 0) ai (λ_ _=>Qr)) ac))))) aW)
   (aw (bA (PW.pt (eQ (aI b4 (pv 1) ad (aS _)) (dU (aI b4 (pv 1) ad (aS _))))) (aw (aY (i:=2) le.nd rfl (aN rfl) (aJ cc D Qr (aa (bE bB (pv 0) ai (λ_ _=>Qr)) ac)))
   (aw (aY (i:=3) le.nd rfl (aN rfl) (aJ cc D Qr (aa (bE bB (pv 0) ai (λ_ _=>Qr)) ac)))
   (am (aR (fB (bO ad (bO (gk (pv 2)) (bO ad (bO (gk (pv 1)) (bO ad (bO (gk (pv 3)) (bO ad gI))))))) Qd))))) aW)
   (aw (aY (i:=4) le.nd rfl (aN rfl) (bE bB (pv 0) ai (λ_ _=>Qr)))
   (aw (aY (i:=5) le.nd rfl (aN rfl) (aJ cs r1 Qr (aa (bE bB (pv 0) ai (λ_ _=>Qr)) ac)))
   (aw (aY (i:=6) le.nd rfl (aN rfl) (aJ cc D Qr (aa (bE bB (pv 0) ai (λ_ _=>Qr)) ac)))
   (am (aR (fB (bO (gk (pv 1)) (bO ad (bO (gk (pv 4)) (bO ad (bO (gk (pv 5)) (bO ad (bO (gk (pv 6)) gI))))))) Qd)))))))))))),?_⟩
  cases c with
  |nm x ns=>
   obtain⟨m,a,xs,rfl,rfl,b,o⟩:=J.tup_of;have ex:=jd (ns:=x::ns) o;subst ex;have h0:nb x=some ns.length:=d.1;have hw:=iE (by rw[jv];decide) (by rw[jv];decide) (show(Str.join " " (x::ns)).length<=40000 from hl);refine⟨_,rfl,a,_,_,_,rfl,rfl,SqT.of b,fE (j:=0) rfl,?_⟩;exact⟨_,rfl,Sum.inr x,rfl,_,rfl,fO (by rw[k1,h0];rfl) ⟨rfl,_,rfl,_,a,x::ns,rfl,rfl,SqT.of b,Qk,af hw Qd,q H (al.refl _)⟩⟩
  |cost x y i=>
   obtain⟨m,a,xs,rfl,rfl,b,o⟩:=J.tup_of;obtain⟨R,I,M,Z,rfl,t,p2,B,V⟩:=zO o;rw[t.str_is,p2.str_is,B.str_is,V.int_of]at b;have l4:(" <= ":Str).length=4:=Qk;have u:(Str.join " " ["cost",x,y]).length +4+(numT i).length<=40000:=by
    have:(tx (.cost x y i)).length=(Str.join " " ["cost",x,y]).length +(" <= ":Str).length +(numT i).length:=by
     show((Str.join " " ["cost",x,y]++(" <= ":Str))++numT i).length=_;rw[ag,ag]
    omega
   have hw:=iE (z:=" ") (l:=["cost",x,y]) (n:=40000) (by rw[jv];decide) (by rw[jv];decide) Qo;refine⟨_,rfl,a,_,_,_,rfl,rfl,SqT.of b,rfl,?_⟩;refine⟨_,rfl,Sum.inr _,rfl,_,rfl,bn (by rw[k1];decide+kernel) ?_⟩;refine⟨_,rfl,rfl,_,rfl,fO (qy rfl) ⟨rfl,_,rfl,_,rfl,a,_,rfl,SqT.of b,by show¬(HT.sIx 4 0 none=0/\HT.sIx 4 4 (some 3)=4);decide,λp hp=>?_⟩⟩;have s1:al H (upd H p (.tup [.str "cost",.str x,.str y])):=al.new hp;refine⟨_,p,["cost",x,y],rfl,rfl,SqT.of ak,Qk,af hw Qd,_,_,rfl,rfl,af (show _+(" <= ":Str).length<=40000 by omega) Qd,_,rfl,a,_,_,_,rfl,rfl,SqT.of (s1 _ _ b),rfl,i,rfl,ik d.2.2,_,_,rfl,rfl,?_,q _ s1⟩;rw[ag];exact af (show(Str.join " " ["cost",x,y]).length +(" <= ":Str).length +(numT i).length<=40000 by omega) Qd
  |atm a0 e=>
   obtain⟨m,a,xs,rfl,rfl,b,o⟩:=J.tup_of;obtain⟨R,I,M,rfl,t,p2,B⟩:=j0 o;rw[t.str_is]at b;have l4:(" <= ":Str).length=4:=Qk;have u:(tx a0).length +4+(tx e).length<=40000:=by
    have:(tx (.atm a0 e)).length=(tx a0).length +(" <= ":Str).length +(tx e).length:=by
     show((tx a0++(" <= ":Str))++tx e).length=_;rw[ag,ag]
    omega
   have G:1+max (dep a0) (dep e)<=n+1:=hd;refine⟨_,rfl,a,_,_,_,rfl,rfl,SqT.of b,rfl,?_⟩;refine⟨_,rfl,Sum.inr _,rfl,_,rfl,bn (by rw[k1];decide+kernel) ?_⟩;refine⟨_,rfl,rfl,_,rfl,bn (fh Qk) ?_⟩;refine⟨_,rfl,rfl,_,rfl,fO (qy rfl) ⟨_,rfl,a,_,_,_,rfl,rfl,SqT.of b,rfl,I,_,a0,rfl,p2,d.2.2.1,d.1,Qo,Qo,λH1 s1=>⟨_,_,rfl,rfl,af (show _+(" <= ":Str).length<=40000 by omega) Qd,_,rfl,a,_,_,_,rfl,rfl,SqT.of (s1 _ _ b),rfl,M,_,e,rfl,B.same s1,d.2.2.2,d.2.1,Qo,Qo,λH2 O=>⟨_,_,rfl,rfl,?_,q H2 (s1.trans O)⟩⟩⟩⟩;rw[ag];exact af (show(tx a0).length +(" <= ":Str).length +(tx e).length<=40000 by omega) Qd
  |neg a0=>
   obtain⟨m,a,xs,rfl,rfl,b,o⟩:=J.tup_of;obtain⟨R,I,rfl,t,p2⟩:=lp o;rw[t.str_is]at b;have l4:("not ":Str).length=4:=Qk;have u:4+(tx a0).length<=40000:=by
    have:(tx (.neg a0)).length=("not ":Str).length +(tx a0).length:=ag _ _;omega
   have G:1+dep a0<=n+1:=hd;refine⟨_,rfl,a,_,_,_,rfl,rfl,SqT.of b,rfl,?_⟩;refine⟨_,rfl,Sum.inr _,rfl,_,rfl,bn (by rw[k1];decide+kernel) ?_⟩;refine⟨_,rfl,rfl,_,rfl,bn (fh Qk) ⟨_,rfl,rfl,_,rfl,bn (fh Qk) ?_⟩⟩;exact⟨_,rfl,rfl,_,rfl,fO (qy rfl) ⟨_,rfl,a,_,_,_,rfl,rfl,SqT.of b,rfl,I,_,a0,rfl,p2,d.2,d.1,Qo,Qo,λH1 s1=>⟨_,_,rfl,rfl,af (show("not ":Str).length +_<=40000 by omega) Qd,q H1 s1⟩⟩⟩
  |bin x a0 e=>
   obtain⟨m,a,xs,rfl,rfl,b,o⟩:=J.tup_of;obtain⟨R,I,M,rfl,t,p2,B⟩:=j0 o;rw[t.str_is]at b;obtain⟨g,d⟩:=d;have u:x.length+((tx a0).length +(tx e).length)<=40000:=by
    have:(tx (.bin x a0 e)).length=("(":Str).length +((tx a0).length +((" ":Str).length +(x.length+((" ":Str).length +((tx e).length +((")":Str).length +Str.empty.length)))))):=by
     show(("(":Str)++(tx a0++((" ":Str)++(x++((" ":Str)++(tx e++((")":Str)++Str.empty))))))).length=_;rw[ag,ag,ag,ag,ag,ag,ag]
    omega
   have G:1+max (dep a0) (dep e)<=n+1:=hd;have Y:x≠"cost":=by rcases g with rfl|rfl<;>decide+kernel
   have U:x≠"atmost":=by rcases g with rfl|rfl<;>decide+kernel
   have X:x≠"not":=by rcases g with rfl|rfl<;>decide+kernel
   have S:nb x=none:=by rcases g with rfl|rfl<;>decide+kernel
   refine⟨_,rfl,a,_,_,_,rfl,rfl,SqT.of b,rfl,?_⟩;refine⟨_,rfl,Sum.inr _,rfl,_,rfl,bn (by rw[k1,S];rfl) ?_⟩;refine⟨_,rfl,rfl,_,rfl,bn (fh Y) ⟨_,rfl,rfl,_,rfl,bn (fh U) ⟨_,rfl,rfl,_,rfl,bn (fh X) ?_⟩⟩⟩;refine⟨_,rfl,rfl,_,rfl,eG (λh=>eT ?_) (λh=>⟨_,rfl,rfl,_,rfl,fO (qy (g.resolve_left (io h))) ?_⟩)⟩
   all_goals refine⟨_,rfl,a,_,_,_,rfl,rfl,SqT.of b,rfl,I,_,a0,rfl,p2,d.2.2.1,d.1,Qo,Qo,λH1 s1=>⟨_,rfl,a,_,_,_,rfl,rfl,SqT.of (s1 _ _ b),rfl,M,_,e,rfl,B.same s1,d.2.2.2,d.2.1,Qo,Qo,λH2 O=>?_⟩⟩
   all_goals exact⟨_,rfl,Qk,_,rfl,.inl ⟨_,rfl,af (show _<=40000 by omega) Qd,_,rfl,af (show _<=40000 by omega) Qd,_,rfl,Qk,_,rfl,.inl ⟨_,rfl,af (show _<=40000 by omega) Qd,_,rfl,af (show _<=40000 by omega) Qd,_,rfl,Qk,_,rfl,.inl ⟨_,rfl,af (show _<=40000 by omega) Qd,_,rfl,af (show _<=40000 by omega) Qd,_,rfl,Qk,q H2 (s1.trans O)⟩⟩⟩⟩
  |ov x y k a0=>
   obtain⟨m,a,xs,rfl,rfl,b,o⟩:=J.tup_of;obtain⟨R,I,M,Z,rfl,t,p2,B,V⟩:=zO o;rw[t.str_is,p2.str_is]at b;obtain⟨g,hy,wk,d⟩:=d;have u:x.length+(y.length+((ir k).length +(tx a0).length))<=40000:=by
    have:(tx (.ov x y k a0)).length=x.length+((" ":Str).length +(y.length+((" in ":Str).length +((ir k).length +((": ":Str).length +((tx a0).length +Str.empty.length)))))):=by
     show(x++((" ":Str)++(y++((" in ":Str)++(ir k++((": ":Str)++(tx a0++Str.empty))))))).length=_;rw[ag,ag,ag,ag,ag,ag,ag]
    omega
   have G:1+dep a0<=n+1:=hd;have Y:x≠"cost":=by rcases g with rfl|rfl<;>decide+kernel
   have U:x≠"atmost":=by rcases g with rfl|rfl<;>decide+kernel
   have X:x≠"not":=by rcases g with rfl|rfl<;>decide+kernel
   have n4:x≠"and":=by rcases g with rfl|rfl<;>decide+kernel
   have n5:x≠"or":=by rcases g with rfl|rfl<;>decide+kernel
   have S:nb x=none:=by rcases g with rfl|rfl<;>decide+kernel
   refine⟨_,rfl,a,_,_,_,rfl,rfl,SqT.of b,rfl,?_⟩;refine⟨_,rfl,Sum.inr _,rfl,_,rfl,bn (by rw[k1,S];rfl) ?_⟩;refine⟨_,rfl,rfl,_,rfl,bn (fh Y) ⟨_,rfl,rfl,_,rfl,bn (fh U) ⟨_,rfl,rfl,_,rfl,bn (fh X) ?_⟩⟩⟩;refine⟨_,rfl,rfl,_,rfl,bn (fh n4) ⟨_,rfl,rfl,_,rfl,bn (fh n5) ?_⟩⟩;refine⟨_,rfl,a,_,_,_,rfl,rfl,SqT.of b,rfl,?_⟩;refine⟨_,rfl,a,_,_,_,rfl,rfl,SqT.of b,rfl,M,_,k,rfl,B,wk,Qo,?_⟩;refine⟨_,rfl,a,_,_,_,rfl,rfl,SqT.of b,rfl,Z,_,a0,rfl,V,d.2,d.1,Qo,Qo,λH2 O=>?_⟩;exact⟨_,rfl,.inl ⟨_,rfl,af (show _<=40000 by omega) Qd,_,rfl,af (show _<=40000 by omega) Qd,_,rfl,Qk,_,rfl,.inl ⟨_,rfl,af (show _<=40000 by omega) Qd,_,rfl,af (show _<=40000 by omega) Qd,_,rfl,Qk,_,rfl,.inl ⟨_,rfl,af (show _<=40000 by omega) Qd,_,rfl,af (show _<=40000 by omega) Qd,_,rfl,Qk,_,rfl,.inl ⟨_,rfl,af (show _<=40000 by omega) Qd,_,rfl,af (show _<=40000 by omega) Qd,q H2 O⟩⟩⟩⟩⟩
  |num _=>exact absurd N (by show decide (("number":Str)∈cG)≠false;decide+kernel)
  |size _=>exact absurd N (by show decide (("size":Str)∈cG)≠false;decide+kernel)
  |pairs _ _=>exact absurd N (by show decide (("pairs":Str)∈cG)≠false;decide+kernel)
  |plus _ _=>exact absurd N (by show decide (("plus":Str)∈cG)≠false;decide+kernel)
  |tim _ _=>exact absurd N (by show decide (("times":Str)∈cG)≠false;decide+kernel)
  |two x _ _=>
   refine absurd N ?_;show decide (x∈cG)≠false;rcases d.1 with rfl|rfl<;>decide+kernel
end
inductive Pt where
 |s(x:Str)
 |i(n:Int)
 |k(s:Ks)
 |c(c:Cl)
def Pt.d:Pt->PyData
 |.s x=>.str x
 |.i z=>.int z
 |.k z=>datK z
 |.c z=>dat z
def sK:Cl->List Pt
 |.nm _ ns=>ns.map Pt.s
 |.cost a b n=>[.s a,.s b,.i n]
 |.num n=>[.i n]
 |.size s=>[.k s]
 |.pairs s t=>[.k s,.k t]
 |.atm a b=>[.c a,.c b]
 |.neg a=>[.c a]
 |.bin _ a b=>[.c a,.c b]
 |.plus a b=>[.c a,.c b]
 |.two _ a b=>[.c a,.c b]
 |.ov _ v s a=>[.s v,.k s,.c a]
 |.tim n a=>[.i n,.c a]
theorem Ak(c:Cl):dat c=.tuple (.str (hw c)::(sK c).map Pt.d):=by
 cases c with
 |nm w ns=>
  show PyData.tuple (.str w::ns.map .str)=.tuple (.str w::(ns.map Pt.s).map Pt.d);rw[fM];rfl
 |_=>rfl
def kN:List Pt->List Cl
 |[]=>[]
 |.c c::r=>c::kN r
 |_::r=>kN r
theorem kX:∀(l m:List Pt),kN (l++m)=kN l++kN m
 |[],m=>rfl
 |p::l,m=>by
  have a:=kX l m;cases p<;>first|exact a|(show _::kN (l++m)=_;rw[a];rfl)
theorem BK:∀ns:List Str,kN (ns.map Pt.s)=[]
 |[]=>rfl
 |_::r=>BK r
def Bl:List Nat->Nat
 |[]=>0
 |n::r=>max n (Bl r)
theorem C4{l:List Nat}{n:Nat}(h:n∈l):n<=Bl l:=by
 induction l with
 |nil=>cases h
 |cons m r a=>
  show n<=max m (Bl r);rcases aq.mp h with rfl|h
  ·omega
  ·have:=a h;omega
theorem Fo{l:List Nat}(h:l≠ []):Bl l∈l:=by
 induction l with
 |nil=>exact absurd rfl h
 |cons m r b=>
  show max m (Bl r)∈m::r;by_cases a:r=[]
  ·rw[a];show max m 0∈_;rw[Nat.max_eq_left (bV _)];exact aA
  ·have:=b a;by_cases c:m<=Bl r
   ·rw[Nat.max_eq_right c];exact aB _ this
   ·rw[Nat.max_eq_left Qo];exact aA
theorem FF(c:Cl):dep c=1+Bl ((kN (sK c)).map dep):=by
 cases c with
 |nm w ns=>
  show 1=1+Bl ((kN (ns.map Pt.s)).map dep);rw[BK];rfl
 |atm a b=>show 1+max (dep a) (dep b)=1+max (dep a) (max (dep b) 0);omega
 |neg a=>show 1+dep a=1+max (dep a) 0;omega
 |bin _ a b=>show 1+max (dep a) (dep b)=1+max (dep a) (max (dep b) 0);omega
 |plus a b=>show 1+max (dep a) (dep b)=1+max (dep a) (max (dep b) 0);omega
 |two _ a b=>show 1+max (dep a) (dep b)=1+max (dep a) (max (dep b) 0);omega
 |ov _ _ _ a=>show 1+dep a=1+max (dep a) 0;omega
 |tim _ a=>show 1+dep a=1+max (dep a) 0;omega
 |_=>rfl
def IW:Pt->Prop
 |.c c=>wf c
 |.k s=>tU s
 |_=>True
theorem GN{c:Cl}(h:wf c):∀p∈sK c,IW p:=by
 cases c with
 |nm w ns=>
  intro p d;obtain⟨x,_,rfl⟩:=cU.mp d;trivial
 |cost a b n=>
  intro p d;simp only[sK,aq,a_,or_false]at d;rcases d with rfl|rfl|rfl<;>trivial
 |num n=>
  intro p d;simp only[sK,aq,a_,or_false]at d;rw[d];trivial
 |size s=>
  intro p d;simp only[sK,aq,a_,or_false]at d;rw[d];exact h
 |pairs s t=>
  intro p d;simp only[sK,aq,a_,or_false]at d;rcases d with rfl|rfl
  ·exact h.1
  ·exact h.2
 |atm a b=>
  intro p d;simp only[sK,aq,a_,or_false]at d;rcases d with rfl|rfl
  ·exact h.2.2.1
  ·exact h.2.2.2
 |neg a=>
  intro p d;simp only[sK,aq,a_,or_false]at d;rw[d];exact h.2
 |bin _ a b=>
  intro p d;simp only[sK,aq,a_,or_false]at d;rcases d with rfl|rfl
  ·exact h.2.2.2.1
  ·exact h.2.2.2.2
 |plus a b=>
  intro p d;simp only[sK,aq,a_,or_false]at d;rcases d with rfl|rfl
  ·exact h.2.2.1
  ·exact h.2.2.2
 |two _ a b=>
  intro p d;simp only[sK,aq,a_,or_false]at d;rcases d with rfl|rfl
  ·exact h.2.2.2.1
  ·exact h.2.2.2.2
 |ov _ v s a=>
  intro p d;simp only[sK,aq,a_,or_false]at d;rcases d with rfl|rfl|rfl
  ·trivial
  ·exact h.2.2.1
  ·exact h.2.2.2.2
 |tim n a=>
  intro p d;simp only[sK,aq,a_,or_false]at d;rcases d with rfl|rfl
  ·trivial
  ·exact h.2.2.2
theorem EJ(c:Cl)(h:wf c):(sK c).length<=3:=by
 cases c with
 |nm w ns=>
  show(ns.map Pt.s).length<=3;rw[ay];have:=h.1;unfold nb at this
  repeat' split at this
  all_goals first|(cases this;done)|(injection this with this;omega)
 |_=>first|(show 0<=3;decide)|(show 1<=3;decide)|(show 2<=3;decide)|(show 3<=3;decide)
theorem Hr{w:Str}{n:Nat}(h:nb w=some n):w∉iu:=λz=>by
 simp only[iu,aq,a_,or_false]at z;rcases z with z|z|z|z
 ·exact oq h Qk z
 ·exact oq h Qk z
 ·exact oq h Qk z
 ·exact oq h Qk z
theorem HK{c:Cl}(h:wf c):hw c∉iu:=by
 cases c with
 |nm w ns=>exact Hr h.1
 |bin w a b=>show w∉iu;rcases h.1 with rfl|rfl<;>decide+kernel
 |two w a b=>show w∉iu;rcases h.1 with rfl|rfl<;>decide+kernel
 |ov w v s a=>show w∉iu;rcases h.1 with rfl|rfl<;>decide+kernel
 |cost _ _ _=>show("cost":Str)∉iu;decide+kernel
 |num _=>show("number":Str)∉iu;decide+kernel
 |size _=>show("size":Str)∉iu;decide+kernel
 |pairs _ _=>show("pairs":Str)∉iu;decide+kernel
 |atm _ _=>show("atmost":Str)∉iu;decide+kernel
 |neg _=>show("not":Str)∉iu;decide+kernel
 |plus _ _=>show("plus":Str)∉iu;decide+kernel
 |tim _ _=>show("times":Str)∉iu;decide+kernel
theorem yG{H:Hp}{n:Nat}{v:V}{s:Ks}(c:tU s)(h:PD H n v (datK s)):∃a x xs,v=.ref a/\H a=some (.tup (.str x::xs))/\x∈iu:=by
 have key:∃x ds,datK s=.tuple (.str x::ds)/\x∈iu:=by
  cases s with
  |all=>exact⟨_,_,rfl,Qk⟩
  |of w n=>exact⟨w,_,rfl,by rcases c.1 with rfl|rfl<;>decide+kernel⟩
  |these ns=>exact⟨_,_,rfl,Qk⟩
 obtain⟨x,ds,e,f⟩:=key;rw[e]at h;obtain⟨m,a,xs,rfl,rfl,g,d⟩:=h.tup_of;cases d with
 | @cons y _ b _ p t=>exact⟨a,x,b,rfl,by rw[g,p.str_is],f⟩
theorem Jy(K:ah):bz K (.type "str") (.type "tuple")=some false:=by first|rfl|kernel_rfl
theorem Jz(K:ah):bz K (.type "int") (.type "tuple")=some false:=by first|rfl|kernel_rfl
def uH(n:Nat):Sp:=λvs H Q _=>∃(v:V)(k:Nat)(c:Cl),vs=[v]/\PD H k v (dat c)/\wf c/\dep c<=n/\∀H',al H H'->Q (.int (dep c:Int)) H'
theorem zG(k:Nat):HT.sIx (k+1) 0 (some 1)=1:=by
 have:=HT.sE (k+1) 0 1;rw[show((1:Nat):Int)=1 from rfl]at this;rw[this];omega
theorem DB(y:V)(xs:List V):kQ (y::xs) (some 1) none=xs:=by
 unfold kQ;rw[aK,zG,HT.Cc];show(xs.take (xs.length+1-1))=xs;rw[bW Qo]
theorem FG(y:V)(xs:List V):¬(HT.sIx (y::xs).length 0 (some 1)=0/\HT.sIx (y::xs).length (y::xs).length none=(y::xs).length):=λz=>by
 rw[aK,zG]at z;exact absurd z.1 Qd
def JT(H:Hp)(m:Nat)(v:V)(c:Cl):Prop:=PD H m v (dat c)
section
variable{P:Program}{w:World}{K:ah}{mg:Str->Option Value}{base:Heap}{C ct:Addr}{n:Nat}
theorem xG:bD ["whole","within"] ["whole"] (aU s_depth_of):=⟨rfl,rfl,rfl,Qk,rfl,Qk,Qk⟩
theorem Fd{f:Addr}{fd:FuncData}(F:fg K "depth_of" "depth_of" s_depth_of f fd):FnOk P w K mg base gW 1 f fd ["whole"] (uH 0):=by
 refine F.ok xG (λvs H Q E h=>?_) (λa A outer s H vs Q E b h=>?_)
 ·obtain⟨v,k,c,rfl,_⟩:=h;rfl
 ·obtain⟨v,k,c,rfl,_,_,hd,_⟩:=h;have:=oW c;omega
theorem Hf{f:Addr}{fd:FuncData}(F:fg K "depth_of" "depth_of" s_depth_of f fd)(T:dF K mg)(W:qC P w K mg C)(cd:dk P w K mg base (n+1) "depth_of" ["whole"] (uH n)):FnOk P w K mg base gW (n+2) f fd ["whole"] (uH (n+1)):=by
 have R:List.Nodup (["part"]:List Str):=Qk;obtain⟨sw,xj,sq⟩:=W.setW;refine F.ok xG (λvs H Q E h=>?_) (λxl A outer s H vs Q E hr h=>?_)
 ·obtain⟨v,k,c,rfl,_⟩:=h;rfl
 ·obtain⟨v,k,c,rfl,pd,wc,hd,q⟩:=h;refine⟨_,(aw (sM (j:=1) (N:=["part"]) (xs:=1) (js:=[]) rfl xG.nd rfl rfl (dD rfl) (xM (bM ss (pv 0) (bi ai) fj)) (λ_ _ _ _=>db (i:=0) R rfl (aN rfl)) (λ_ _ _ _=>sJ (PW.pt (gH (fe (bP (tI K Qr) Qr T.isi jL (aa (pv 0) (aa (zL T.tuple Qr tL) ac)))) (gb (aI (AJ K Qr) (bE (Fu K Qr) (pv 0) ai (λ_ _=>Qr)) (cN (v:=.ref sw) ⟨_,xj,rfl⟩ Qr) Qw))))) (λ_ _ _ _=>pv 0) rfl)
   (am (aR (aF bK ai (ET rfl Qr T.max Ap (aa (kq (N:=["part"]) (xs:=1) (js:=[]) rfl (dD rfl) (mW (pv 1)) (λ_ _ _ _=>db (i:=0) R rfl (aN rfl)) (λ_ _ _ _=>jI) (λ_ _ _ _=>aJ cd hr Qr (aa (pv 0) ac))) ac)))))),?_⟩
  rw[Ak]at pd;obtain⟨m,a,xm,rfl,rfl,ha,xe⟩:=pd.tup_of;cases xe with
  | @cons y _ xs _ p1 pr=>
   have L:xs.length=(sK c).length:=by
    have:=Paired.length pr;rw[ay]at this;exact this
   have h3:=EJ c wc;have U:=GN wc;have X:=FF c;have G:∀u∈kN (sK c),dep u<=n:=λu g=>by
    have:=C4 (fZ (f:=dep) g);omega
   have D:∀u∈kN (sK c),wf u:=by
    have key:∀l:List Pt,(∀p∈l,IW p)->∀u∈kN l,wf u:=λl=>by
     induction l with
     |nil=>intro _ u g;cases g
     |cons p l ih=>
      intro ok u g;have xa:=ih λx hx=>ok x (aB _ hx);cases p<;>first|exact xa u g|skip
      rename_i c0;rcases aq.mp (show u∈c0::kN l from g)with rfl|h
      ·exact ok _ aA
      ·exact xa u h
    exact key _ U
   generalize sK c=ps at pr L h3 U X G D;refine⟨_,rfl,_,rfl,a,_,rfl,SqT.of ha,FG y xs,λp hp=>?_⟩;rw[DB];have s1:al H (upd H p (.tup xs)):=al.new hp;have g1:(upd H p (.tup xs)) p=some (.tup xs):=ak;generalize upd H p (.tup xs)=H1 at s1 g1;refine⟨p,rfl,⟨_,SqT.of g1⟩,lD (K:=K) (ys:=xs) (λi t B H'=>H'=H1/\Paired (JT H1 m) t (kN (ps.take i))/\t.length<=i/\∃o,B=[o])
    ⟨rfl,.nil,ao _,none,rfl⟩ (λi t B H' h=>h.2.2.1) (by rw[L];exact af h3 Qd) (λi t B H' _ h=>by rw[h.1];exact SqT.of g1) (λi x t B H' hx h=>?_) (λt B H' h l hl=>?_)⟩
   ·obtain⟨rfl,M,la,o,rfl⟩:=h;obtain⟨d,I,xc⟩:=jm pr hx;rw[cE]at I;cases e:ps[i]? with
    |none=>rw[e]at I;cases I
    |some z=>
     rw[e]at I;cases I;have O:ps.take (i+1)=ps.take i++[z]:=by rw[dP,e];rfl
     have Z:=U z (bR e);have pz:=xc.same s1;cases z with
     |s Y=>
      have:=pz.str_is;subst this;refine⟨_,rfl,_,"tuple",_,false,rfl,.str Y,Jy K,_,rfl,eZ ⟨rfl,?_,Qo,_,rfl⟩⟩;rw[O,kX];show Paired _ _ (kN (ps.take i)++[]);rw[bq];exact M
     |i Y=>
      have:=pz.int_of;subst this;refine⟨_,rfl,_,"tuple",_,false,rfl,.int Y,Jz K,_,rfl,eZ ⟨rfl,?_,Qo,_,rfl⟩⟩;rw[O,kX];show Paired _ _ (kN (ps.take i)++[]);rw[bq];exact M
     |k Y=>
      obtain⟨b,x1,xf,rfl,hb,hm⟩:=yG Z pz;refine⟨_,rfl,_,"tuple",_,true,rfl,.tup hb,rfl,_,rfl,eT ⟨_,rfl,b,_,_,V.str x1,rfl,rfl,SqT.of hb,fE (j:=0) rfl,sw,_,rfl,.inr (sq _),rfl,em _,_,rfl,?_⟩⟩;refine bn (by rw[im,aH hm];rfl) ⟨rfl,?_,Qo,_,rfl⟩;rw[O,kX];show Paired _ _ (kN (ps.take i)++[]);rw[bq];exact M
     |c Y=>
      obtain⟨b,xf,rfl,hb⟩:=rB pz;refine⟨_,rfl,_,"tuple",_,true,rfl,.tup hb,rfl,_,rfl,eT ⟨_,rfl,b,_,_,V.str (hw Y),rfl,rfl,SqT.of hb,fE (j:=0) rfl,sw,_,rfl,.inr (sq _),rfl,em _,_,rfl,?_⟩⟩;refine fO (by rw[im,aP (HK Z)];rfl) ⟨_,rfl,rfl,?_,by rw[ae];show _+1<=_;omega,_,rfl⟩;rw[O,kX];exact Paired.snoc M pz
   ·obtain⟨rfl,M,la,o,rfl⟩:=h;rw[bW (by rw[L];exact ao _)]at M;generalize hsb:kN ps=sb at M X G D;have s2:al H' (upd H' l (.lst t)):=al.new hl;have g2:(upd H' l (.lst t)) l=some (.lst t):=ak;generalize upd H' l (.lst t)=H2 at s2 g2;have xi:t.length=sb.length:=Paired.length M;refine⟨_,rfl,l,rfl,⟨_,SqL.of g2⟩,rE (K:=K) (ys:=t) (λi J B S=>al H2 S/\J=((sb.take i).map λu=>(dep u:Int)).map V.int/\∃o,B=[o])
     ⟨al.refl _,rfl,none,rfl⟩ (λi J B S h=>?_) (af la (by rw[L];exact af h3 Qd)) (λi J B S _ h=>SqL.of (h.1 _ _ g2)) (λi x J B S hx h=>?_) (λJ B S h l3 xk=>?_)⟩
    ·rw[h.2.1,ay,ay,bT];omega
    ·obtain⟨s3,rfl,o2,rfl⟩:=h;obtain⟨u,g,xd⟩:=jm M hx;have hm:=bR g;refine⟨_,rfl,x,m,u,rfl,PD.same (s2.trans s3) xd,D u hm,G u hm,λH4 s4=>⟨s3.trans s4,?_,_,rfl⟩⟩;rw[dP,g,aT,aT];rfl
    ·obtain⟨s3,rfl,o2,rfl⟩:=h;rw[bW (by rw[xi];exact ao _)];have s4:al S (upd S l3 (.lst ((sb.map λu=>(dep u:Int)).map V.int))):=al.new xk;have xb:∀z:Int,z=((Bl (sb.map dep):Nat):Int)->Q (.int (1+z)) (upd S l3 (.lst ((sb.map λu=>(dep u:Int)).map V.int))):=λz hz=>by
      have:=q _ (s1.trans (s2.trans (s3.trans s4)));rw[X]at this;rw[hz];have e:((1+Bl (sb.map dep):Nat):Int)=1+((Bl (sb.map dep):Nat):Int):=Qo;rw[<-e];exact this
     refine⟨l3,sb.map λu=>(dep u:Int),rfl,SqL.of ak,λz=>⟨_,_,rfl,rfl,xb _ ?_⟩,λz hz xg=>⟨_,_,rfl,rfl,xb _ ?_⟩⟩
     ·have:sb=[]:=by simpa using z
      rw[this];rfl
     ·obtain⟨u,g,rfl⟩:=cU.mp hz;have h1:=C4 (fZ (f:=dep) g);have h2:Bl (sb.map dep)∈sb.map dep:=Fo (λy=>by
       have:sb=[]:=by simpa using y
       rw[this]at g;cases g)
      obtain⟨c2,xh,e2⟩:=cU.mp h2;have h4:=xg (dep c2:Int) (cU.mpr ⟨c2,xh,rfl⟩);omega
end
def pq(ct:Addr):Sp:=λvs H Q E=>∃(v:V)(k:Nat)(c:Cl)(x:Str),vs=[v,.str (tx c),.str x]/\PD H k v (dat c)/\wf c/\dep c<=25/\okX (tx c)/\okX x/\(tx c=x->dep c<=12->∀H',al H H'->Q .non H')/\(¬(tx c=x/\dep c<=12)->∀H',al H H'->E (.ref ct) none H')
def si(ct:Addr)(b:lG):Sp:=λvs H Q E=>∃(x:Str),vs=[.str x]/\okX x/\(∀c a,b (dC x)=some (c,a)->wf c/\dep c<=25/\okX (tx c))/\
 (∀c a,b (dC x)=some (c,a)->tx c=x->dep c<=12->∀v H',al H H'->gO (λp=>H p=none) H' v c->Q v H')/\((∀c a,b (dC x)=some (c,a)->¬(tx c=x/\dep c<=12))->∀H',al H H'->E (.ref ct) none H')
section
variable{P:Program}{w:World}{K:ah}{mg:Str->Option Value}{base:Heap}{C ct:Addr}
theorem AB:bD ["whole","shown","text"] ["whole","shown","text"] (aU s_refuse_other_text):=⟨rfl,rfl,rfl,Qk,rfl,Qk,Qk⟩
theorem AM{f:Addr}{fd:FuncData}(F:fg K "refuse_other_text" "refuse_other_text" s_refuse_other_text f fd)(T:dF K mg)(a:yL K mg ct)(j:dk P w K mg base 26 "depth_of" ["whole"] (uH 25)):FnOk P w K mg base (kS P w) 27 f fd ["whole","shown","text"] (pq ct):=by
 refine F.okX AB (λvs H Q E h=>?_) (λi A outer s H vs Q E n b h=>?_)
 ·obtain⟨v,k,c,x,rfl,_⟩:=h;rfl
 ·obtain⟨v,k,c,x,rfl,m,l,hd,g,d,q,e⟩:=h;refine⟨_,(aw (bA (aI fc (pv 1) (pv 2) (aS _)) (am (fi b rfl Qr a.mt a.ex bG (aa (fB (bO (ko (pv 2)) (bO ad (bO (ko (pv 1)) gI))) Qd) ac))) aW)
   (am (bA (aI mY (aJ j n Qr (aa (pv 0) ac)) (cN T.deep Qr) (aS _)) (am (fi b rfl Qr a.mt a.ex bG (aa (fB (bO ad (bO (gk (cN T.deep Qr)) (bO ad gI))) Qd) ac))) aW))),?_⟩
  refine⟨_,rfl,_,rfl,rfl,_,rfl,eG (λh=>?_) (λh=>?_)⟩
  ·exact⟨_,rfl,.inl ⟨_,rfl,d.repS,_,rfl,d.rep,_,rfl,Qk,_,rfl,.inl ⟨_,rfl,g.repS,_,rfl,g.rep,by show 1<=sizeLine;decide,e (λz=>vP h z.1) _ (al.refl _)⟩⟩⟩
  ·have h:=vQ h;refine⟨_,rfl,v,k,c,rfl,m,l,hd,λH1 s1=>⟨_,_,rfl,rfl,_,rfl,eG (λh2=>?_) (λh2=>?_)⟩⟩
   ·have h2:=bb h2;exact⟨_,rfl,Qk,.inr ⟨12,rfl,Qk,_,rfl,Qk,_,rfl,Qk,by show 1<=sizeLine;decide,e (λz=>by have:=z.2;omega) _ s1⟩⟩
   ·refine q h ?_ H1 s1;by_cases z:dep c<=12
    ·exact z
    ·exact absurd (aH Qo) h2
theorem uL:bD ["text","claim"] ["text"] (aU s_read_claim):=⟨rfl,rfl,rfl,Qk,rfl,Qk,Qk⟩
theorem CI{f:Addr}{fd:FuncData}(F:fg K "read_claim" "read_claim" s_read_claim f fd)(T:dF K mg)(W:qC P w K mg C)(cs:dk P w K mg base 1 "split_text" ["text"] pk)(ci:DP P w K mg base 1 C ["self","words"] (sm C))(cw:∀Z:Addr->Prop,dE P w K mg base 69 "read_whole_claim" ["row","room"] (w_ C ct Z 12))
  (I:dk P w K mg base 53 "show_claim" ["claim"] (uD 25))(cr:dE P w K mg base 27 "refuse_other_text" ["whole","shown","text"] (pq ct)):FnOk P w K mg base (kS P w) 70 f fd ["text"] (si ct (i9 (bx 12))):=by
 refine F.okX uL (λvs H Q E h=>?_) (λxa A outer s H vs Q E j Wt h=>?_)
 ·obtain⟨x,rfl,_⟩:=h;rfl
 ·obtain⟨x,rfl,N,pre,q,S⟩:=h;have r1:cF 1 _:=j.mono Qd;have r2:cF 2 _:=j.mono Qd;have O:cF 27 _:=j.mono Qd;have L:cF 53 _:=j.mono Qd;refine⟨_,(aw (aY (i:=1) uL.nd rfl (aN rfl) (cz (cw λp=>H p=none) Wt j Qr (aa (uW ci r2 Qr W.mgC (aa (aJ cs r1 Qr (aa (pv 0) ac)) ac)) (aa (cN T.deep Qr) ac))))
   (aw (dJ (cz cr Wt O Qr (aa (pv 1) (aa (aJ I L Qr (aa (pv 1) ac)) (aa (pv 0) ac)))))
   (am (aR (pv 1))))),?_⟩
  refine⟨_,rfl,x,rfl,N,λl H1 s1 n r dx d m J=>⟨r,dx,l,rfl,ak,rfl,?_⟩⟩;rw[rR];have lr:l≠r:=λz=>by rw[z,d]at n;cases n
  have ld:l≠dx:=λz=>by rw[z,m]at n;cases n
  have X:ge C (λp=>H p=none) (upd (upd H1 dx (.own r)) r (.ins C dx (dm l 0))) r dx l (dC x) 0:=⟨ak,by rw[b5 lr,b5 ld];exact n,λp hp=>nQ s1 (jq (jq hp))⟩;have M:al H (upd (upd H1 dx (.own r)) r (.ins C dx (dm l 0))):=s1.trans ((al.new m).upd (by rw[b5 J.symm];exact d));have nr:H r=none:=by
   cases e:H r with
   |none=>rfl
   |some o=>have:=s1 _ _ e;rw[d]at this;cases this
  have a:∀{y R:Hp},al H y->Rw r y R->al H R:=λk B b o e=>B b o (λz=>by rw[z,nr]at e;cases e) (k b o e);generalize upd (upd H1 dx (.own r)) r (.ins C dx (dm l 0))=H2 at X M;have Y:(dC x).drop 0=dC x:=rfl;refine⟨r,dx,l,dC x,0,rfl,X,qO N,λc D e v y i3 k R3 d3 g=>?_,λe y k=>S (λc D z=>by rw[<-Y,e]at z;cases z) _ (a M k)⟩;rw[Y]at e;obtain⟨wc,hd,oc⟩:=pre c D e;have ht:dY c=false:=by
   unfold i9 at e;cases e1:jh (bx 12) (dC x)with
   |none=>rw[e1]at e;cases e
   |some V=>
    rw[e1]at e;have G:(if dY V.1=true then none else some V)=some (c,D):=e;split at G
    ·cases G
    ·rename_i hn;cases G;cases z:dY c with
     |true=>exact absurd z hn
     |false=>rfl
  have B:=a M k;refine⟨_,rfl,_,rfl,v,_,c,rfl,PDF.pd g,wc,ht,hd,af oc.1 Qd,λH5 u=>⟨_,rfl,v,_,c,x,rfl,PDF.pd (g.same u),wc,hd,oc,N,λh1 h2 U t=>⟨_,rfl,q c D e h1 h2 v U (B.trans (u.trans t)) ((g.same u).same t)⟩,λh U t=>S (λc2 l2 z=>?_) _ (B.trans (u.trans t))⟩⟩;rw[e]at z;cases z;exact h
theorem uK:bD ["text","term"] ["text"] (aU s_read_term):=⟨rfl,rfl,rfl,Qk,rfl,Qk,Qk⟩
theorem CH{f:Addr}{fd:FuncData}(F:fg K "read_term" "read_term" s_read_term f fd)(T:dF K mg)(W:qC P w K mg C)(cs:dk P w K mg base 1 "split_text" ["text"] pk)(ci:DP P w K mg base 1 C ["self","words"] (sm C))(cw:∀Z:Addr->Prop,dE P w K mg base 69 "read_whole_term" ["row","room"] (uB C ct Z 12))
  (J:dk P w K mg base 27 "show_term" ["term"] (qV 25))(cr:dE P w K mg base 27 "refuse_other_text" ["whole","shown","text"] (pq ct)):FnOk P w K mg base (kS P w) 70 f fd ["text"] (si ct (gx (bx 12))):=by
 refine F.okX uK (λvs H Q E h=>?_) (λxa A outer s H vs Q E t Wt h=>?_)
 ·obtain⟨x,rfl,_⟩:=h;rfl
 ·obtain⟨x,rfl,N,pre,q,R⟩:=h;have r1:cF 1 _:=t.mono Qd;have r2:cF 2 _:=t.mono Qd;have n:cF 27 _:=t.mono Qd;refine⟨_,(aw (aY (i:=1) uK.nd rfl (aN rfl) (cz (cw λp=>H p=none) Wt t Qr (aa (uW ci r2 Qr W.mgC (aa (aJ cs r1 Qr (aa (pv 0) ac)) ac)) (aa (cN T.deep Qr) ac))))
   (aw (dJ (cz cr Wt n Qr (aa (pv 1) (aa (aJ J n Qr (aa (pv 1) ac)) (aa (pv 0) ac)))))
   (am (aR (pv 1))))),?_⟩
  refine⟨_,rfl,x,rfl,N,λl H1 s1 m r dx d k L=>⟨r,dx,l,rfl,ak,rfl,?_⟩⟩;rw[rR];have lr:l≠r:=λz=>by rw[z,d]at m;cases m
  have ld:l≠dx:=λz=>by rw[z,k]at m;cases m
  have V:ge C (λp=>H p=none) (upd (upd H1 dx (.own r)) r (.ins C dx (dm l 0))) r dx l (dC x) 0:=⟨ak,by rw[b5 lr,b5 ld];exact m,λp hp=>nQ s1 (jq (jq hp))⟩;have M:al H (upd (upd H1 dx (.own r)) r (.ins C dx (dm l 0))):=s1.trans ((al.new k).upd (by rw[b5 L.symm];exact d));have nr:H r=none:=by
   cases e:H r with
   |none=>rfl
   |some o=>have:=s1 _ _ e;rw[d]at this;cases this
  have a:∀{B O:Hp},al H B->Rw r B O->al H O:=λj D b o e=>D b o (λz=>by rw[z,nr]at e;cases e) (j b o e);generalize upd (upd H1 dx (.own r)) r (.ins C dx (dm l 0))=H2 at V M;have X:(dC x).drop 0=dC x:=rfl;refine⟨r,dx,l,dC x,0,rfl,V,qO N,λc G e v B i3 j R3 d3 g=>?_,λe B j=>R (λc G z=>by rw[<-X,e]at z;cases z) _ (a M j)⟩;rw[X]at e;obtain⟨wc,hd,Y⟩:=pre c G e;have ht:dY c=true:=by
   unfold gx at e;cases e1:bx 12 (dC x)with
   |none=>rw[e1]at e;cases e
   |some U=>
    rw[e1]at e;have I:(if dY U.1=true then some U else none)=some (c,G):=e;split at I
    ·rename_i hn;cases I;exact hn
    ·cases I
  have D:=a M j;refine⟨_,rfl,_,rfl,v,_,c,rfl,PDF.pd g,wc,ht,hd,af Y.1 Qd,λH5 y=>⟨_,rfl,v,_,c,x,rfl,PDF.pd (g.same y),wc,hd,Y,N,λh1 h2 S u=>⟨_,rfl,q c G e h1 h2 v S (D.trans (y.trans u)) ((g.same y).same u)⟩,λh S u=>R (λc2 l2 z=>?_) _ (D.trans (y.trans u))⟩⟩;rw[e]at z;cases z;exact h
end
def consecB:List Nat->Bool
 |x::y::r=>decide (y=x+1)&&consecB (y::r)
 |_=>true
def yE(x:Str):Bool:=(List.range x.cps.toList.length).any λi=>consecB (x.cps.toList.eraseIdx i)
def yZ:Sp:=λvs H Q _=>∃(c m k:Int),vs=[.int c,.int m,.int k]/\0<=m/\m<=26/\0<=k/\k<=100/\
 ∀(l:Addr)(ws:List Str),H l=none->ws.length=m.toNat->(∀x∈ws,hJ x=true/\yE x=true)->ws.Nodup->Q (.ref l) (upd H l (.lst (ws.map V.str)))
section
variable{P:Program}{w:World}{K:ah}{mg:Str->Option Value}{base:Heap}
def zT(base:List Nat)(k j:Nat):List Nat:=base.take k++[97+j]++base.drop k
theorem zS(base:List Nat)(k j:Nat):(zT base k j).length=base.length+1:=by
 unfold zT;simp[bT,ig];omega
theorem AV{base:List Nat}{k j:Nat}(b:∀c∈base,97<=c/\c<=122)(d:j<26):∀c∈zT base k j,97<=c/\c<=122:=by
 intro c a;unfold zT at a;rcases bY.mp a with h|h
 ·rcases bY.mp h with h|h
  ·exact b c (g_ h)
  ·have:c=97+j:=by simpa using h
   omega
 ·exact b c (jD h)
theorem Fk{base:List Nat}{k i j:Nat}(a:k<=base.length)(e:zT base k i=zT base k j):i=j:=by
 have h:∀n,(zT base k n)[k]?=some (97+n):=by
  intro n;unfold zT;rw[ax,fz (by rw[bT];omega)];simp[bT,Nat.min_eq_left a]
 have h1:=h i;rw[e,h j]at h1;have:=Option.some.inj h1;omega
def Hq(base:Str)(k j:Nat):Str:=⟨(zT base.cps.toList k j).toArray⟩
theorem C3{base:Str}{k j:Nat}(d:∀c∈base.cps.toList,97<=c/\c<=122)(e:base.length<=11)(a:j<26):hJ (Hq base k j)=true:=by
 have h1:(Hq base k j).length=base.length+1:=by
  have:=zS base.cps.toList k j;show(zT base.cps.toList k j).toArray.size=_;rw[bj,this];rfl
 unfold hJ;rw[h1,aH Qo,aH Qo];simp only[Bk,bw];intro c b;have:=AV (k:=k) d a c b;unfold kj;rw[aH this.1,aH this.2];rfl
theorem AU{base:Str}{k j:Nat}(d:k<=base.length)(c:consecB base.cps.toList=true):yE (Hq base k j)=true:=by
 unfold yE;have a:k<=base.cps.toList.length:=d;rw[tP];refine⟨k,?_,?_⟩
 ·rw[eM];show k<(zT base.cps.toList k j).length;rw[zS];omega
 ·show consecB ((zT base.cps.toList k j).eraseIdx k)=true;have e:(zT base.cps.toList k j).eraseIdx k=base.cps.toList:=by
   unfold zT;have b:(base.cps.toList.take k).length=k:=by rw[bT];omega
   rw[ax,List.eraseIdx_append_of_length_le Qo,b,Nat.sub_self];exact gQ k _
  rw[e];exact c
theorem tG(n:Nat):∀a,consecB ((List.range' a n))=true:=by
 induction n with
 |zero=>intro a;rfl
 |succ n b=>
  intro a;cases n with
  |zero=>rfl
  |succ n=>
   show(decide (a+1=a+1)&&consecB (List.range' (a+1) (n+1)))=true;rw[b (a+1),aH rfl];rfl
theorem oz:∀(l:List Nat)(n:Nat),consecB l=true->consecB (l.take n)=true
 |[],n,_=>by simp[consecB]
 |[x],n,_=>by cases n<;>simp[consecB]
 |x::y::r,0,_=>rfl
 |x::y::r,1,_=>rfl
 |x::y::r,n+2,h=>by
  have h':decide (y=x+1)=true/\consecB (y::r)=true:=fN.mp h;show(decide (y=x+1)&&consecB ((y::r).take (n+1)))=true;rw[oz (y::r) (n+1) h'.2,h'.1];rfl
theorem AT{base:Str}{k n:Nat}(a:k<=base.length):((List.range n).map (Hq base k)).Nodup:=by
 unfold List.Nodup;rw[List.pairwise_map];refine List.Pairwise.imp (λh e=>h (Fk (base:=base.cps.toList) a ?_)) List.nodup_range;have:=bL (λs:Str=>s.cps.toList) e;simpa[Hq]using this
theorem Ho{base:Str}{k j:Nat}(c:k<=base.length):Txt.slice base none (some (k:Int))++(⟨#[97+j]⟩:Str)++Txt.slice base (some (k:Int)) none=Hq base k j:=by
 have e:∀x y:Str,x.cps.toList=y.cps.toList->x=y:=λx y h=>by
  obtain⟨a⟩:=x;obtain⟨b⟩:=y;exact bL Str.mk (Array.toList_inj.mp h)
 apply e;show((Txt.slice base none (some (k:Int))).cps++#[97+j]++(Txt.slice base (some (k:Int)) none).cps).toList=_;rw[jS,jS,mQ,iz base c];rfl
theorem FO{j:Nat}(h:j<26):qB.cps.toList[j]?=some (97+j):=by
 have e:qB.cps.toList=(List.range 26).map (97+ ·):=Qk;rw[e,cE,List.getElem?_range h];rfl
theorem FJ{a b:Nat}(j:a<26)(d:a<=b)(k:b<=a+11):(Txt.slice qB (some (a:Int)) (some (b:Int))).length<=11/\consecB (Txt.slice qB (some (a:Int)) (some (b:Int))).cps.toList=true/\∀c∈(Txt.slice qB (some (a:Int)) (some (b:Int))).cps.toList,97<=c/\c<=122:=by
 have i:qB.length=26:=Qk;have e:=kl qB (a:=a) (b:=b) Qo d;refine⟨?_,?_,?_⟩
 ·show(Txt.slice qB (some (a:Int)) (some (b:Int))).cps.size<=11;rw[<-fb,e,bT];omega
 ·rw[e];have g:qB.cps.toList=List.range' 97 26:=Qk;rw[g,List.drop_range'];exact oz _ _ (tG _ _)
 ·intro c f;rw[e]at f;have h:=jD (g_ f);have:=sZ c;rw[aH h]at this;unfold kj at this;simpa using this.symm
theorem lb:bD ["_law_cell","_law_many","_law_k","_law_letters","_law_number","_law_base","_law_at"] ["_law_cell","_law_many","_law_k"] (aU s_l_words):=⟨rfl,rfl,rfl,Qk,rfl,Qk,Qk⟩
theorem CF{f:Addr}{fd:FuncData}(F:fg K "_law_words" "_law_words" s_l_words f fd)(T:dF K mg)(U:dk P w K mg base 1 "_law_mixed" ["_law_cell","_law_k"] ki):FnOk P w K mg base gW 2 f fd ["_law_cell","_law_many","_law_k"] yZ:=by
 refine F.ok lb (λvs H Q E h=>?_) (λL A outer s H vs Q E Z h=>?_)
 ·obtain⟨c,m,k,rfl,_⟩:=h;rfl
 ·obtain⟨c,m,k,rfl,B,hm,C,O,q⟩:=h;refine⟨_,aw (aY (i:=3) lb.nd rfl (yP rfl) ad)
   (aw (aY (i:=4) lb.nd rfl (aN rfl) (aJ U Z Qr (aa (pv 0) (aa (pv 2) ac))))
   (aw (aY (i:=5) lb.nd rfl (yP rfl) (bM cK (pv 3) (bi (aF dv (pv 4) ai)) (bi (aF bK (aF dv (pv 4) ai) (aF dv (aF fP (pv 4) ai) ai)))))
   (aw (aY (i:=6) lb.nd rfl (yP rfl) (aF dv (aF fP (pv 4) ai) (aF bK (bP cP Qr T.len gc (aa (pv 5) ac)) ai)))
   (am (aR (kq (N:=["_law_j","_law_at","_law_base","_law_letters"]) (xs:=1) (js:=[6,5,3]) rfl (dD rfl) (iC rfl T.range (aa (pv 1) ac))
    (λ_ _ _ _=>db (i:=0) (show List.Nodup (["_law_j","_law_at","_law_base","_law_letters"]:List Str)by decide+kernel) rfl (aN rfl)) (λ_ _ _ _=>jI)
    (λ_ _ _ _=>aF aM (aF aM (bM cK (pv 2) fj (bi (pv 1))) (bE qa (pv 3) (pv 0) (λ_ _=>rfl))) (bM cK (pv 2) (bi (pv 1)) fj)))))))),?_⟩
  refine⟨_,rfl,_,rfl,c,k,rfl,C,O,λn hn=>?_⟩;have I:qB.length=26:=Qk;refine⟨_,rfl,_,rfl,_,_,rfl,rfl,(by show(0:Int)<26;decide),_,rfl,_,rfl,_,_,rfl,rfl,(by show(0:Int)<26;decide),_,rfl,_,_,rfl,rfl,⟨Qd,Qd⟩,_,_,rfl,rfl,(by show(0:Int)<12;decide),_,_,rfl,rfl,_,rfl,qB,rfl,(by rw[I];decide),?_⟩;obtain⟨a,ha⟩:=eN (cX n (by decide:(26:Int)≠0));obtain⟨d,hd⟩:=eN (cX (n/26) (by decide:(12:Int)≠0));have v:a<26:=by have:=df n (by decide:(0:Int)<26);omega
  have Y:d<12:=by have:=df (n/26) (by decide:(0:Int)<12);omega
  obtain⟨u,D,G⟩:=FJ (a:=a) (b:=a+d) v Qo Qo;have R:Txt.slice qB (some (n%26)) (some (n%26+n/26%12))=Txt.slice qB (some (a:Int)) (some ((a+d:Nat):Int)):=by rw[ha,hd];rfl
  rw[R];generalize Txt.slice qB (some (a:Int)) (some ((a+d:Nat):Int))=bs at u G D;have z:bs.length<=sizeLine:=af u Qd;refine⟨_,rfl,_,_,rfl,rfl,⟨Qd,Qd⟩,_,rfl,bs,rfl,z,_,_,rfl,rfl,_,_,rfl,rfl,(by show(0:Int)<(bs.length:Int)+1;omega),?_⟩;obtain⟨t,ht⟩:=eN (cX (n/312) (by omega:((bs.length:Int)+1)≠0));have l:t<=bs.length:=by have:=df (n/312) (by omega:(0:Int)<(bs.length:Int)+1);omega
  dsimp only;rw[ht];obtain⟨M,rfl⟩:=eN B;have J:M<=26:=Qo;refine⟨_,rfl,M,rfl,Qo,Qo,ky (n:=(M:Int).toNat) (λi g e H'=>i<=M/\H'=H/\g=((List.range i).map (Hq bs t)).map V.str/\∃o,e=[o,some (.int t),some (.str bs),some (.str qB)])
   ⟨bV _,rfl,rfl,none,rfl⟩ (λi g e H' h=>?_) ?_ (λi g e H' hi h=>?_) (λg e H' h p hp=>?_)⟩
  ·obtain⟨_,rfl,rfl,o,rfl⟩:=h;simp
  ·rw[kW];exact af J Qd
  ·obtain⟨h0,rfl,rfl,o,rfl⟩:=h;rw[kW]at hi;have l1:(Txt.slice bs none (some (t:Int))).length<=11:=af (Txt.slice_le _ _ _) u;have l2:(Txt.slice bs (some (t:Int)) none).length<=11:=af (Txt.slice_le _ _ _) u;have l3:((⟨#[97+i]⟩:Str)).length=1:=rfl;have X:∀x y:Str,(x++y).length=x.length+y.length:=λx y=>Array.size_append;have xa:(26:Nat)<=sizeLine:=Qd;refine⟨_,rfl,_,rfl,_,rfl,bs,rfl,z,_,rfl,_,rfl,qB,_,97+i,rfl,rfl,(by rw[I];decide),?_,_,_,rfl,rfl,?_,_,rfl,_,rfl,_,rfl,bs,rfl,z,_,_,rfl,rfl,?_,?_⟩
   ·rw[Int.zero_add];exact fE (FO Qo)
   ·omega
   ·rw[X];omega
   ·refine⟨Qo,rfl,?_,_,rfl⟩;rw[Ho l,List.range_succ,aT,aT];rfl
  ·obtain⟨h0,rfl,rfl,o,rfl⟩:=h;rw[kW];refine q p _ hp Qs (λx W=>?_) (AT l);obtain⟨j,S,rfl⟩:=cU.mp W;exact⟨C3 G u (by have:=eM.mp S;omega),AU l D⟩
end
theorem mU{l:List Str}{q:Str×List Str}(h:rName l=some q):okN q.1=true/\l=q.1::q.2:=by
 unfold rName at h;split at h
 ·rename_i hn;cases h;cases l with
  |nil=>exact absurd hn Qk
  |cons a l=>exact⟨hn,rfl⟩
 ·cases h
theorem jH{w:Str}{l r:List Str}(hw:("":Str)≠w)(h:dG w l=some r):l=w::r:=by
 unfold dG at h;split at h
 ·rename_i hn;cases h;cases l with
  |nil=>exact absurd hn hw
  |cons a l=>rw[show a=w from hn];rfl
 ·cases h
theorem Ch:∀{n:Nat}{l:List Str}{q:List Str×List Str},kO n l=some q->q.1.length=n/\(∀x∈q.1,okN x=true)/\l=q.1++q.2
 |0,l,q,h=>by cases h;exact⟨rfl,(λ_ z=>nomatch z),rfl⟩
 |n+1,l,q,h=>by
  obtain⟨a,h1,h2⟩:=aj.mp (show(rName l).bind _=some q from h);obtain⟨b,e,d⟩:=bN.mp h2;subst d;obtain⟨k1,k2⟩:=mU h1;obtain⟨k3,k4,k5⟩:=Ch e;refine⟨bL (· +1) k3,λx c=>?_,?_⟩
  ·rcases aq.mp c with rfl|c
   ·exact k1
   ·exact k4 x c
  ·rw[k2,k5];rfl
theorem zJ:∀{l:List Str}{q:List Str×List Str},f_ l=some q->(∀x∈q.1,okN x=true)/\l=q.1.flatMap (λm=>[(",":Str),m])++q.2
 |[],q,h=>by cases h;exact⟨(λ_ z=>nomatch z),rfl⟩
 |[a],q,h=>by
  unfold f_ at h;split at h
  ·cases h
  ·cases h;exact⟨(λ_ z=>nomatch z),rfl⟩
 |a::w::l,q,h=>by
  unfold f_ at h;split at h
  ·rename_i d;split at h
   ·rename_i hw;obtain⟨b,f,e⟩:=bN.mp h;subst e;obtain⟨k4,k5⟩:=zJ f;refine⟨λx c=>?_,?_⟩
    ·rcases aq.mp c with rfl|c
     ·exact hw
     ·exact k4 x c
    ·rw[d,k5];rfl
   ·cases h
  ·cases h;exact⟨(λ_ z=>nomatch z),rfl⟩
theorem Ci{l:List Str}{q:List Str×List Str}(h:fG l=some q):(∀x∈q.1,okN x=true)/\l=gl q.1++("}":Str)::q.2:=by
 unfold fG at h;split at h
 ·rename_i hn;cases h;refine⟨(λ_ z=>nomatch z),?_⟩;cases l with
  |nil=>exact absurd hn Qk
  |cons a l=>rw[show a="}"from hn];rfl
 ·obtain⟨a,h1,h2⟩:=aj.mp h;obtain⟨b,i,f⟩:=aj.mp h2;obtain⟨c,e,g⟩:=bN.mp f;subst g;obtain⟨k1,k2⟩:=mU h1;obtain⟨k3,k4⟩:=zJ i;have k5:=jH Qk e;refine⟨λx d=>?_,?_⟩
  ·rcases aq.mp d with rfl|d
   ·exact k1
   ·exact k3 x d
  ·rw[k2,k4,k5];rfl
theorem sH{l:List Str}{q:Ks×List Str}(h:ic l=some q):tU q.1/\l=mF q.1++q.2:=by
 unfold ic at h;split at h
 ·rename_i hn;cases h;refine⟨trivial,?_⟩;cases l with
  |nil=>exact absurd hn Qk
  |cons a l=>rw[show a="all"from hn];rfl
 ·split at h
  ·rename_i hn;obtain⟨b,d,c⟩:=bN.mp h;subst c;obtain⟨k1,k2⟩:=mU d;refine⟨⟨hn,k1⟩,?_⟩;cases l with
   |nil=>exact absurd hn Qk
   |cons a l=>rw[show l=_ from k2];rfl
  ·split at h
   ·rename_i hn;obtain⟨b,d,c⟩:=bN.mp h;subst c;obtain⟨k1,k2⟩:=Ci d;refine⟨k1,?_⟩;cases l with
    |nil=>exact absurd hn Qk
    |cons a l=>
     rw[show a="{"from hn,show l=_ from k2];show _=("{":Str)::(gl b.1++[("}":Str)])++b.2;rw[cR,ax];rfl
   ·cases h
theorem xI{w:Str}{n:Int}(h:km w=some n):qP n/\numT n=w:=by
 unfold km at h;split at h
 ·rename_i hn;cases h;have e:=(j8 hn).1;have a:numT (i_ w.cps.toList)=w:=du e;exact⟨⟨by rw[a];exact hn,by rw[a]⟩,a⟩
 ·cases h
theorem EE{l:List Str}{n:Int}(h:km (hd l)=some n):l=numT n::l.tail:=by
 cases l with
 |nil=>
  have:km ("":Str)=none:=Qk;rw[show km (hd [])=km ("":Str)from rfl,this]at h;cases h
 |cons a l=>rw[(xI h).2];rfl
theorem EG{l:List Str}{q:Cl×List Str}(h:jX l=some q):wf q.1/\rn q.1=1/\("cost":Str)::l=wd q.1++q.2:=by
 obtain⟨a,h1,h2⟩:=aj.mp (show(rName l).bind _=some q from h);obtain⟨b,k,g⟩:=aj.mp h2;obtain⟨c,f,i⟩:=aj.mp g;obtain⟨d,e,j⟩:=bN.mp i;subst j;obtain⟨k1,k2⟩:=mU h1;obtain⟨k3,k4⟩:=mU k;have k5:=jH Qk f;refine⟨⟨k1,k3,(xI e).1⟩,rfl,?_⟩;rw[k2,k4,k5,EE e];rfl
def DM(f:lG)(m:Nat):Prop:=∀l q,f l=some q->wf q.1/\rn q.1<=m/\l=wd q.1++q.2
theorem Bt{f:lG}{m:Nat}(S:DM f m){l:List Str}{q:Cl×List Str}(h:gx f l=some q):dY q.1=true/\wf q.1/\rn q.1<=m/\l=wd q.1++q.2:=by
 obtain⟨a,h1,h2⟩:=aj.mp (show(f l).bind _=some q from h);have b:(if dY a.1=true then some a else none)=some q:=h2;split at b
 ·rename_i c;cases b;exact⟨c,S l _ h1⟩
 ·cases b
theorem Gk{f:lG}{m:Nat}(S:DM f m):DM (jh f) m:=λl q h=>by
 obtain⟨a,h1,h2⟩:=aj.mp (show(f l).bind _=some q from h);have d:(if dY a.1=false\/hd a.2≠"<="then some a else(gx f a.2.tail).map λp=>(Cl.atm a.1 p.1,p.2))=some q:=h2;obtain⟨w1,g,i⟩:=S l a h1;split at d
 ·cases d;exact⟨w1,g,i⟩
 ·rename_i hn;have t:dY a.1=true:=by
   cases e:dY a.1 with
   |true=>rfl
   |false=>exact absurd (.inl e) hn
  have c:hd a.2="<=":=by
   by_cases z:hd a.2="<="
   ·exact z
   ·exact absurd (.inr z) hn
  obtain⟨b,o,j⟩:=bN.mp d;subst j;obtain⟨s,w2,n,u⟩:=Bt S o;refine⟨⟨t,s,w1,w2⟩,Nat.max_le.mpr ⟨g,n⟩,?_⟩;have k:a.2=("<=":Str)::a.2.tail:=by
   cases ea:a.2 with
   |nil=>rw[ea]at c;exact absurd c Qk
   |cons x y=>rw[ea]at c;rw[show x="<="from c];rfl
  rw[i,k,u];show _=(wd a.1++("<=":Str)::wd b.1)++b.2;rw[ax];rfl
theorem Gm{f:lG}{m:Nat}(S:DM f m){l:List Str}{q:Cl×List Str}(h:i9 f l=some q):dY q.1=false/\wf q.1/\rn q.1<=m/\l=wd q.1++q.2:=by
 obtain⟨a,h1,h2⟩:=aj.mp (show(jh f l).bind _=some q from h);have b:(if dY a.1=true then none else some a)=some q:=h2;split at b
 ·cases b
 ·rename_i c;cases b;refine⟨?_,Gk S l _ h1⟩;cases e:dY q.1 with
  |true=>exact absurd e c
  |false=>rfl
theorem KJ{f:lG}{m:Nat}(S:DM f m){w:Str}(hw:w="each"\/w="some"){l:List Str}{q:Cl×List Str}(h:jW f w l=some q):wf q.1/\rn q.1<=m+1/\w::l=wd q.1++q.2:=by
 unfold jW at h;split at h
 ·rename_i e;obtain⟨a,h1,h2⟩:=aj.mp h;obtain⟨b,t,n⟩:=aj.mp h2;obtain⟨c,j,o⟩:=aj.mp n;obtain⟨d,s,p⟩:=bN.mp o;subst p;have k1:=jH Qk h1;obtain⟨k2,k3⟩:=sH t;have k4:=jH Qk j;obtain⟨i,w1,u,k⟩:=Gm S s;refine⟨⟨hw,e,k2,i,w1⟩,(by show 1+rn d.1<=m+1;omega),?_⟩;have g:l=hd l::l.tail:=by
   cases l with
   |nil=>exact absurd e Qk
   |cons x y=>rfl
  conv=>lhs;rw[g]
  rw[k1,k3,k4,k];show _=w::hd l::("in":Str)::(mF b.1++(":":Str)::wd d.1)++d.2;simp only[cR,ax]
 ·cases h
theorem Iu{f:lG}{m:Nat}(S:DM f m){w:Str}(hw:w="least"\/w="most"){l:List Str}{q:Cl×List Str}(h:oE f w l=some q):wf q.1/\rn q.1<=m+1/\w::l=wd q.1++q.2:=by
 unfold oE at h;obtain⟨a,h1,h2⟩:=aj.mp h;obtain⟨b,x,o⟩:=aj.mp h2;obtain⟨c,k,p⟩:=aj.mp o;obtain⟨d,t,s⟩:=aj.mp p;obtain⟨e,i,g⟩:=bN.mp s;subst g;have k1:=jH Qk h1;obtain⟨j,w1,y,n⟩:=Bt S x;have k4:=jH Qk k;obtain⟨u,w2,z,v⟩:=Bt S t;have k5:=jH Qk i;refine⟨⟨hw,j,u,w1,w2⟩,(by show 1+max (rn b.1) (rn d.1)<=m+1;omega),?_⟩;rw[k1,n,k4,v,k5];show _=w::("(":Str)::(wd b.1++(",":Str)::(wd d.1++[(")":Str)]))++e;simp only[cR,ax,ix]
theorem K3{f:lG}{m:Nat}(S:DM f m){l:List Str}{q:Cl×List Str}(h:tQ f l=some q):wf q.1/\rn q.1<=m+1/\("(":Str)::l=wd q.1++q.2:=by
 unfold tQ at h;obtain⟨a,h1,h2⟩:=aj.mp h;obtain⟨b,t,p⟩:=aj.mp h2;obtain⟨c,k,s⟩:=aj.mp p;obtain⟨w1,v,i⟩:=Gk S _ _ h1;obtain⟨w2,w,j⟩:=Gk S _ _ t;have k5:=jH Qk k;have g:∀x:Str,("":Str)≠x->hd a.2=x->a.2=x::a.2.tail:=λx o z=>by
  cases ea:a.2 with
  |nil=>rw[ea]at z;exact absurd z o
  |cons u y=>rw[ea]at z;rw[show u=x from z];rfl
 have e:(if hd a.2="+"/\dY a.1=true/\dY b.1=true then some (Cl.plus a.1 b.1,c)else if(hd a.2="and"\/hd a.2="or")/\dY a.1=false/\dY b.1=false then some (Cl.bin (hd a.2) a.1 b.1,c)else none)=some q:=s;split at e
 ·rename_i d;cases e;refine⟨⟨d.2.1,d.2.2,w1,w2⟩,(by show 1+max (rn a.1) (rn b.1)<=m+1;omega),?_⟩;rw[i,g _ Qk d.1,j,k5];show _=("(":Str)::(wd a.1++("+":Str)::(wd b.1++[(")":Str)]))++c;simp only[cR,ax,ix]
 ·split at e
  ·rename_i d;cases e;refine⟨⟨d.1,d.2.1,d.2.2,w1,w2⟩,(by show 1+max (rn a.1) (rn b.1)<=m+1;omega),?_⟩;have n:=g (hd a.2) (by rcases d.1 with z|z<;>rw[z]<;>decide+kernel) rfl;show _=("(":Str)::(wd a.1++hd a.2::(wd b.1++[(")":Str)]))++c
   conv=>lhs;rw[i,n,j,k5]
   simp only[cR,ax,ix]
  ·cases e
theorem K0{f:lG}{m:Nat}(S:DM f m){w:Str}{l:List Str}{q:Cl×List Str}(h:Cj f w l=some q):wf q.1/\rn q.1<=m+1/\w::l=wd q.1++q.2:=by
 unfold Cj at h;obtain⟨n,h1,h2⟩:=aj.mp h;obtain⟨k1,k2⟩:=xI h1;have b:(if hd l≠"*"then some (Cl.num n,l)else if n<0 then none else(gx f l.tail).map λq=>(Cl.tim n q.1,q.2))=some q:=h2;split at b
 ·cases b;refine⟨k1,(by show 1<=m+1;omega),?_⟩;rw[<-k2];rfl
 ·rename_i d;split at b
  ·cases b
  ·rename_i hn;obtain⟨a,k,g⟩:=bN.mp b;subst g;obtain⟨e,w1,o,j⟩:=Bt S k;refine⟨⟨Qo,k1,e,w1⟩,(by show 1+rn a.1<=m+1;omega),?_⟩;have c:hd l="*":=by
    by_cases z:hd l="*"
    ·exact z
    ·exact absurd z d
   have i:l=("*":Str)::l.tail:=by
    cases l with
    |nil=>exact absurd c Qk
    |cons u y=>rw[show u="*"from c];rfl
   rw[i,j,<-k2];rfl
theorem Fz{f:lG}{m:Nat}(S:DM f m):DM (firstOf f) (m+1):=λl q h=>by
 unfold firstOf at h;have cons:∀{x:Str},("":Str)≠x->hd l=x->l=x::l.tail:=λ{x}j z=>by
  cases l with
  |nil=>exact absurd z j
  |cons u y=>rw[show u=x from z];rfl
 split at h
 ·rename_i n hn;obtain⟨a,g,d⟩:=bN.mp h;subst d;obtain⟨k1,k2,k3⟩:=Ch g;refine⟨⟨by rw[k1];exact hn,k2⟩,(by show 1<=m+1;omega),?_⟩;have e:=cons (x:=hd l) (λz=>by rw[<-z,show nb ("":Str)=none from by decide+kernel]at hn;cases hn) rfl
  conv=>lhs;rw[e,k3]
  rfl
 ·rename_i o;split at h
  ·rename_i c;obtain⟨k1,k2,k3⟩:=EG h;exact⟨k1,Qo,by rw[cons Qk c];exact k3⟩
  split at h
  ·rename_i c;obtain⟨a,g,d⟩:=bN.mp h;subst d;obtain⟨i,w1,t,k⟩:=Gm S g;refine⟨⟨i,w1⟩,(by show 1+rn a.1<=m+1;omega),?_⟩;rw[cons Qk c,k];rfl
  split at h
  ·rename_i c;obtain⟨k1,k2,k3⟩:=KJ S c h;refine⟨k1,k2,?_⟩;rw[<-k3];exact cons (by rcases c with z|z<;>rw[z]<;>decide+kernel) rfl
  split at h
  ·rename_i c;obtain⟨a,g,d⟩:=bN.mp h;subst d;obtain⟨k1,k2⟩:=sH g;refine⟨k1,(by show 1<=m+1;omega),?_⟩;rw[cons Qk c,k2];rfl
  split at h
  ·rename_i c;obtain⟨a,g,d⟩:=aj.mp h;obtain⟨b,p,s⟩:=bN.mp d;subst s;obtain⟨k1,k2⟩:=sH g;obtain⟨k3,k4⟩:=sH p;refine⟨⟨k1,k3⟩,(by show 1<=m+1;omega),?_⟩;rw[cons Qk c,k2,k4];show _=("pairs":Str)::(mF a.1++mF b.1)++b.2;simp only[cR,ax]
  split at h
  ·rename_i c;obtain⟨k1,k2,k3⟩:=Iu S c h;refine⟨k1,k2,?_⟩;rw[<-k3];exact cons (by rcases c with z|z<;>rw[z]<;>decide+kernel) rfl
  split at h
  ·rename_i c;obtain⟨k1,k2,k3⟩:=K3 S h;refine⟨k1,k2,?_⟩;rw[<-k3];exact cons Qk c
  ·obtain⟨k1,k2,k3⟩:=K0 S h;refine⟨k1,k2,?_⟩;rw[<-k3];refine cons (λz=>?_) rfl;rw[<-z]at h;obtain⟨n,h1,_⟩:=aj.mp (show(km ("":Str)).bind _=some q from h);rw[show km ("":Str)=none from by decide+kernel]at h1;cases h1
theorem IM:∀m:Nat,DM (bx m) m
 |0=>λl q h=>nomatch h
 |m+1=>Fz (IM m)
def gh:List Str:=["ring","round","way","must","flow","apart","bare"]
theorem pZ{x:Str}{n:Nat}(h:nb x=some n):x∈gh:=by
 unfold nb at h;unfold gh
 repeat' split at h
 all_goals first|(cases h;done)|(rename_i e;rw[e];simp)
def qu(x:Str):Prop:=∀z∈x.cps.toList,z<128
def K4(x:Str):Bool:=x.cps.toList.all λz=>decide (z<128)
theorem dX{x:Str}(h:K4 x=true):qu x:=λz a=>bb (bw.mp h z a)
theorem qu.app{x y:Str}(a:qu x)(b:qu y):qu (x++y):=λz c=>by
 rw[bC]at c;rcases bY.mp c with h|h
 ·exact a z h
 ·exact b z h
theorem qu.nil:qu Str.empty:=λz a=>nomatch a
theorem jx{s:Str}(b:qu s):∀{l:List Str},(∀x∈l,qu x)->qu (Str.join s l)
 |[],_=>λz a=>nomatch a
 |[x],h=>by rw[cV];exact h x aA
 |x::y::l,h=>by
  rw[cC];exact(h x aA).app (b.app (jx b λz a=>h z (aB _ a)))
theorem kb{x:Str}(h:okN x=true):qu x:=λc a=>by
 rcases dR.mp h with h|h
 ·have:=mx h c a;omega
 ·unfold jz at h;simp only[bc,bw]at h;have:=h.2 c a;unfold bS at this;simp only[bc,aD]at this;omega
theorem FM{x:Str}(h:jz x=true):qu x:=kb (by unfold okN;rw[h,iX])
theorem tN{n:Int}(h:qP n):qu (numT n):=λc a=>by
 have:=lQ h.1 c a;omega
theorem oY:∀{s:Ks},tU s->qu (ir s)
 |.all,_=>dX Qk
 |.of w n,h=>jx (dX Qk) λx a=>by
  simp only[aq,a_,or_false]at a;rcases a with rfl|rfl
  ·rcases h.1 with rfl|rfl
   ·exact dX Qk
   ·exact dX Qk
  ·exact kb h.2
 |.these ns,h=>((dX Qk).app (jx (dX Qk) λx a=>kb (h x a))).app (dX Qk)
theorem iT:∀{c:Cl},wf c->qu (tx c)
 |.nm w ns,h=>jx (dX Qk) λx d=>by
  rcases aq.mp d with rfl|d
  ·have:=pZ h.1;unfold gh at this;simp only[aq,a_,or_false]at this;rcases this with rfl|rfl|rfl|rfl|rfl|rfl|rfl<;>exact dX Qk
  ·exact kb (h.2 x d)
 |.cost a b n,h=>((jx (dX Qk) λx d=>by
  simp only[aq,a_,or_false]at d;rcases d with rfl|rfl|rfl
  ·exact dX Qk
  ·exact kb h.1
  ·exact kb h.2.1).app (dX Qk)).app (tN h.2.2)
 |.num n,h=>tN h
 |.size s,h=>jx (dX Qk) λx d=>by
  simp only[aq,a_,or_false]at d;rcases d with rfl|rfl
  ·exact dX Qk
  ·exact oY h
 |.pairs s t,h=>jx (dX Qk) λx d=>by
  simp only[aq,a_,or_false]at d;rcases d with rfl|rfl|rfl
  ·exact dX Qk
  ·exact oY h.1
  ·exact oY h.2
 |.atm a b,h=>((iT h.2.2.1).app (dX Qk)).app (iT h.2.2.2)
 |.neg a,h=>(dX Qk).app (iT h.2)
 |.bin w a b,h=>(dX Qk).app ((iT h.2.2.2.1).app ((dX Qk).app (qu.app (by rcases h.1 with rfl|rfl<;>exact dX Qk) ((dX Qk).app ((iT h.2.2.2.2).app ((dX Qk).app qu.nil))))))
 |.plus a b,h=>(dX Qk).app ((iT h.2.2.1).app ((dX Qk).app ((iT h.2.2.2).app ((dX Qk).app qu.nil))))
 |.two w a b,h=>qu.app (by rcases h.1 with rfl|rfl<;>exact dX Qk) ((dX Qk).app ((iT h.2.2.2.1).app ((dX Qk).app ((iT h.2.2.2.2).app ((dX Qk).app qu.nil)))))
 |.ov w v s a,h=>qu.app (by rcases h.1 with rfl|rfl<;>exact dX Qk) ((dX Qk).app ((FM h.2.1).app ((dX Qk).app ((oY h.2.2.1).app ((dX Qk).app ((iT h.2.2.2.2).app qu.nil))))))
 |.tim n a,h=>((tN h.2.1).app (dX Qk)).app (iT h.2.2.2)
theorem iA:∀{c:Cl},wf c->rn c<=dep c/\dep c<=rn c+1/\(dY c=true->dep c=rn c)
 |.nm w ns,_=>⟨ao 1,by show 1<=2;decide,λ_=>rfl⟩
 |.cost a b n,_=>⟨ao 1,by show 1<=2;decide,λ_=>rfl⟩
 |.num n,_=>⟨ao 1,by show 1<=2;decide,λ_=>rfl⟩
 |.size s,_=>⟨ao 1,by show 1<=2;decide,λ_=>rfl⟩
 |.pairs s t,_=>⟨ao 1,by show 1<=2;decide,λ_=>rfl⟩
 |.atm a b,h=>by
  have h1:=(iA h.2.2.1).2.2 h.1;have h2:=(iA h.2.2.2).2.2 h.2.1;refine⟨?_,?_,λz=>?_⟩
  ·show max (rn a) (rn b)<=1+max (dep a) (dep b);omega
  ·show 1+max (dep a) (dep b)<=max (rn a) (rn b)+1;omega
  ·exact absurd z (by show¬decide (("atmost":Str)∈cG)=true;decide+kernel)
 |.neg a,h=>by
  have h1:=iA h.2;refine⟨?_,?_,λz=>?_⟩
  ·show 1+rn a<=1+dep a;omega
  ·show 1+dep a<=1+rn a+1;omega
  ·exact absurd z (by show¬decide (("not":Str)∈cG)=true;decide+kernel)
 |.bin w a b,h=>by
  have h1:=iA h.2.2.2.1;have h2:=iA h.2.2.2.2;refine⟨?_,?_,λz=>?_⟩
  ·show 1+max (rn a) (rn b)<=1+max (dep a) (dep b);omega
  ·show 1+max (dep a) (dep b)<=1+max (rn a) (rn b)+1;omega
  ·exact absurd z (by show¬decide (w∈cG)=true;rcases h.1 with rfl|rfl<;>decide+kernel)
 |.plus a b,h=>by
  have h1:=(iA h.2.2.1).2.2 h.1;have h2:=(iA h.2.2.2).2.2 h.2.1;have e:1+max (dep a) (dep b)=1+max (rn a) (rn b):=Qo;exact⟨gv e.symm,kT (gv e),λ_=>e⟩
 |.two w a b,h=>by
  have h1:=(iA h.2.2.2.1).2.2 h.2.1;have h2:=(iA h.2.2.2.2).2.2 h.2.2.1;have e:1+max (dep a) (dep b)=1+max (rn a) (rn b):=Qo;exact⟨gv e.symm,kT (gv e),λ_=>e⟩
 |.ov w v s a,h=>by
  have h1:=iA h.2.2.2.2;refine⟨?_,?_,λz=>?_⟩
  ·show 1+rn a<=1+dep a;omega
  ·show 1+dep a<=1+rn a+1;omega
  ·exact absurd z (by show¬decide (w∈cG)=true;rcases h.1 with rfl|rfl<;>decide+kernel)
 |.tim n a,h=>by
  have h1:=(iA h.2.2.2).2.2 h.2.2.1;have e:1+dep a=1+rn a:=Qo;exact⟨gv e.symm,kT (gv e),λ_=>e⟩
def me(ws:List Str):Nat:=(ws.map λw=>w.length+2).sum
theorem dZ(w:Str)(l:List Str):me (w::l)=w.length+2+me l:=by
 unfold me;rw[b7,gF]
theorem jN(l m:List Str):me (l++m)=me l+me m:=by
 unfold me;rw[aT,mJ]
theorem kZ:me []=0:=rfl
theorem Gv(l:List Str):(l.map (·.length)).sum +2*l.length=me l:=by
 induction l with
 |nil=>rfl
 |cons a l b=>
  rw[dZ,b7,gF,aK,<-b];omega
theorem nj{z:Str}(b:z.length<=2)(l:List Str):(Str.join z l).length<=me l:=by
 cases l with
 |nil=>exact bV _
 |cons a r=>
  have e:=nk z (a::r) (b_ _ _);have c:=Gv (a::r);have d:(a::r).length *z.length<=(a::r).length *2:=Gd _ b;omega
theorem IJ(ns:List Str):me ns<=me (gl ns):=by
 cases ns with
 |nil=>exact ao _
 |cons n r=>
  show me (n::r)<=me (n::r.flatMap λm=>[(",":Str),m]);rw[dZ,dZ];have:me r<=me (r.flatMap λm=>[(",":Str),m]):=by
   induction r with
   |nil=>exact ao _
   |cons a r b=>
    rw[dZ,List.flatMap_cons,jN,dZ,dZ,kZ];omega
  omega
theorem rW:∀{s:Ks},(ir s).length<=me (mF s)
 |.all=>nj Qk _
 |.of w n=>nj Qk _
 |.these ns=>by
  show((("{":Str)++Str.join ", " ns)++("}":Str)).length<=me (("{":Str)::(gl ns++[("}":Str)]));have h1:=nj (z:=", ") Qk ns;have h2:=IJ ns;have b:("{":Str).length=1:=Qk;have a:("}":Str).length=1:=Qk;rw[ag,ag,dZ,jN,dZ,kZ];omega
theorem kH:∀{c:Cl},(tx c).length<=me (wd c)
 |.nm w ns=>nj Qk _
 |.cost a b n=>by
  show((Str.join " " ["cost",a,b]++(" <= ":Str))++numT n).length<=me [("cost":Str),a,b,"<=",numT n];have h1:=nj (z:=" ") Qk ["cost",a,b];have d:(" <= ":Str).length=4:=Qk;have e:("<=":Str).length=2:=Qk;rw[ag,ag];simp only[dZ,kZ]at h1⊢;omega
 |.num n=>by
  show(numT n).length<=me [numT n];rw[dZ];omega
 |.size s=>by
  have h1:=rW (s:=s);show(Str.join " " ["size",ir s]).length<=me (("size":Str)::mF s);have d:(" ":Str).length=1:=Qk;rw[cC,cV,ag,ag,dZ];omega
 |.pairs s t=>by
  have h1:=rW (s:=s);have h2:=rW (s:=t);show(Str.join " " ["pairs",ir s,ir t]).length<=me (("pairs":Str)::(mF s++mF t));have d:(" ":Str).length=1:=Qk;rw[cC,cC,cV,ag,ag,ag,ag,dZ,jN];omega
 |.atm a b=>by
  have h1:=kH (c:=a);have h2:=kH (c:=b);show((tx a++(" <= ":Str))++tx b).length<=me (wd a++("<=":Str)::wd b);have d:(" <= ":Str).length=4:=Qk;have e:("<=":Str).length=2:=Qk;rw[ag,ag,jN,dZ];omega
 |.neg a=>by
  have h1:=kH (c:=a);show(("not ":Str)++tx a).length<=me (("not":Str)::wd a);have d:("not ":Str).length=4:=Qk;have e:("not":Str).length=3:=Qk;rw[ag,dZ];omega
 |.bin w a b=>by
  have h1:=kH (c:=a);have h2:=kH (c:=b);show(("(":Str)++(tx a++((" ":Str)++(w++((" ":Str)++(tx b++((")":Str)++Str.empty))))))).length<=me (("(":Str)::(wd a++w::(wd b++[(")":Str)])));have d:("(":Str).length=1:=Qk;have e:(")":Str).length=1:=Qk;have f:(" ":Str).length=1:=Qk;have h:Str.empty.length=0:=Qk;simp only[ag,dZ,jN,kZ];omega
 |.plus a b=>by
  have h1:=kH (c:=a);have h2:=kH (c:=b);show(("(":Str)++(tx a++((" + ":Str)++(tx b++((")":Str)++Str.empty))))).length<=me (("(":Str)::(wd a++("+":Str)::(wd b++[(")":Str)])));have d:("(":Str).length=1:=Qk;have e:(")":Str).length=1:=Qk;have f:(" + ":Str).length=3:=Qk;have g:("+":Str).length=1:=Qk;have h:Str.empty.length=0:=Qk;simp only[ag,dZ,jN,kZ];omega
 |.two w a b=>by
  have h1:=kH (c:=a);have h2:=kH (c:=b);show(w++(("(":Str)++(tx a++((", ":Str)++(tx b++((")":Str)++Str.empty)))))).length<=me (w::("(":Str)::(wd a++(",":Str)::(wd b++[(")":Str)])));have d:("(":Str).length=1:=Qk;have e:(")":Str).length=1:=Qk;have f:(", ":Str).length=2:=Qk;have g:(",":Str).length=1:=Qk;have h:Str.empty.length=0:=Qk;simp only[ag,dZ,jN,kZ];omega
 |.ov w v s a=>by
  have h1:=rW (s:=s);have h2:=kH (c:=a);show(w++((" ":Str)++(v++((" in ":Str)++(ir s++((": ":Str)++(tx a++Str.empty))))))).length<=me (w::v::("in":Str)::(mF s++(":":Str)::wd a));have d:(" ":Str).length=1:=Qk;have e:(" in ":Str).length=4:=Qk;have f:(": ":Str).length=2:=Qk;have g:(":":Str).length=1:=Qk;have i:("in":Str).length=2:=Qk;have h:Str.empty.length=0:=Qk;simp only[ag,dZ,jN,kZ];omega
 |.tim n a=>by
  have h2:=kH (c:=a);show((numT n++(" * ":Str))++tx a).length<=me (numT n::("*":Str)::wd a);have f:(" * ":Str).length=3:=Qk;have g:("*":Str).length=1:=Qk;simp only[ag,dZ,jN,kZ];omega
theorem Ae(w:List Nat):((wL w).map λt=>t.length+2).sum<=3*w.length:=by
 unfold wL;split
 ·exact bV _
 ·rename_i h;have:1<=w.length:=e_.mpr h;show w.length+2+0<=_;omega
theorem rY:∀(l w:List Nat),((tk w l).map λt=>t.length+2).sum<=3*(w.length+l.length)
 |[],w=>Ae w
 |c::r,w=>by
  have h0:=Ae w;unfold tk;rw[aK];split
  ·have:=rY r [];rw[aT,mJ];simp only[bZ]at this;omega
  ·split
   ·have:=rY r [];rw[aT,mJ,b7,gF];simp only[bZ,cZ]at this⊢;omega
   ·have:=rY r (w++[c]);rw[ae,cZ]at this;omega
def rdB(b:Bool):lG:=if b=true then i9 (bx 12)else gx (bx 12)
theorem GA(L:List (List Nat)):me (L.map mkS)=(L.map λt=>t.length+2).sum:=by
 induction L with
 |nil=>rfl
 |cons a l b=>
  rw[b7,dZ,b,b7,gF];rfl
theorem GJ{x:Str}(j:x.length<=2660){b:Bool}{c:Cl}{a:List Str}(e:rdB b (dC x)=some (c,a)):wf c/\dY c=!b/\dep c<=25/\okX (tx c):=by
 have S:=IM 12;have key:dY c=(!b)/\wf c/\rn c<=12/\dC x=wd c++a:=by
  cases b with
  |true=>exact Gm S (show i9 (bx 12) (dC x)=some (c,a)from e)
  |false=>exact Bt S (show gx (bx 12) (dC x)=some (c,a)from e)
 obtain⟨h1,h2,k,h⟩:=key;refine⟨h2,h1,?_,?_,λz i=>mE (iT h2 z i) Qd⟩
 ·have:=(iA h2).2.1;omega
 ·have l:=kH (c:=c);have d:=bL me h;unfold dC at d;rw[GA,jN]at d;have f:=rY x.cps.toList [];have g:x.cps.toList.length=x.length:=bQ x;rw[g]at f;simp only[bZ]at f;omega
def oA(b:Bool)(x:Str):Prop:=∃c,wf c/\dY c=(!b)/\dep c<=12/\tx c=x
theorem Dp(w:Str)(h:("":Str)≠w):hd []≠w:=h
theorem GI{c:Cl}{b:Bool}(w:wf c)(i:dY c=!b)(d:dep c<=12):rdB b (dC (tx c))=some (c,[]):=by
 rw[Bv w];have R:=reads c w;have a:rn c<=12:=af (iA w).1 d;cases b with
 |true=>
  have:=Bw R.1 i a (Dp "*" Qk);rw[bq]at this;exact this
 |false=>
  have:=qN (R.2 (iR i)) i a (Dp "*" Qk);rw[bq]at this;exact this
abbrev mG:=Bool×Nat×List Nat
abbrev PF:=List Nat->Option mG
def cO(c:Nat):Bool:=decide (97<=c)&&decide (c<=122)
def gY(c:Nat):Bool:=cO c||bS c
def fW(c:Nat):Bool:=decide (c=45)||(decide (48<=c)&&decide (c<=57))
def bp(p l:List Nat):Option (List Nat):=if l.take p.length=p then some (l.drop p.length)else none
def lq(l:List Nat):Option (List Nat):=(bp [32] l).bind λr=>if okN (mkS (r.takeWhile gY))=true then some (r.dropWhile gY)else none
def gq:Nat->List Nat->Option (List Nat)
 |0,l=>some l
 |n+1,l=>(lq l).bind (gq n)
def jc(l:List Nat):Option (List Nat):=if gn (l.takeWhile fW)=true then some (l.dropWhile fW)else none
def jt:Nat->List Nat->Option (List Nat)
 |0,_=>none
 |n+1,l=>match bp [44] l with
  |some r=>(lq r).bind (jt n)
  |none=>bp [125] l
def fF(l:List Nat):Option (List Nat):=match bp [32,123] l with
 |some r=>match bp [125] r with
  |some a=>some a
  |none=>(lq (32::r)).bind λa=>jt (a.length+1) a
 |none=>(bp [32] l).bind λr=>if r.takeWhile cO=[97,108,108]then some (r.dropWhile cO)else if r.takeWhile cO=[102,114,111,109]\/r.takeWhile cO=[116,111]then lq (r.dropWhile cO)else none
def mh(l:List Nat):Option (List Nat):=(gq 2 l).bind λr=>(bp [32,60,61,32] r).bind jc
def fullOf(f:PF):PF:=λl=>(f l).bind λq=>if q.1=true then match bp [32,60,61,32] q.2.2 with
 |some r=>(f r).bind λp=>if p.1=true then some (false,1+max q.2.1 p.2.1,p.2.2)else none
 |none=>some q else some q
def jG(f:PF):PF:=λl=>(f l).bind λq=>(bp [44,32] q.2.2).bind λr=>(f r).bind λp=>(bp [41] p.2.2).bind λa=>if q.1=p.1 then some (q.1,1+max q.2.1 p.2.1,a)else none
def oJ(f:PF):PF:=λl=>(fullOf f l).bind λq=>if q.1=true then
  (bp [32,43,32] q.2.2).bind λr=>(f r).bind λp=>(bp [41] p.2.2).bind λa=>if q.1=p.1 then some (q.1,1+max q.2.1 p.2.1,a)else none
 else(match bp [32,97,110,100,32] q.2.2 with
  |some r=>some r
  |none=>bp [32,111,114,32] q.2.2).bind λr=>(fullOf f r).bind λp=>(bp [41] p.2.2).bind λa=>if q.1=p.1 then some (q.1,1+max q.2.1 p.2.1,a)else none
def ed(f:PF):PF:=λl=>(fullOf f l).bind λq=>if q.1=true then none else some (false,1+q.2.1,q.2.2)
def gT(f:PF):PF:=λl=>(bp [32] l).bind λr=>if 1<=(r.takeWhile bS).length/\(r.takeWhile bS).length<=3 then
 (bp [32,105,110] (r.dropWhile bS)).bind λa=>(fF a).bind λb=>(bp [58,32] b).bind (ed f)else none
def j9(f:PF):PF:=λl=>(jc l).bind λr=>match bp [32,42,32] r with
 |some a=>if l.head?=some 45 then some (true,1,r)else(f a).bind λp=>if p.1=true then some (true,1+p.2.1,p.2.2)else none
 |none=>some (true,1,r)
def fV(t:Bool)(o:Option (List Nat)):Option mG:=o.map λr=>(t,1,r)
def wordOf(f:PF)(w r:List Nat):Option mG:=
 if w=[114,105,110,103]\/w=[114,111,117,110,100]then some (false,1,r)
 else if w=[119,97,121]then fV false (gq 2 r)else if w=[109,117,115,116]then fV false (gq 3 r)
 else if w=[102,108,111,119]\/w=[97,112,97,114,116]\/w=[98,97,114,101]then fV true (gq 2 r)
 else if w=[99,111,115,116]then fV false (mh r)
 else if w=[115,105,122,101]then fV true (fF r)
 else if w=[112,97,105,114,115]then(fF r).bind λa=>fV true (fF a)
 else if w=[101,97,99,104]\/w=[115,111,109,101]then gT f r
 else if w=[108,101,97,115,116]\/w=[109,111,115,116]then(bp [40] r).bind λa=>(jG f a).bind λq=>if q.1=true then some q else none
 else if w=[110,111,116]then(bp [32] r).bind (ed f)else none
def c_(f:PF):PF:=λl=>match bp [40] l with
 |some r=>oJ f r
 |none=>match l.head? with
  |some c=>if fW c=true then j9 f l else wordOf f (l.takeWhile cO) (l.dropWhile cO)
  |none=>none
def thE:Nat->PF
 |0=>λ_=>none
 |n+1=>c_ (thE n)
theorem dH{p l r:List Nat}(h:bp p l=some r):l=p++r:=by
 unfold bp at h;split at h
 ·rename_i e;cases h;have:=gQ p.length l;rw[e]at this;exact this.symm
 ·cases h
theorem gs(p r:List Nat):bp p (p++r)=some r:=by
 unfold bp;rw[List.take_left,aO rfl,oi]
theorem mf{p l:List Nat}(h:∀r,l≠p++r):bp p l=none:=by
 cases e:bp p l with
 |none=>rfl
 |some r=>exact absurd (dH e) (h r)
theorem nJ{p:Nat->Bool}{w r:List Nat}(hw:∀c∈w,p c=true)(e:∀c,r.head?=some c->p c=false):(w++r).takeWhile p=w/\(w++r).dropWhile p=r:=by
 induction w with
 |nil=>
  cases r with
  |nil=>exact⟨rfl,rfl⟩
  |cons c r=>
   have:=e c rfl;exact⟨by simp[this],by simp[this]⟩
 |cons a w d=>
  obtain⟨h1,h2⟩:=d λc f=>hw c (aB _ f);have b:=hw a aA;exact⟨by simp[b,h1],by simp[b,h2]⟩
def eO(c:Cl):List Nat:=(tx c).cps.toList
def ia(s:Ks):List Nat:=(ir s).cps.toList
theorem sU{x:Str}(h:okN x=true):∀c∈x.cps.toList,gY c=true:=λc a=>by
 unfold gY;rcases dR.mp h with h|h
 ·have:=mx h c a;unfold cO;rw[aH this.1,aH this.2];rfl
 ·unfold jz at h;simp only[bc,bw]at h;rw[h.2 c a,iX]
def DN(r:List Nat):Prop:=∀c,r.head?=some c->gY c=false
theorem zU{x:Str}(h:okN x=true){r:List Nat}(a:DN r):lq (32::(x.cps.toList++r))=some r:=by
 unfold lq;rw[show(32::(x.cps.toList++r))=[32]++(x.cps.toList++r)from rfl,gs];obtain⟨h1,h2⟩:=nJ (sU h) a;show(if okN (mkS ((x.cps.toList++r).takeWhile gY))=true then some ((x.cps.toList++r).dropWhile gY)else none)=_;rw[h1,h2,ku,aO h]
theorem rj{l r:List Nat}(h:lq l=some r):∃x:Str,okN x=true/\l=32::(x.cps.toList++r):=by
 obtain⟨a,h1,h2⟩:=aj.mp (show(bp [32] l).bind _=some r from h);have b:(if okN (mkS (a.takeWhile gY))=true then some (a.dropWhile gY)else none)=some r:=h2;split at b
 ·rename_i c;cases b;refine⟨_,c,?_⟩;rw[dH h1];show 32::a=32::(a.takeWhile gY++a.dropWhile gY);rw[bI]
 ·cases b
def uE(ns:List Str):List Nat:=ns.flatMap λn=>32::n.cps.toList
theorem C2{r:List Nat}(a:DN r):∀{ns:List Str},(∀n∈ns,okN n=true)->gq ns.length (uE ns++r)=some r
 |[],_=>rfl
 |n::ns,h=>by
  show(lq (32::n.cps.toList++uE ns++r)).bind _=_;rw[cR,cR,ax,zU (h n aA)]
  ·exact C2 a λx b=>h x (aB _ b)
  ·cases ns with
   |nil=>exact a
   |cons m ns=>intro c d;cases d;rfl
theorem rh:∀{n:Nat}{l r:List Nat},gq n l=some r->∃ns:List Str,ns.length=n/\(∀x∈ns,okN x=true)/\l=uE ns++r
 |0,l,r,h=>by cases h;exact⟨[],rfl,(λ_ z=>nomatch z),rfl⟩
 |n+1,l,r,h=>by
  obtain⟨a,h1,h2⟩:=aj.mp (show(lq l).bind _=some r from h);obtain⟨x,c,e⟩:=rj h1;obtain⟨ns,k1,k2,k3⟩:=rh h2;refine⟨x::ns,bL (· +1) k1,λy b=>?_,?_⟩
  ·rcases aq.mp b with rfl|b
   ·exact c
   ·exact k2 y b
  ·rw[e,k3];show _=(32::x.cps.toList++uE ns)++r;simp only[cR,ax]
def La(r:List Nat):Prop:=∀c,r.head?=some c->fW c=false
theorem sW{l:List Nat}(h:gn l=true):∀c∈l,fW c=true:=λc a=>by
 unfold fW;rcases lQ h c a with h|⟨h1,h2⟩
 ·rw[aH h];rfl
 ·rw[aH h1,aH h2,Bool.and_self,iX]
theorem CY{n:Int}(h:qP n){r:List Nat}(a:La r):jc ((numT n).cps.toList++r)=some r:=by
 unfold jc;obtain⟨h1,h2⟩:=nJ (sW h.1) a;rw[h1,h2,aO h.1]
theorem zQ{l r:List Nat}(h:jc l=some r):∃n,qP n/\l=(numT n).cps.toList++r/\(numT n).cps.toList=l.takeWhile fW:=by
 unfold jc at h;split at h
 ·rename_i a;cases h;have e:=(j8 a).1;refine⟨i_ (l.takeWhile fW),⟨by rw[e];exact a,by rw[e]⟩,?_,e⟩;rw[e,bI]
 ·cases h
def Bm(ns:List Str):List Nat:=ns.flatMap λn=>44::32::n.cps.toList
def gN:List Str->List Nat
 |[]=>[]
 |n::r=>n.cps.toList++Bm r
theorem z_:∀ns:List Str,(Str.join ", " ns).cps.toList=gN ns
 |[]=>rfl
 |[n]=>by
  rw[cV];exact(bq _).symm
 |n::m::r=>by
  rw[cC,bC,bC,z_ (m::r)];rfl
theorem ni(w:Str):∀ns:List Str,(Str.join " " (w::ns)).cps.toList=w.cps.toList++uE ns
 |[]=>by
  rw[cV];exact(bq _).symm
 |n::r=>by
  rw[cC,bC,bC,ni n r];rfl
theorem pY(r:List Nat):DN (32::r):=λc h=>by cases h;rfl
theorem C0(r:List Nat):DN (44::r):=λc h=>by cases h;rfl
theorem zR(r:List Nat):DN (125::r):=λc h=>by cases h;rfl
theorem DN.low{r:List Nat}(h:DN r):∀c,r.head?=some c->cO c=false:=λc a=>by
 have:=h c a;unfold gY at this;exact(dh.mp this).1
theorem DN.great{r:List Nat}(h:DN r):∀c,r.head?=some c->bS c=false:=λc a=>by
 have:=h c a;unfold gY at this;exact(dh.mp this).2
theorem C6{r:List Nat}:∀{ns:List Str}{n:Nat},(∀x∈ns,okN x=true)->ns.length<n->jt n (Bm ns++125::r)=some r
 |[],n+1,_,_=>by
  show(match bp [44] (125::r)with|some r1=>(lq r1).bind (jt n)|none=>bp [125] (125::r))=_;rw[mf (λb z=>by cases z)];exact gs [125] r
 |x::ns,n+1,h,hn=>by
  rw[show(Bm (x::ns)++125::r)=[44]++(32::(x.cps.toList++(Bm ns++125::r)))from by
   show(44::32::x.cps.toList++Bm ns)++125::r=_;simp]
  unfold jt;rw[gs];show(lq _).bind _=_;rw[zU (h x aA)]
  ·exact C6 (λy a=>h y (aB _ a)) (by simpa using hn)
  ·cases ns with
   |nil=>exact zR r
   |cons m ns=>exact C0 _
theorem C5:∀{n:Nat}{l r:List Nat},jt n l=some r->∃ns:List Str,(∀x∈ns,okN x=true)/\l=Bm ns++125::r
 |n+1,l,r,h=>by
  have h':(match bp [44] l with|some b=>(lq b).bind (jt n)|none=>bp [125] l)=some r:=h;cases e:bp [44] l with
  |none=>
   rw[e]at h';exact⟨[],(λ_ z=>nomatch z),dH (p:=[125]) h'⟩
  |some b=>
   rw[e]at h';obtain⟨a,h1,h2⟩:=aj.mp (show(lq b).bind _=some r from h');obtain⟨x,d,f⟩:=rj h1;obtain⟨ns,k1,k2⟩:=C5 h2;refine⟨x::ns,λy c=>?_,?_⟩
   ·rcases aq.mp c with rfl|c
    ·exact d
    ·exact k1 y c
   ·rw[dH e,f,k2];show _=(44::32::x.cps.toList++Bm ns)++125::r;simp
theorem t8:ia .all=[97,108,108]:=by unfold ia;decide+kernel
theorem rX{w:Str}(n:Str):ia (.of w n)=w.cps.toList++32::n.cps.toList:=by
 unfold ia;show(Str.join " " [w,n]).cps.toList=_;rw[ni];show _++(32::n.cps.toList++[])=_;rw[bq]
theorem mm(ns:List Str):ia (.these ns)=123::(gN ns++[125]):=by
 unfold ia;show((("{":Str)++Str.join ", " ns)++("}":Str)).cps.toList=_;rw[bC,bC,z_];rfl
theorem CQ{x:Str}(h:okN x=true):∃c r,x.cps.toList=c::r/\gY c=true:=by
 have p:=(gj h).1;cases e:x.cps.toList with
 |nil=>exact absurd e p
 |cons c r=>exact⟨c,r,rfl,sU h c (by rw[e];exact aA)⟩
theorem zD{s:Ks}(h:tU s){r:List Nat}(o:DN r):fF (32::(ia s++r))=some r:=by
 unfold fF;cases s with
 |all=>
  rw[t8,mf (λq z=>by cases z),show(32::([97,108,108]++r))=[32]++([97,108,108]++r)from rfl,gs];obtain⟨h1,h2⟩:=nJ (p:=cO) (w:=[97,108,108]) Qd o.low;show(if([97,108,108]++r).takeWhile cO=[97,108,108]then some (([97,108,108]++r).dropWhile cO)else _)=_;rw[h1,h2,aO rfl]
 |of w n=>
  obtain⟨hw,hn⟩:=h;rw[rX];have key:w.cps.toList=[102,114,111,109]\/w.cps.toList=[116,111]:=by rcases hw with rfl|rfl<;>decide+kernel
  have d:∀c∈w.cps.toList,cO c=true:=by rcases key with k|k<;>rw[k]<;>decide
  have j:w.cps.toList≠ [97,108,108]:=by rcases key with k|k<;>rw[k]<;>decide
  obtain⟨f,i,g,b⟩:∃f i,w.cps.toList=f::i/\f≠123:=by
   rcases key with k|k
   ·exact⟨_,_,k,Qd⟩
   ·exact⟨_,_,k,Qd⟩
  generalize w.cps.toList=ww at*;rw[mf (λq z=>by rw[g]at z;injection z with z1 z2;injection z2 with z3;exact b z3)];rw[show(32::(ww++32::n.cps.toList++r))=[32]++(ww++32::(n.cps.toList++r))from by simp,gs];obtain⟨h1,h2⟩:=nJ (p:=cO) (r:=32::(n.cps.toList++r)) d (pY _).low;show(if(ww++32::(n.cps.toList++r)).takeWhile cO=[97,108,108]then _ else if(ww++32::(n.cps.toList++r)).takeWhile cO=[102,114,111,109]\/(ww++32::(n.cps.toList++r)).takeWhile cO=[116,111]then lq ((ww++32::(n.cps.toList++r)).dropWhile cO)else none)=_;rw[h1,h2,aG j,aO key];exact zU hn o
 |these ns=>
  rw[mm,show(32::(123::(gN ns++[125])++r))=[32,123]++(gN ns++125::r)from by simp,gs];show(match bp [125] (gN ns++125::r)with|some e=>some e|none=>(lq (32::(gN ns++125::r))).bind λe=>jt (e.length+1) e)=_;cases ns with
  |nil=>
   rw[show(gN []++125::r)=[125]++r from rfl,gs]
  |cons n ns=>
   have hn:=h n aA;obtain⟨f,i,g,b⟩:=CQ hn;rw[mf (λq z=>by
    rw[show gN (n::ns)=n.cps.toList++Bm ns from rfl,g]at z;injection z with z1
    rw[z1]at b;exact absurd b Qd)]
   show(lq (32::(n.cps.toList++Bm ns++125::r))).bind _=_;rw[ax,zU hn]
   ·refine C6 (λy t=>h y (aB _ t)) ?_;have:ns.length<=(Bm ns).length:=by
     clear h;induction ns with
     |nil=>exact ao _
     |cons a l u=>
      show _<=(44::32::a.cps.toList++Bm l).length;simp only[aK,ae];omega
    rw[ae,aK];omega
   ·cases ns with
    |nil=>exact zR r
    |cons m ns=>exact C0 _
theorem qX{l r:List Nat}(h:fF l=some r):∃s,tU s/\l=32::(ia s++r):=by
 unfold fF at h;split at h
 ·rename_i i b;have b:=dH b;split at h
  ·rename_i g c;cases h;refine⟨.these [],(λ_ z=>nomatch z),?_⟩;rw[b,dH c,mm];rfl
  ·obtain⟨a,h1,h2⟩:=aj.mp h;obtain⟨x,d,c⟩:=rj h1;obtain⟨ns,k1,k2⟩:=C5 h2;injection c with _ c
   refine⟨.these (x::ns),λy f=>?_,?_⟩
   ·rcases aq.mp f with rfl|f
    ·exact d
    ·exact k1 y f
   ·rw[b,c,k2,mm];show _=32::(123::((x.cps.toList++Bm ns)++[125])++r);simp
 ·obtain⟨a,h1,h2⟩:=aj.mp h;have b:=dH h1;have e:=bI (p:=cO) (l:=a);split at h2
  ·rename_i hw;cases h2;refine⟨.all,trivial,?_⟩;rw[b,t8,<-hw,e];rfl
  ·split at h2
   ·rename_i hw;obtain⟨x,d,c⟩:=rj h2;rcases hw with hw|hw
    ·refine⟨.of "from" x,⟨.inl rfl,d⟩,?_⟩;rw[b,rX,show("from":Str).cps.toList=[102,114,111,109]from by decide+kernel,<-hw]
     conv=>lhs;rw[<-e,c]
     simp
    ·refine⟨.of "to" x,⟨.inr rfl,d⟩,?_⟩;rw[b,rX,show("to":Str).cps.toList=[116,111]from by decide+kernel,<-hw]
     conv=>lhs;rw[<-e,c]
     simp
   ·cases h2
theorem F4:(" <= ":Str).cps.toList=[32,60,61,32]:=Qk
theorem Hw:("not ":Str).cps.toList=[110,111,116,32]:=Qk
theorem Dd:("(":Str).cps.toList=[40]:=Qk
theorem De:(")":Str).cps.toList=[41]:=Qk
theorem zX:(" ":Str).cps.toList=[32]:=Qk
theorem Jp:(" + ":Str).cps.toList=[32,43,32]:=Qk
theorem Jr:(", ":Str).cps.toList=[44,32]:=Qk
theorem Hx:(" in ":Str).cps.toList=[32,105,110,32]:=Qk
theorem Jq:(": ":Str).cps.toList=[58,32]:=Qk
theorem Jo:(" * ":Str).cps.toList=[32,42,32]:=Qk
theorem Fr:("cost":Str).cps.toList=[99,111,115,116]:=Qk
theorem Fq:("size":Str).cps.toList=[115,105,122,101]:=Qk
theorem Db:("pairs":Str).cps.toList=[112,97,105,114,115]:=Qk
theorem zY:(Str.empty:Str).cps.toList=[]:=rfl
theorem rT(w:Str)(ns:List Str):eO (.nm w ns)=w.cps.toList++uE ns:=ni w ns
theorem tZ(a b:Str)(n:Int):eO (.cost a b n)=[99,111,115,116]++(uE [a,b]++([32,60,61,32]++(numT n).cps.toList)):=by
 unfold eO;show((Str.join " " ["cost",a,b]++(" <= ":Str))++numT n).cps.toList=_;rw[bC,bC,ni,F4,Fr];simp
theorem D9(n:Int):eO (.num n)=(numT n).cps.toList:=rfl
theorem tX(s:Ks):eO (.size s)=[115,105,122,101]++32::ia s:=by
 unfold eO ia;show(Str.join " " ["size",ir s]).cps.toList=_;rw[cC,cV,bC,bC,zX,Fq];rfl
theorem qS(s t:Ks):eO (.pairs s t)=[112,97,105,114,115]++32::(ia s++32::ia t):=by
 unfold eO ia;show(Str.join " " ["pairs",ir s,ir t]).cps.toList=_;rw[cC,cC,cV,bC,bC,bC,bC,zX,Db];rfl
theorem yW(a b:Cl):eO (.atm a b)=eO a++([32,60,61,32]++eO b):=by
 unfold eO;show((tx a++(" <= ":Str))++tx b).cps.toList=_;rw[bC,bC,F4,ax]
theorem yU(a:Cl):eO (.neg a)=[110,111,116,32]++eO a:=by
 unfold eO;show(("not ":Str)++tx a).cps.toList=_;rw[bC,Hw]
theorem yV(w:Str)(a b:Cl):eO (.bin w a b)=40::(eO a++32::(w.cps.toList++32::(eO b++[41]))):=by
 unfold eO;show(("(":Str)++(tx a++((" ":Str)++(w++((" ":Str)++(tx b++((")":Str)++Str.empty))))))).cps.toList=_;simp only[bC,Dd,zX,De,zY];simp
theorem tY(a b:Cl):eO (.plus a b)=40::(eO a++([32,43,32]++(eO b++[41]))):=by
 unfold eO;show(("(":Str)++(tx a++((" + ":Str)++(tx b++((")":Str)++Str.empty))))).cps.toList=_;simp only[bC,Dd,Jp,De,zY];simp
theorem yS(w:Str)(a b:Cl):eO (.two w a b)=w.cps.toList++40::(eO a++([44,32]++(eO b++[41]))):=by
 unfold eO;show(w++(("(":Str)++(tx a++((", ":Str)++(tx b++((")":Str)++Str.empty)))))).cps.toList=_;simp only[bC,Dd,Jr,De,zY];simp
theorem BA(w v:Str)(s:Ks)(a:Cl):eO (.ov w v s a)=w.cps.toList++32::(v.cps.toList++([32,105,110]++(32::(ia s++([58,32]++eO a))))):=by
 unfold eO ia;show(w++((" ":Str)++(v++((" in ":Str)++(ir s++((": ":Str)++(tx a++Str.empty))))))).cps.toList=_;simp only[bC,zX,Hx,Jq,zY];simp
theorem yT(n:Int)(a:Cl):eO (.tim n a)=(numT n).cps.toList++([32,42,32]++eO a):=by
 unfold eO;show((numT n++(" * ":Str))++tx a).cps.toList=_;rw[bC,bC,Jo,ax]
def qD(f:PF):Prop:=∀l q,f l=some q->∃c,wf c/\nl c=false/\dY c=q.1/\dep c=q.2.1/\l=eO c++q.2.2
theorem qf{f:PF}(S:qD f){l:List Nat}{q:mG}(h:fullOf f l=some q):∃c,wf c/\dY c=q.1/\dep c=q.2.1/\l=eO c++q.2.2:=by
 obtain⟨a,h1,h2⟩:=aj.mp (show(f l).bind _=some q from h);obtain⟨c,w1,_,e,d,i⟩:=S l a h1;split at h2
 ·rename_i o;split at h2
  ·rename_i r m;obtain⟨b,t,j⟩:=aj.mp h2;obtain⟨k,w2,_,n,s,p⟩:=S _ b t;split at j
   ·rename_i g;cases j;refine⟨.atm c k,⟨by rw[e];exact o,by rw[n];exact g,w1,w2⟩,?_,?_,?_⟩
    ·show decide (("atmost":Str)∈cG)=false;decide+kernel
    ·show 1+max (dep c) (dep k)=_;rw[d,s]
    ·rw[i,dH m,p,yW];simp
   ·cases j
  ·cases h2;exact⟨c,w1,e,d,i⟩
 ·cases h2;exact⟨c,w1,e,d,i⟩
theorem Ab{f:PF}(S:qD f){l:List Nat}{q:mG}(h:ed f l=some q):∃c,wf c/\dY c=false/\q.1=false/\1+dep c=q.2.1/\l=eO c++q.2.2:=by
 obtain⟨a,h1,h2⟩:=aj.mp (show(fullOf f l).bind _=some q from h);obtain⟨c,w1,b,g,d⟩:=qf S h1;split at h2
 ·cases h2
 ·rename_i e;cases h2;exact⟨c,w1,by rw[b];simpa using e,rfl,by rw[g],d⟩
theorem Go{f:PF}(S:qD f){l:List Nat}{q:mG}(h:jG f l=some q):∃c d,wf c/\wf d/\dY c=q.1/\dY d=q.1/\1+max (dep c) (dep d)=q.2.1/\l=eO c++([44,32]++(eO d++([41]++q.2.2))):=by
 obtain⟨a,h1,h2⟩:=aj.mp (show(f l).bind _=some q from h);obtain⟨r,v,n⟩:=aj.mp h2;obtain⟨b,j,o⟩:=aj.mp n;obtain⟨w,p,e⟩:=aj.mp o;obtain⟨c,w1,_,i,g,m⟩:=S _ _ h1;obtain⟨d,w2,_,s,u,t⟩:=S _ _ j;split at e
 ·rename_i k;cases e;exact⟨c,d,w1,w2,i,by rw[s,<-k],by rw[g,u],by rw[m,dH v,t,dH p]⟩
 ·cases e
theorem JM{f:PF}(S:qD f){l:List Nat}{q:mG}(h:oJ f l=some q):∃c,wf c/\nl c=false/\dY c=q.1/\dep c=q.2.1/\40::l=eO c++q.2.2:=by
 obtain⟨a,h1,h2⟩:=aj.mp (show(fullOf f l).bind _=some q from h);obtain⟨c,w1,v,u,x⟩:=qf S h1;split at h2
 ·rename_i d;obtain⟨r,i,m⟩:=aj.mp h2;obtain⟨b,j,n⟩:=aj.mp m;obtain⟨z,o,e⟩:=aj.mp n;obtain⟨g,w2,_,p,t,s⟩:=S _ _ j;split at e
  ·rename_i k;cases e;refine⟨.plus c g,⟨by rw[v];exact d,by rw[p,<-k];exact d,w1,w2⟩,rfl,?_,?_,?_⟩
   ·show decide (("plus":Str)∈cG)=a.1;rw[d];decide+kernel
   ·show 1+max (dep c) (dep g)=_;rw[u,t]
   ·rw[x,dH i,s,dH o,tY];simp
  ·cases e
 ·rename_i d;have d:a.1=false:=by simpa using d
  obtain⟨r,i,m⟩:=aj.mp h2;obtain⟨b,j,n⟩:=aj.mp m;obtain⟨z,o,e⟩:=aj.mp n;obtain⟨g,w2,p,t,s⟩:=qf S j;have key:∃w:Str,(w="and"\/w="or")/\a.2.2=32::(w.cps.toList++32::r):=by
   split at i
   ·rename_i B y;cases i;refine⟨"and",.inl rfl,?_⟩;rw[dH y,show("and":Str).cps.toList=[97,110,100]from by decide+kernel];rfl
   ·refine⟨"or",.inr rfl,?_⟩;rw[dH i,show("or":Str).cps.toList=[111,114]from by decide+kernel];rfl
  obtain⟨w,hw,A⟩:=key;split at e
  ·rename_i k;cases e;refine⟨.bin w c g,⟨hw,by rw[v];exact d,by rw[p,<-k];exact d,w1,w2⟩,rfl,?_,?_,?_⟩
   ·show decide (w∈cG)=a.1;rw[d];rcases hw with rfl|rfl<;>decide+kernel
   ·show 1+max (dep c) (dep g)=_;rw[u,t]
   ·rw[x,A,s,dH o,yV];simp
  ·cases e
theorem Hi{f:PF}(S:qD f){l:List Nat}{q:mG}(h:j9 f l=some q):∃c,wf c/\nl c=false/\dY c=q.1/\dep c=q.2.1/\l=eO c++q.2.2:=by
 obtain⟨r,h1,h2⟩:=aj.mp (show(jc l).bind _=some q from h);obtain⟨n,hn,d,_⟩:=zQ h1;have m:∀n:Int,dY (.num n)=true:=λn=>by show decide (("number":Str)∈cG)=true;decide+kernel
 split at h2
 ·rename_i x s;split at h2
  ·cases h2;exact⟨.num n,hn,rfl,m n,rfl,d⟩
  ·rename_i k;obtain⟨b,v,g⟩:=aj.mp h2;obtain⟨c,w1,_,p,o,t⟩:=S _ _ v;split at g
   ·rename_i u;cases g;have a:0<=n:=by
     have j:=hn.2;have i:(numT n).cps.toList ≠ []:=(jZ hn).1;cases ee:(numT n).cps.toList with
     |nil=>exact absurd ee i
     |cons w y=>
      rw[ee]at j;rw[d,ee]at k;unfold i_ at j;have e:w≠45:=λz=>k (by rw[z];rfl);rw[aG (by intro z;exact e (by simpa using z))]at j;omega
    refine⟨.tim n c,⟨a,hn,by rw[p];exact u,w1⟩,rfl,?_,?_,?_⟩
    ·show decide (("times":Str)∈cG)=true;decide+kernel
    ·show 1+dep c=_;rw[o]
    ·rw[d,dH s,t,yT];simp
   ·cases g
 ·cases h2;exact⟨.num n,hn,rfl,m n,rfl,d⟩
theorem C8{p:Nat->Bool}{c:Nat}:∀{l:List Nat},c∈l.takeWhile p->p c=true
 |a::l,h=>by
  rw[oN]at h;split at h
  ·rename_i b;rcases aq.mp h with rfl|h
   ·exact b
   ·exact C8 h
  ·cases h
theorem uS{f:PF}(S:qD f){w:Str}(hw:w="each"\/w="some"){l:List Nat}{q:mG}(h:gT f l=some q):∃c,wf c/\nl c=false/\dY c=q.1/\dep c=q.2.1/\w.cps.toList++l=eO c++q.2.2:=by
 obtain⟨r,h1,h2⟩:=aj.mp (show(bp [32] l).bind _=some q from h);split at h2
 ·rename_i a;obtain⟨z,x,n⟩:=aj.mp h2;obtain⟨A,i,o⟩:=aj.mp n;obtain⟨y,u,t⟩:=aj.mp o;obtain⟨s,ws,es⟩:=qX i;obtain⟨c,w1,g,b,e,k⟩:=Ab S t;have v:jz (mkS (r.takeWhile bS))=true:=by
   unfold jz;have m:(mkS (r.takeWhile bS)).length=(r.takeWhile bS).length:=by rw[<-bQ,zW]
   rw[m,aH a.1,aH a.2];exact bw.mpr λc j=>C8 j
  have d:=bI (p:=bS) (l:=r);refine⟨.ov w (mkS (r.takeWhile bS)) s c,⟨hw,v,ws,g,w1⟩,rfl,?_,?_,?_⟩
  ·show decide (w∈cG)=q.1;rw[b];rcases hw with rfl|rfl<;>decide+kernel
  ·exact e
  ·rw[BA,zW,dH h1]
   conv=>lhs;rw[<-d,dH x,es,dH u,k]
   simp
 ·cases h2
theorem tz{t:Bool}{o:Option (List Nat)}{q:mG}(h:fV t o=some q):∃r,o=some r/\q=(t,1,r):=by
 obtain⟨r,h1,h2⟩:=bN.mp h;exact⟨r,h1,h2.symm⟩
theorem Gj{f:PF}(S:qD f){w r:List Nat}{q:mG}(h:wordOf f w r=some q):∃c,wf c/\nl c=false/\dY c=q.1/\dep c=q.2.1/\w++r=eO c++q.2.2:=by
 have nm:∀(x:Str)(n:Nat)(t:Bool),nb x=some n->decide (x∈cG)=t->w=x.cps.toList->fV t (gq n r)=some q->∃c,wf c/\nl c=false/\dY c=q.1/\dep c=q.2.1/\w++r=eO c++q.2.2:=λx n t hn g hw E=>by
  obtain⟨i,h1,rfl⟩:=tz E;obtain⟨ns,k1,k2,k3⟩:=rh h1;refine⟨.nm x ns,⟨by rw[k1];exact hn,k2⟩,rfl,g,rfl,?_⟩;rw[rT,hw,k3,ax]
 unfold wordOf at h;split at h
 ·rename_i hw;cases h;rcases hw with hw|hw
  ·exact⟨.nm "ring" [],⟨Qk,(λ_ z=>nomatch z)⟩,rfl,by show decide (("ring":Str)∈cG)=false;decide+kernel,rfl,by rw[rT,hw];rfl⟩
  ·exact⟨.nm "round" [],⟨Qk,(λ_ z=>nomatch z)⟩,rfl,by show decide (("round":Str)∈cG)=false;decide+kernel,rfl,by rw[rT,hw];rfl⟩
 split at h
 ·rename_i hw;exact nm "way" 2 false Qk Qk (by rw[hw];decide+kernel) h
 split at h
 ·rename_i hw;exact nm "must" 3 false Qk Qk (by rw[hw];decide+kernel) h
 split at h
 ·rename_i hw;rcases hw with hw|hw|hw
  ·exact nm "flow" 2 true Qk Qk (by rw[hw];decide+kernel) h
  ·exact nm "apart" 2 true Qk Qk (by rw[hw];decide+kernel) h
  ·exact nm "bare" 2 true Qk Qk (by rw[hw];decide+kernel) h
 split at h
 ·rename_i hw;obtain⟨i,h1,rfl⟩:=tz h;obtain⟨I,h2,G⟩:=aj.mp (show(gq 2 r).bind _=some i from h1);obtain⟨H,D,y⟩:=aj.mp G;obtain⟨ns,k1,k2,k3⟩:=rh h2;obtain⟨n,hn,u,_⟩:=zQ y
  match ns,k1,k2,k3 with
  |[a,b],_,k2,k3=>
   refine⟨.cost a b n,⟨k2 a Qs,k2 b Qs,hn⟩,rfl,by show decide (("cost":Str)∈cG)=false;decide+kernel,rfl,?_⟩;rw[tZ,hw,k3,dH D,u];simp
 split at h
 ·rename_i hw;obtain⟨i,h1,rfl⟩:=tz h;obtain⟨s,ws,es⟩:=qX h1;refine⟨.size s,ws,rfl,by show decide (("size":Str)∈cG)=true;decide+kernel,rfl,?_⟩;rw[tX,hw,es];simp
 split at h
 ·rename_i hw;obtain⟨o,h0,h⟩:=aj.mp h;obtain⟨i,h1,rfl⟩:=tz h;obtain⟨s,ws,es⟩:=qX h0;obtain⟨C,k,l⟩:=qX h1;refine⟨.pairs s C,⟨ws,k⟩,rfl,by show decide (("pairs":Str)∈cG)=true;decide+kernel,rfl,?_⟩;rw[qS,hw,es,l];simp
 split at h
 ·rename_i hw;rcases hw with hw|hw
  ·have:=uS S (w:="each") (.inl rfl) h;rw[show("each":Str).cps.toList=w from by rw[hw];decide+kernel]at this;exact this
  ·have:=uS S (w:="some") (.inr rfl) h;rw[show("some":Str).cps.toList=w from by rw[hw];decide+kernel]at this;exact this
 split at h
 ·rename_i hw;obtain⟨o,h0,h⟩:=aj.mp h;obtain⟨J,h1,h2⟩:=aj.mp h;split at h2
  ·rename_i g;cases h2;obtain⟨c,B,w1,w2,j,F,d,e⟩:=Go S h1;have key:∃x:Str,(x="least"\/x="most")/\w=x.cps.toList:=by
    rcases hw with hw|hw
    ·exact⟨"least",.inl rfl,by rw[hw];decide+kernel⟩
    ·exact⟨"most",.inr rfl,by rw[hw];decide+kernel⟩
   obtain⟨x,m,ex⟩:=key;refine⟨.two x c B,⟨m,by rw[j];exact g,by rw[F];exact g,w1,w2⟩,rfl,?_,d,?_⟩
   ·show decide (x∈cG)=q.1;rw[g];rcases m with rfl|rfl<;>decide+kernel
   ·rw[yS,ex,dH h0,e];simp
  ·cases h2
 split at h
 ·rename_i hw;obtain⟨o,h0,h⟩:=aj.mp h;obtain⟨c,w1,j,p,v,A⟩:=Ab S h;refine⟨.neg c,⟨j,w1⟩,rfl,?_,v,?_⟩
  ·show decide (("not":Str)∈cG)=q.1;rw[p];decide+kernel
  ·rw[yU,hw,dH h0,A];simp
 ·cases h
theorem Ec{f:PF}(S:qD f):qD (c_ f):=λl q h=>by
 unfold c_ at h;split at h
 ·rename_i r a;have:=JM S h;rw[dH a];exact this
 ·split at h
  ·split at h
   ·exact Hi S h
   ·have:=Gj S h;rw[bI]at this;exact this
  ·cases h
theorem Ed:∀n:Nat,qD (thE n)
 |0=>λ_ _ h=>nomatch h
 |n+1=>Ec (Ed n)
structure Bn(r:List Nat):Prop where
 hd:∀c,r.head?=some c->c=32\/c=41\/c=44
 st:∀r',r≠32::42::r'
def Ic(r:List Nat):Prop:=∀a,r≠32::60::a
theorem Ei:Bn []:=⟨(λ_ h=>nomatch h),(λ_ h=>nomatch h)⟩
theorem wY(r:List Nat):Bn (41::r):=⟨λc h=>by cases h;simp,(λ_ h=>nomatch h)⟩
theorem Gw(r:List Nat):Bn (44::r):=⟨λc h=>by cases h;simp,(λ_ h=>nomatch h)⟩
theorem r_{c:Nat}(h:c≠42)(r:List Nat):Bn (32::c::r):=⟨λc h=>by cases h;simp,λa z=>by injection z with _ z;injection z with z;exact h z⟩
theorem CZ:Ic []:=λ_ h=>nomatch h
theorem Bn.noL{r:List Nat}(s:Bn r):DN r:=λc h=>by rcases s.hd c h with rfl|rfl|rfl<;>rfl
theorem Bn.noF{r:List Nat}(s:Bn r):La r:=λc h=>by rcases s.hd c h with rfl|rfl|rfl<;>rfl
theorem Hl(r:List Nat):La (32::r):=λc h=>by cases h;rfl
theorem Fp{c:Nat}(h:cO c=true):c≠40/\fW c=false:=by
 unfold cO at h;simp only[bc,aD]at h;refine⟨Qo,?_⟩;unfold fW;rw[aP (by omega:¬c=45),aH (by omega:48<=c),aP (by omega:¬c<=57)];rfl
theorem FA{c:Nat}(h:fW c=true):c≠40:=λz=>by rw[z]at h;exact absurd h Qd
theorem gy{f:PF}{w r:List Nat}(hw:w≠ [])(a:∀c∈w,cO c=true)(b:∀c,r.head?=some c->cO c=false):c_ f (w++r)=wordOf f w r:=by
 obtain⟨h1,h2⟩:=nJ a b;cases w with
 |nil=>exact absurd rfl hw
 |cons c w=>
  obtain⟨k1,k2⟩:=Fp (a c aA);unfold c_;rw[mf (p:=[40]) (λd z=>by injection z with z;exact k1 z)];show(if fW c=true then j9 f (c::w++r)else wordOf f ((c::w++r).takeWhile cO) ((c::w++r).dropWhile cO))=_;rw[k2,aG ba,h1,h2]
theorem BE{f:PF}{n:Int}(h:qP n)(r:List Nat):c_ f ((numT n).cps.toList++r)=j9 f ((numT n).cps.toList++r):=by
 have a:=(jZ h).1;have d:=sW h.1;generalize(numT n).cps.toList=w at a d;cases w with
 |nil=>exact absurd rfl a
 |cons c w=>
  have b:=d c aA;unfold c_;rw[mf (p:=[40]) (λe z=>by injection z with z;exact FA b z)];show(if fW c=true then j9 f (c::w++r)else _)=_;rw[aO b]
theorem Fx{f:PF}{l r:List Nat}{t:Bool}{d:Nat}(h:f l=some (t,d,r))(hn:t=true->Ic r):fullOf f l=some (t,d,r):=by
 unfold fullOf;rw[h];show(if t=true then match bp [32,60,61,32] r with|some r1=>(f r1).bind λp=>if p.1=true then some (false,1+max d p.2.1,p.2.2)else none|none=>some (t,d,r)else some (t,d,r))=_;cases t with
 |false=>rw[aG ba]
 |true=>
  rw[aO rfl,mf (p:=[32,60,61,32]) (λa z=>hn rfl _ z)]
def Be(c:Cl):Prop:=∀n r,(eO c++r).length <n->Bn r->thE n (eO c++r)=some (dY c,dep c,r)
def Lg(c:Cl):Prop:=∀n r,(eO c++r).length <n->Bn r->(dY c=true->Ic r)->fullOf (thE n) (eO c++r)=some (dY c,dep c,r)
theorem lA{c:Cl}(h:Be c):Lg c:=λn r h1 h2 a=>Fx (h n r h1 h2) a
theorem Ac{c:Cl}(h:Lg c)(a:dY c=false){n:Nat}{r:List Nat}(h1:(eO c++r).length <n)(h2:Bn r):ed (thE n) (eO c++r)=some (false,1+dep c,r):=by
 unfold ed;rw[h n r h1 h2 (λz=>by rw[a]at z;cases z),a];rfl
theorem td{w:Str}(h:(w.cps.toList.all cO)=true):∀c∈w.cps.toList,cO c=true:=bw.mp h
theorem Da(r:List Nat):∀c,(32::r).head?=some c->cO c=false:=(pY r).low
theorem Cr{n:Int}(h:0<=n)(r:List Nat):((numT n).cps.toList++r).head? ≠some 45:=by
 obtain⟨m,rfl⟩:=eN h;rw[m6];have a:=Ah m;have dd:=n0 m;cases e:dg m with
 |nil=>exact absurd e a
 |cons c l=>
  intro z;have b:c=45:=by simpa using z
  have:=dd c (by rw[e];exact aA);omega
theorem iS:∀c:Cl,wf c->(nl c=false->Be c)/\Lg c
 |.nm w ns,h=>by
  have key:Be (.nm w ns):=λn r hn g=>by
   cases n with
   |zero=>exact absurd hn (dB _)
   |succ n=>
    rw[rT,ax];have f:∀c,(uE ns++r).head?=some c->cO c=false:=by
     cases ns with
     |nil=>exact g.noL.low
     |cons a l=>exact Da _
    have o:=C2 g.noL h.2;have d:=h.1;have hw:=pZ d;unfold gh at hw;simp only[aq,a_,or_false]at hw;show c_ (thE n) _=_;rcases hw with rfl|rfl|rfl|rfl|rfl|rfl|rfl
    ·have h0:ns=[]:=by cases ns with|nil=>rfl|cons a l=>rw[show nb "ring"=some 0 from by decide+kernel]at d;cases d
     subst h0;rw[gy Qk (td Qk) f,show("ring":Str).cps.toList=[114,105,110,103]from by decide+kernel];rfl
    ·have h0:ns=[]:=by cases ns with|nil=>rfl|cons a l=>rw[show nb "round"=some 0 from by decide+kernel]at d;cases d
     subst h0;rw[gy Qk (td Qk) f,show("round":Str).cps.toList=[114,111,117,110,100]from by decide+kernel];rfl
    ·have h0:ns.length=2:=by rw[show nb "way"=some 2 from by decide+kernel]at d;exact(Option.some.inj d).symm
     rw[h0]at o;rw[gy Qk (td Qk) f,show("way":Str).cps.toList=[119,97,121]from by decide+kernel];show fV false (gq 2 (uE ns++r))=_;rw[o];rfl
    ·have h0:ns.length=3:=by rw[show nb "must"=some 3 from by decide+kernel]at d;exact(Option.some.inj d).symm
     rw[h0]at o;rw[gy Qk (td Qk) f,show("must":Str).cps.toList=[109,117,115,116]from by decide+kernel];show fV false (gq 3 (uE ns++r))=_;rw[o];rfl
    ·have h0:ns.length=2:=by rw[show nb "flow"=some 2 from by decide+kernel]at d;exact(Option.some.inj d).symm
     rw[h0]at o;rw[gy Qk (td Qk) f,show("flow":Str).cps.toList=[102,108,111,119]from by decide+kernel];show fV true (gq 2 (uE ns++r))=_;rw[o];rfl
    ·have h0:ns.length=2:=by rw[show nb "apart"=some 2 from by decide+kernel]at d;exact(Option.some.inj d).symm
     rw[h0]at o;rw[gy Qk (td Qk) f,show("apart":Str).cps.toList=[97,112,97,114,116]from by decide+kernel];show fV true (gq 2 (uE ns++r))=_;rw[o];rfl
    ·have h0:ns.length=2:=by rw[show nb "bare"=some 2 from by decide+kernel]at d;exact(Option.some.inj d).symm
     rw[h0]at o;rw[gy Qk (td Qk) f,show("bare":Str).cps.toList=[98,97,114,101]from by decide+kernel];show fV true (gq 2 (uE ns++r))=_;rw[o];rfl
  exact⟨λ_=>key,lA key⟩
 |.cost a b k,h=>by
  have key:Be (.cost a b k):=λn r hn g=>by
   cases n with
   |zero=>exact absurd hn (dB _)
   |succ n=>
    rw[tZ,ax];show c_ (thE n) _=_;rw[gy Qd Qd (by intro c u;cases u;rfl)];show fV false (mh (uE [a,b]++([32,60,61,32]++(numT k).cps.toList)++r))=_;unfold mh;rw[ax,ax,show gq 2 (uE [a,b]++([32,60,61,32]++((numT k).cps.toList++r)))=some ([32,60,61,32]++((numT k).cps.toList++r))from C2 (ns:=[a,b]) (pY _) (by
     intro x F;simp only[aq,a_,or_false]at F;rcases F with rfl|rfl
     ·exact h.1
     ·exact h.2.1)]
    show fV false ((bp [32,60,61,32] ([32,60,61,32]++((numT k).cps.toList++r))).bind jc)=_;rw[gs];show fV false (jc ((numT k).cps.toList++r))=_;rw[CY h.2.2 g.noF];rfl
  exact⟨λ_=>key,lA key⟩
 |.num k,h=>by
  have key:Be (.num k):=λn r hn g=>by
   cases n with
   |zero=>exact absurd hn (dB _)
   |succ n=>
    rw[D9];show c_ (thE n) _=_;rw[BE h];unfold j9;rw[CY h g.noF];show(match bp [32,42,32] r with|some y=>_|none=>some (true,1,r))=_;rw[mf (p:=[32,42,32]) (λG z=>g.st _ z)];rfl
  exact⟨λ_=>key,lA key⟩
 |.size s,h=>by
  have key:Be (.size s):=λn r hn g=>by
   cases n with
   |zero=>exact absurd hn (dB _)
   |succ n=>
    rw[tX,ax];show c_ (thE n) _=_;rw[gy Qd Qd (by intro c u;cases u;rfl)];show fV true (fF (32::(ia s++r)))=_;rw[zD h g.noL];rfl
  exact⟨λ_=>key,lA key⟩
 |.pairs s t,h=>by
  have key:Be (.pairs s t):=λn r hn g=>by
   cases n with
   |zero=>exact absurd hn (dB _)
   |succ n=>
    rw[qS,ax];show c_ (thE n) _=_;rw[gy Qd Qd (by intro c u;cases u;rfl)];show(fF (32::((ia s++32::ia t)++r))).bind _=_;rw[ax,zD h.1 (r:=32::ia t++r) (pY _)];show fV true (fF (32::(ia t++r)))=_;rw[zD h.2 g.noL];rfl
  exact⟨λ_=>key,lA key⟩
 |.atm a b,h=>by
  have m:=(iS a h.2.2.1).1 (iR h.1);have A:=(iS b h.2.2.2).1 (iR h.2.1);refine⟨(λz=>nomatch z),λn r hn g _=>?_⟩;rw[yW,ax]at hn⊢;rw[ax]at hn⊢;have h1:=m n ([32,60,61,32]++(eO b++r)) hn (r_ Qd _);have h2:=A n r (by simp only[ae]at hn⊢;omega) g;rw[h.1]at h1;rw[h.2.1]at h2;unfold fullOf;simp only[h1,ie,if_true,gs,h2];show some (false,1+max (dep a) (dep b),r)=some (dY (.atm a b),dep (.atm a b),r);rw[show dY (.atm a b)=false from by show decide (("atmost":Str)∈cG)=false;decide+kernel];rfl
 |.neg a,h=>by
  have m:=(iS a h.2).2;have key:Be (.neg a):=λn r hn g=>by
   cases n with
   |zero=>exact absurd hn (dB _)
   |succ n=>
    rw[yU]at hn⊢;show c_ (thE n) ([110,111,116]++32::(eO a++r))=_;rw[gy Qd Qd (Da _)];show(bp [32] ([32]++(eO a++r))).bind (ed (thE n))=_;rw[gs];show ed (thE n) (eO a++r)=_;rw[Ac m h.1 (by simp only[ae,aK,bZ]at hn⊢;omega) g];rw[show dY (.neg a)=false from by show decide (("not":Str)∈cG)=false;decide+kernel];rfl
  exact⟨λ_=>key,lA key⟩
 |.bin w a b,h=>by
  have m:=(iS a h.2.2.2.1).2;have A:=(iS b h.2.2.2.2).2;have key:Be (.bin w a b):=λn r hn g=>by
   cases n with
   |zero=>exact absurd hn (dB _)
   |succ n=>
    have e:eO (.bin w a b)++r=[40]++(eO a++(32::(w.cps.toList++32::(eO b++([41]++r))))):=by
     rw[yV];simp
    rw[e]at hn⊢;show c_ (thE n) _=_;unfold c_;rw[gs];show oJ (thE n) _=_;unfold oJ;have D:Bn (32::(w.cps.toList++32::(eO b++([41]++r)))):=by
     rcases h.1 with rfl|rfl
     ·rw[show("and":Str).cps.toList=[97,110,100]from by decide+kernel];exact r_ Qd _
     ·rw[show("or":Str).cps.toList=[111,114]from by decide+kernel];exact r_ Qd _
    rw[m n _ (by simp only[ae,aK,bZ]at hn⊢;omega) D (λz=>by rw[h.2.1]at z;cases z),h.2.1];show((match bp [32,97,110,100,32] (32::(w.cps.toList++32::(eO b++([41]++r))))with|some y=>some y|none=>bp [32,111,114,32] (32::(w.cps.toList++32::(eO b++([41]++r))))).bind λy=>(fullOf (thE n) y).bind λp=>(bp [41] p.2.2).bind λJ=>if false=p.1 then some (false,1+max (dep a) p.2.1,J)else none)=_;have B:(match bp [32,97,110,100,32] (32::(w.cps.toList++32::(eO b++([41]++r))))with|some y=>some y|none=>bp [32,111,114,32] (32::(w.cps.toList++32::(eO b++([41]++r)))))=some (eO b++([41]++r)):=by
     rcases h.1 with rfl|rfl
     ·rw[show("and":Str).cps.toList=[97,110,100]from by decide+kernel,show(32::([97,110,100]++32::(eO b++([41]++r))))=[32,97,110,100,32]++(eO b++([41]++r))from rfl,gs]
     ·rw[show("or":Str).cps.toList=[111,114]from by decide+kernel,mf (p:=[32,97,110,100,32]) (λG z=>by injection z with _ z;injection z with z;cases z),show(32::([111,114]++32::(eO b++([41]++r))))=[32,111,114,32]++(eO b++([41]++r))from rfl,gs]
    have j:=A n ([41]++r) (by simp only[ae,aK,bZ]at hn⊢;omega) (wY r) (λz=>by rw[h.2.2.1]at z;cases z);rw[h.2.2.1]at j;rw[B];simp only[ie,j,gs,if_true];rw[show dY (.bin w a b)=false from by show decide (w∈cG)=false;rcases h.1 with rfl|rfl<;>decide+kernel];rfl
  exact⟨λ_=>key,lA key⟩
 |.plus a b,h=>by
  have m:=(iS a h.2.2.1).2;have A:=(iS b h.2.2.2).1 (iR h.2.1);have key:Be (.plus a b):=λn r hn g=>by
   cases n with
   |zero=>exact absurd hn (dB _)
   |succ n=>
    have e:eO (.plus a b)++r=[40]++(eO a++([32,43,32]++(eO b++([41]++r)))):=by
     rw[tY];simp
    rw[e]at hn⊢;show c_ (thE n) _=_;unfold c_;rw[gs];show oJ (thE n) _=_;unfold oJ;have i:=m n ([32,43,32]++(eO b++([41]++r))) (by simp only[ae,aK,bZ]at hn⊢;omega) (r_ Qd _) (λ_ G z=>by injection z with _ z;injection z with z;cases z);have j:=A n ([41]++r) (by simp only[ae,aK,bZ]at hn⊢;omega) (wY r);rw[h.1]at i;rw[h.2.1]at j;simp only[i,ie,if_true,j,gs];rw[show dY (.plus a b)=true from by show decide (("plus":Str)∈cG)=true;decide+kernel];rfl
  exact⟨λ_=>key,lA key⟩
 |.two w a b,h=>by
  have m:=(iS a h.2.2.2.1).1 (iR h.2.1);have A:=(iS b h.2.2.2.2).1 (iR h.2.2.1);have key:Be (.two w a b):=λn r hn g=>by
   cases n with
   |zero=>exact absurd hn (dB _)
   |succ n=>
    have e:eO (.two w a b)++r=w.cps.toList++([40]++(eO a++([44,32]++(eO b++([41]++r))))):=by
     rw[yS];simp
    rw[e]at hn⊢;show c_ (thE n) _=_;have hw:wordOf (thE n) w.cps.toList ([40]++(eO a++([44,32]++(eO b++([41]++r)))))=(bp [40] ([40]++(eO a++([44,32]++(eO b++([41]++r)))))).bind λy=>(jG (thE n) y).bind λq=>if q.1=true then some q else none:=by
     rcases h.1 with rfl|rfl
     ·rw[show("least":Str).cps.toList=[108,101,97,115,116]from by decide+kernel];rfl
     ·rw[show("most":Str).cps.toList=[109,111,115,116]from by decide+kernel];rfl
    rw[gy (by rcases h.1 with rfl|rfl<;>decide+kernel) (td (by rcases h.1 with rfl|rfl<;>decide+kernel)) (by intro c u;cases u;rfl),hw,gs];show(jG (thE n) (eO a++([44,32]++(eO b++([41]++r))))).bind _=_;unfold jG;have i:=m n ([44,32]++(eO b++([41]++r))) (by simp only[ae,aK,bZ]at hn⊢;omega) (Gw _);have j:=A n ([41]++r) (by simp only[ae,aK,bZ]at hn⊢;omega) (wY r);rw[h.2.1]at i;rw[h.2.2.1]at j;simp only[i,ie,if_true,j,gs];rw[show dY (.two w a b)=true from by show decide (w∈cG)=true;rcases h.1 with rfl|rfl<;>decide+kernel];rfl
  exact⟨λ_=>key,lA key⟩
 |.ov w v s a,h=>by
  have m:=(iS a h.2.2.2.2).2;have key:Be (.ov w v s a):=λn r hn g=>by
   cases n with
   |zero=>exact absurd hn (dB _)
   |succ n=>
    have e:eO (.ov w v s a)++r=w.cps.toList++([32]++(v.cps.toList++([32,105,110]++(32::(ia s++([58,32]++(eO a++r))))))):=by
     rw[BA];simp
    rw[e]at hn⊢;show c_ (thE n) _=_;have hw:∀E,wordOf (thE n) w.cps.toList E=gT (thE n) E:=λE=>by
     rcases h.1 with rfl|rfl
     ·rw[show("each":Str).cps.toList=[101,97,99,104]from by decide+kernel];rfl
     ·rw[show("some":Str).cps.toList=[115,111,109,101]from by decide+kernel];rfl
    rw[gy (by rcases h.1 with rfl|rfl<;>decide+kernel) (td (by rcases h.1 with rfl|rfl<;>decide+kernel)) (r:=[32]++(v.cps.toList++([32,105,110]++(32::(ia s++([58,32]++(eO a++r))))))) (Da _),hw];unfold gT;rw[gs];have C:=h.2.1;unfold jz at C;simp only[bc,aD,bw]at C;obtain⟨H,I⟩:=nJ (p:=bS) (r:=[32,105,110]++(32::(ia s++([58,32]++(eO a++r))))) C.2 (pY _).great;show(if 1<=((v.cps.toList++([32,105,110]++(32::(ia s++([58,32]++(eO a++r)))))).takeWhile bS).length/\((v.cps.toList++([32,105,110]++(32::(ia s++([58,32]++(eO a++r)))))).takeWhile bS).length<=3 then(bp [32,105,110] ((v.cps.toList++([32,105,110]++(32::(ia s++([58,32]++(eO a++r)))))).dropWhile bS)).bind _ else none)=_;rw[H,I,aO (by rw[bQ];exact C.1),gs];show(fF (32::(ia s++([58,32]++(eO a++r))))).bind _=_;rw[zD h.2.2.1 (λc u=>by cases u;rfl)];simp only[ie,gs];rw[Ac m h.2.2.2.1 (by simp only[ae,aK,bZ]at hn⊢;omega) g];rw[show dY (.ov w v s a)=false from by show decide (w∈cG)=false;rcases h.1 with rfl|rfl<;>decide+kernel];rfl
  exact⟨λ_=>key,lA key⟩
 |.tim k a,h=>by
  have m:=(iS a h.2.2.2).1 (iR h.2.2.1);have key:Be (.tim k a):=λn r hn g=>by
   cases n with
   |zero=>exact absurd hn (dB _)
   |succ n=>
    have e:eO (.tim k a)++r=(numT k).cps.toList++([32,42,32]++(eO a++r)):=by
     rw[yT];simp
    rw[e]at hn⊢;show c_ (thE n) _=_;rw[BE h.2.1];unfold j9;have i:=m n r (by simp only[ae,aK,bZ]at hn⊢;omega) g;rw[h.2.2.1]at i;rw[CY h.2.1 (r:=[32,42,32]++(eO a++r)) (Hl _)];simp only[ie,gs,aG (Cr h.1 ([32,42,32]++(eO a++r))),i,if_true];rw[show dY (.tim k a)=true from by show decide (("times":Str)∈cG)=true;decide+kernel];rfl
  exact⟨λ_=>key,lA key⟩
theorem A_{x:Str}{b:Bool}{n:Nat}(hn:x.length<n):oA b x↔∃d,d<=12/\fullOf (thE n) x.cps.toList=some (!b,d,[]):=by
 refine⟨λ⟨c,w,t,d,e⟩=>?_,λ⟨d,hd,h⟩=>?_⟩
 ·have a:(eO c++[]).length <n:=by
   rw[bq];unfold eO;rw[e,bQ];exact hn
  have:=(iS c w).2 n [] a Ei (λ_=>CZ);rw[bq]at this;unfold eO at this;rw[e,t]at this;exact⟨dep c,d,this⟩
 ·obtain⟨c,w,t,dd,e⟩:=qf (Ed n) h;rw[bq]at e;exact⟨c,w,t,by rw[dd];exact hd,du e.symm⟩
def gw(x:Str)(l:List Nat):Prop:=∃pre,x.cps.toList=pre++l
def pos(x:Str)(l:List Nat):Int:=(x.length:Int)-(l.length:Int)
def nO(x:Str):Option (List Nat)->Int
 |some r=>pos x r
 |none=>-1
theorem gw.all(x:Str):gw x x.cps.toList:=⟨[],rfl⟩
theorem EO(x:Str):pos x x.cps.toList=0:=by
 unfold pos;rw[bQ];omega
theorem gw.nat{x:Str}{l:List Nat}(s:gw x l):∃a:Nat,pos x l=(a:Int)/\x.cps.toList.drop a=l/\a+l.length=x.length:=by
 obtain⟨pre,e⟩:=s;have b:pre.length+l.length=x.length:=by rw[<-bQ,e,ae]
 refine⟨pre.length,?_,?_,b⟩
 ·unfold pos;omega
 ·rw[e,oi]
theorem gw.of{x:Str}{p r:List Nat}(s:gw x (p++r)):gw x r:=by
 obtain⟨pre,e⟩:=s;exact⟨pre++p,by rw[e,ax]⟩
theorem mV(x:Str)(p r:List Nat):pos x r=pos x (p++r)+(p.length:Int):=by
 unfold pos;rw[ae];omega
theorem pP(x:Str)(c:Nat)(r:List Nat):pos x r=pos x (c::r)+1:=mV x [c] r
theorem gw.cons{x:Str}{c:Nat}{r:List Nat}(s:gw x (c::r)):gw x r:=gw.of (p:=[c]) s
theorem gw.cut{x:Str}{p l r:List Nat}(s:gw x l)(h:bp p l=some r):gw x r/\pos x r=pos x l+(p.length:Int):=by
 have e:=dH h;subst e;exact⟨s.of,mV x p r⟩
theorem gw.drop{x:Str}{l:List Nat}(s:gw x l)(p:Nat->Bool):gw x (l.dropWhile p)/\pos x (l.dropWhile p)=pos x l+((l.takeWhile p).length:Int):=by
 have e:=bI (p:=p) (l:=l);refine⟨gw.of (p:=l.takeWhile p) (by rw[e];exact s),?_⟩;have:=mV x (l.takeWhile p) (l.dropWhile p);rw[e]at this;exact this
theorem gw.len{x:Str}{l:List Nat}(s:gw x l):l.length<=x.length:=by
 obtain⟨a,_,_,h⟩:=s.nat;omega
theorem Cq{x:Str}{l:List Nat}(s:gw x l):0<=pos x l:=by
 have:=s.len;unfold pos;omega
theorem DZ{x:Str}{l:List Nat}(s:gw x l){j:Int}(k:Nat)(b:j=pos x l+(k:Int)):Txt.slice x (some (pos x l)) (some j)=mkS (l.take k):=by
 obtain⟨a,h1,h2,c⟩:=s.nat;apply du;rw[b,h1,show(a:Int)+(k:Int)=((a+k:Nat):Int)from by omega,kl x Qo Qo,h2,Bp];rfl
theorem jK{x y:Str}:decide (V.str x=V.str y)=decide (x=y):=by
 by_cases h:x=y
 ·rw[h,aH rfl,aH rfl]
 ·rw[aP h,aP (λz=>h (by injection z))]
theorem Al{p l:List Nat}{y:Str}(a:y.cps.toList=p):decide (V.str (mkS (l.take p.length))=V.str y)=(bp p l).isSome:=by
 unfold bp;rw[jK];by_cases h:l.take p.length=p
 ·rw[aO h,h,<-a,ku,aH rfl];rfl
 ·rw[aG h,aP]
  ·rfl
  ·intro z;have e:=bL (λu:Str=>u.cps.toList) z;exact h (Eq.trans (show l.take p.length=y.cps.toList from e) a)
theorem F7{x:Str}{c:Nat}{r:List Nat}(s:gw x (c::r)):yI x.cps.toList (pos x (c::r))=some c:=by
 obtain⟨a,h1,h2,b⟩:=s.nat;rw[h1];refine fE ?_;have:(x.cps.toList.drop a)[0]?=some c:=by rw[h2];rfl
 rw[List.getElem?_drop,Nat.add_zero]at this;exact this
def Ev(t:TT)(σ:St)(H:Hp)(b:Bool):Prop:=∀Q:Bool->Hp->Prop,(∀H1,al H H1->Q b H1)->t σ H Q
theorem Ev.and{t u:TT}{σ:St}{H:Hp}{b c:Bool}(h:Ev t σ H b)(k:b=true->∀H1,al H H1->Ev u σ H1 c):Ev (IH t u) σ H (b&&c):=λQ q=>
 h _ λH1 s1=>by
  cases b with
  |true=>exact eT (k rfl H1 s1 Q λH2 a=>q H2 (s1.trans a))
  |false=>exact eZ (q H1 s1)
theorem Ev.or{t u:TT}{σ:St}{H:Hp}{b c:Bool}(h:Ev t σ H b)(k:b=false->∀H1,al H H1->Ev u σ H1 c):Ev (Lk t u) σ H (b||c):=λQ q=>
 h _ λH1 s1=>by
  cases b with
  |true=>exact eT (q H1 s1)
  |false=>exact eZ (k rfl H1 s1 Q λH2 a=>q H2 (s1.trans a))
theorem ck{c:TT}{t u:TS}{D:mB}{σ:St}{H:Hp}{b:Bool}(e:Ev c σ H b)(h1:b=true->∀H1,al H H1->t D σ H1)(h2:b=false->∀H1,al H H1->u D σ H1):IC c t u D σ H:=
 e _ λH1 s1=>by
  cases b with
  |true=>exact eT (h1 rfl H1 s1)
  |false=>exact eZ (h2 rfl H1 s1)
theorem sY{p:Nat->Bool}{c:Nat}:∀{l:List Nat},c∈l.takeWhile p->p c=true
 |a::l,h=>by
  rw[oN]at h;split at h
  ·rename_i b;rcases aq.mp h with rfl|h
   ·exact b
   ·exact sY h
  ·cases h
def pp:Sp:=λvs H Q _=>∃(x y:Str)(i:Int)(p:Nat->Bool),vs=[.str x,.int i,.str y]/\(∀c,decide (c∈y.cps.toList)=p c)/\x.length<=100000/\((∃l,i=pos x l/\gw x l/\Q (.int (pos x (l.dropWhile p))) H)\/((x.length:Int)<=i/\Q (.int i) H))
theorem cY{n:Nat}(h:n<=100000):n<=sizeLine:=af h Qd
section
variable{P:Program}{w:World}{K:ah}{mg:Str->Option Value}{base:Heap}{n:Nat}
theorem B5:bD ["_law_text_here","_law_at","_law_signs"] ["_law_text_here","_law_at","_law_signs"] (aU s_l_run):=⟨rfl,rfl,rfl,Qk,rfl,Qk,Qk⟩
theorem G7{f:Addr}{fd:FuncData}(F:fg K "_law_run" "_law_run" s_l_run f fd)(T:dF K mg):FnOk P w K mg base gW 1 f fd ["_law_text_here","_law_at","_law_signs"] pp:=by
 refine F.ok B5 (λvs H Q E h=>?_) (λj A outer s H vs Q E n h=>?_)
 ·obtain⟨x,y,i,p,rfl,_⟩:=h;rfl
 ·obtain⟨x,y,i,p,rfl,k,g,h⟩:=h;refine⟨_,(aw (pO PassesOwn.never (PW.pt (gH (aI jn (pv 1) (bP cP Qr T.len gc (aa (pv 0) ac)) (aS _)) (gb (aI j3 (bE qa (pv 0) (pv 1) (λ_ _=>Qr)) (pv 2) Qw))))
     (am (aY (i:=1) B5.nd rfl (aN rfl) (aF bK (pv 1) ai))))
   (am (aR (pv 1)))),?_⟩
  rcases h with⟨l,rfl,sf,q⟩|⟨hi,q⟩
  ·refine⟨λm a H'=>H'=H/\∃b,m=b.length/\gw x b/\b.dropWhile p=l.dropWhile p/\a=[some (.str x),some (.int (pos x b)),some (.str y)],⟨_,rfl,l,rfl,sf,rfl,rfl⟩,?_⟩;rintro m a H'⟨rfl,b,rfl,sf',e,rfl⟩;refine⟨_,rfl,_,rfl,x,rfl,cY g,_,_,rfl,rfl,_,rfl,?_⟩;cases b with
   |nil=>
    have hn:¬pos x []<(x.length:Int):=by unfold pos;simp
    rw[aP hn];refine eZ ⟨_,rfl,?_⟩;rw[<-e]at q;exact q
   |cons c r=>
    have hn:pos x (c::r)<(x.length:Int):=by unfold pos;rw[aK];omega
    rw[aH hn];refine eT ⟨_,rfl,_,rfl,x,_,c,rfl,rfl,cY g,F7 sf',_,rfl,_,_,rfl,rfl,_,rfl,?_⟩;rw[StrLaws.found_one,k];cases hc:p c with
    |true=>
     refine eT ⟨λd H2=>H2=H'/\d=[some (.str x),some (.int (pos x r)),some (.str y)],?_,?_⟩
     ·rintro d H2⟨rfl,rfl⟩;exact⟨r.length,f7 _,rfl,r,rfl,sf'.cons,by rw[<-e,Gg,hc];rfl,rfl⟩
     ·refine⟨_,rfl,_,_,rfl,rfl,rfl,?_⟩;rw[pP x c r];rfl
    |false=>
     refine eZ ⟨_,rfl,?_⟩;rw[<-e,Gg,hc]at q;exact q
  ·refine⟨λm a H'=>H'=H/\a=[some (.str x),some (.int i),some (.str y)],⟨0,rfl,rfl⟩,?_⟩;rintro m a H'⟨rfl,rfl⟩;refine⟨_,rfl,_,rfl,x,rfl,cY g,_,_,rfl,rfl,_,rfl,?_⟩;rw[aP (by omega:¬i<(x.length:Int))];exact eZ ⟨_,rfl,q⟩
theorem vM(c:Nat):decide (c∈("-0123456789":Str).cps.toList)=fW c:=by
 rw[show("-0123456789":Str).cps.toList=[45,48,49,50,51,52,53,54,55,56,57]from by decide+kernel];unfold fW;rw[be];simp only[aD,eV,bc,aq,a_,or_false];omega
theorem mM(p:Nat->Bool):∀l:List Nat,l.take (l.takeWhile p).length=l.takeWhile p
 |[]=>rfl
 |c::l=>by
  rw[oN];split
  ·rw[aK,oM,mM p l]
  ·rfl
theorem eY{l p:List Nat}{y:Str}(a:y.cps.toList=p):decide (V.str (mkS l)=V.str y)=decide (l=p):=by
 rw[jK,be,aD,aD];constructor
 ·intro z;rw[<-a,<-z];rfl
 ·intro z;apply du;rw[a,<-z];rfl
theorem zP{c:Nat}{y:Str}{d:Nat}(a:y.cps.toList=[d]):decide (V.str ⟨#[c]⟩=V.str y)=decide (c=d):=by
 rw[jK,be,aD,aD];constructor
 ·intro z;rw[<-z]at a;have a:[c]=[d]:=a;injection a
 ·intro z;apply du;rw[a,z]
def FK(w:List Nat):Bool:=decide (figsOf w=[])||(decide (60<(figsOf w).length)||(decide (45∈figsOf w)||(decide ((figsOf w)[0]?=some 48)&& !decide (w=[48]))))
theorem Ao{w:List Nat}(h:∀c∈w,fW c=true):FK w=!gn w:=by
 have k:∀c∈figsOf w,fW c=true:=λc e=>by
  apply h;unfold figsOf at e;cases w with
  |nil=>exact e
  |cons a l=>
   have e:c∈if a=45 then l else a::l:=e;split at e
   ·exact aB _ e
   ·exact e
 have m:vN (figsOf w)=!decide (45∈figsOf w):=by
  unfold vN;by_cases z:45∈figsOf w
  ·rw[aH z];show _=false;rw[<-Bool.not_eq_true];intro h2;have:=bw.mp h2 45 z;exact absurd this Qd
  ·rw[aP z];refine bw.mpr λc e=>?_;have:=k c e;unfold fW at this;rcases dR.mp this with h1|h1
   ·rw[bb h1]at e;exact absurd e z
   ·exact h1
 unfold FK gn;rw[m];generalize figsOf w=f;by_cases h1:f=[]
 ·simp[h1]
 ·have d:1<=f.length:=e_.mpr h1;by_cases h2:60<f.length
  ·have b:¬f.length<=60:=Qo;simp[h1,h2,b,d]
  ·have b:f.length<=60:=Qo;by_cases g:45∈f
   ·simp[h1,h2,b,d,g]
   ·by_cases i:f[0]?=some 48
    ·by_cases j:w=[48]
     ·simp[h1,h2,b,d,g,i,j]
     ·simp[h1,h2,b,d,g,i,j]
    ·simp[h1,h2,b,d,g,i]
def oO(g:List Nat->Option (List Nat)):Sp:=λvs H Q _=>∃(x:Str)(l:List Nat),vs=[.str x,.int (pos x l)]/\gw x l/\x.length<=100000/\∀H',al H H'->Q (.int (nO x (g l))) H'
abbrev LG:List Str:=["_law_text_here","_law_at","_law_end","_law_word","_law_figures"]
theorem uM:bD LG ["_law_text_here","_law_at"] (aU s_l_number_end):=⟨rfl,rfl,rfl,Qk,rfl,Qk,Qk⟩
theorem Jd{f:Addr}{fd:FuncData}(F:fg K "_law_number_end" "_law_number_end" s_l_number_end f fd)(T:dF K mg)(W:dk P w K mg base 1 "_law_run" ["_law_text_here","_law_at","_law_signs"] pp):FnOk P w K mg base gW 2 f fd ["_law_text_here","_law_at"] (oO jc):=by
 refine F.ok uM (λvs H Q E h=>?_) (λN A outer s H vs Q E V h=>?_)
 ·obtain⟨x,l,rfl,_⟩:=h;rfl
 ·obtain⟨x,l,rfl,y,J,q⟩:=h;refine⟨_,(aw (aY (i:=2) uM.nd rfl (aN rfl) (aJ W V Qr (aa (pv 0) (aa (pv 1) (aa ad ac)))))
   (aw (aY (i:=3) uM.nd rfl (aN rfl) (bM cK (pv 0) (bi (pv 1)) (bi (pv 2))))
   (aQ (aY (i:=4) uM.nd rfl (aN rfl) (pv 3))
   (aQ (bA (aI b4 (bM cK (pv 3) fj (bi ai)) ad (aS _)) (am (aY (i:=4) uM.nd rfl (aN rfl) (bM cK (pv 3) (bi ai) fj))) aW)
   (aQ (bA (PW.pt (eQ (aI b4 (pv 4) ad (aS _)) (eQ (aI mY (bP cP Qr T.len gc (aa (pv 4) ac)) ai (aS _)) (eQ (aI j3 ad (pv 4) Qw) (dU (PW.pt (gH (aI b4 (bE qa (pv 4) ai (λ_ _=>Qr)) ad (aS _)) (gb (aI fc (pv 3) ad (aS _)))))))))) (am (aR (kM iN ai))) aW)
   (am (aR (pv 2)))))))),?_⟩
  obtain⟨I,U⟩:=y.drop fW;have n:(l.takeWhile fW).length<=100000:=by
   have:=I.len;have:=y.len;have e:=bL List.length (bI (p:=fW) (l:=l));rw[ae]at e;omega
  have m:∀c∈l.takeWhile fW,fW c=true:=λc B=>sY B;refine⟨_,rfl,_,rfl,x,_,_,fW,rfl,vM,J,.inl ⟨l,rfl,y,?_⟩⟩;refine⟨_,rfl,_,rfl,_,rfl,_,rfl,_,rfl,x,rfl,cY J,?_⟩;rw[DZ y (l.takeWhile fW).length U,mM];have hq:=q;have u:jc l=if gn (l.takeWhile fW)=true then some (l.dropWhile fW)else none:=rfl;generalize l.takeWhile fW=w at n m u;generalize l.dropWhile fW=r at I u;refine⟨λg H'=>H'=H/\g=[some (.str x),some (.int (pos x l)),some (.int (pos x r)),some (.str (mkS w)),some (.str (mkS w))],⟨_,rfl,rfl,rfl⟩,?_⟩;rintro O H1⟨rfl,rfl⟩;refine⟨λg H'=>al H1 H'/\g=[some (.str x),some (.int (pos x l)),some (.int (pos x r)),some (.str (mkS w)),some (.str (mkS (figsOf w)))],?_,?_⟩
  ·refine ck (b:=decide (w.take 1=[45])) (λQ k=>⟨_,rfl,_,rfl,mkS w,rfl,cY (by rw[<-bQ];exact n),rfl,_,rfl,?_⟩) (λd t o=>?_) (λd t o=>?_)
   ·rw[show Txt.slice (mkS w) none (some 1)=mkS (w.take 1)from du (mQ (mkS w) 1),eY (by decide+kernel:("-":Str).cps.toList=[45])];exact k _ (al.refl _)
   ·have e:figsOf w=w.drop 1:=by
     have d:=bb d;cases w with
     |nil=>cases d
     |cons c r=>
      have B:c=45:=by
       have:[c]=[45]:=by simpa using d
       injection this
      rw[B];rfl
    have h1:1<=(mkS w).length:=by
     have d:=bb d;cases w with
     |nil=>cases d
     |cons c r=>
      rw[<-bQ];exact f6 (bV _)
    refine⟨_,rfl,_,rfl,mkS w,rfl,cY (by rw[<-bQ];exact n),o,?_⟩;rw[show Txt.slice (mkS w) (some 1) none=mkS (w.drop 1)from du (iz (mkS w) (a:=1) h1),e];rfl
   ·have e:figsOf w=w:=by
     have d:=cq d;cases w with
     |nil=>rfl
     |cons c r=>
      show(if c=45 then r else c::r)=_;rw[aG];intro z;exact d (by rw[z];rfl)
    refine⟨o,?_⟩;rw[e]
  ·rintro X H2⟨L,rfl⟩;have v:(mkS (figsOf w)).length<=100000:=by
    rw[<-bQ];show(figsOf w).length<=_;cases w with
    |nil=>exact bV _
    |cons c r=>
     show(if c=45 then r else c::r).length<=_;split
     ·rw[aK]at n;omega
     ·exact n
   refine⟨λg H'=>al H1 H'/\gn w=true/\g=[some (.str x),some (.int (pos x l)),some (.int (pos x r)),some (.str (mkS w)),some (.str (mkS (figsOf w)))],?_,?_⟩
   ·refine ck (b:=FK w) ?_ (λd t o=>?_) (λd t o=>?_)
    ·unfold FK;refine Ev.or (λQ k=>⟨_,rfl,rfl,_,rfl,?_⟩) λC t o=>Ev.or (λQ k=>⟨_,rfl,mkS (figsOf w),rfl,cY v,_,_,rfl,rfl,_,rfl,?_⟩) λ_ Z Y=>Ev.or (λQ k=>⟨_,rfl,_,_,rfl,rfl,_,rfl,?_⟩) λ_ H5 s5=>Ev.and (λQ k=>?_) λ_ H6 s6=>λQ k=>⟨_,rfl,rfl,_,rfl,?_⟩
     ·rw[eY (by decide+kernel:("":Str).cps.toList=[])];exact k _ (al.refl _)
     ·have e:decide ((60:Int)<((mkS (figsOf w)).length:Int))=decide (60<(figsOf w).length):=by
       rw[<-bQ];show decide ((60:Int)<((figsOf w).length:Int))=_;rw[be,aD,aD];omega
      rw[e];exact k _ (al.refl _)
     ·rw[show("-":Str)=⟨#[45]⟩from by decide+kernel,StrLaws.found_one];exact k _ (al.refl _)
     ·have D:figsOf w≠ []:=cq C;obtain⟨c,M,G⟩:∃c M,figsOf w=c::M:=by
       cases e:figsOf w with
       |nil=>exact absurd e D
       |cons c r=>exact⟨c,r,rfl⟩
      refine⟨_,rfl,mkS (figsOf w),_,c,rfl,rfl,cY v,?_,rfl,_,rfl,?_⟩
      ·show yI (figsOf w) 0=some c;rw[G];exact fE (j:=0) rfl
      ·rw[zP (by decide+kernel:("0":Str).cps.toList=[48])];have S:decide ((figsOf w)[0]?=some 48)=decide (c=48):=by
        rw[G];simp
       rw[S]at k;exact k _ (al.refl _)
     ·rw[eY (by decide+kernel:("0":Str).cps.toList=[48])];exact k _ (al.refl _)
    ·rw[Ao m]at d;have d:gn w=false:=by simpa using d
     rw[d,aG ba]at u;have:=q t (L.trans o);rw[u]at this;exact⟨_,rfl,this⟩
    ·rw[Ao m]at d;exact⟨L.trans o,by simpa using d,rfl⟩
   ·rintro R t⟨o,d,rfl⟩;rw[d,aO rfl]at u;have:=q t o;rw[u]at this;exact⟨_,rfl,this⟩
end
abbrev BW:Str:="abcdefghijklmnopqrstuvwxyz"
abbrev D0:Str:="ABCDEFGHIJKLMNOPQRSTUVWXYZ"
theorem nh(c:Nat):decide (c∈BW.cps.toList)=cO c:=sZ c
theorem nX(c:Nat):decide (c∈D0.cps.toList)=bS c:=by
 have e:D0.cps.toList=(List.range 26).map (65+ ·):=Qk;rw[e];unfold bS;rw[be];simp only[aD,bc,cU,eM];constructor
 ·rintro⟨a,b,rfl⟩;omega
 ·intro h;exact⟨c-65,Qo,Qo⟩
theorem Df(c:Nat):decide (c∈(BW++D0).cps.toList)=gY c:=by
 unfold gY;rw[bC,<-nh,<-nX,be,aD,eV,aD,aD,bY]
theorem fH{x:Str}{l p:List Nat}{y:Str}{j:Int}(s:gw x l)(b:y.cps.toList=p)(a:j=pos x l+(p.length:Int)):decide (V.str (Txt.slice x (some (pos x l)) (some j))=V.str y)=(bp p l).isSome:=by
 rw[DZ s p.length a,Al b]
theorem F8{Q:VK}{i j:Int}{H:Hp}(e:i=j)(h:Q (.int j) H):Q (.int i) H:=e▸h
theorem qZ{K:ah}{H:Hp}{l:Addr}{cs:List Nat}(h:H l=some (.lst (cs.map λc=>V.str ⟨#[c]⟩)))(ok:∀c∈cs,c<1114112):wM K H 2 (.ref l) (.list (cs.map λc=>PyData.str ⟨#[c]⟩)):=by
 refine .inl ⟨_,_,SqL.of h,rfl,?_⟩;clear h;induction cs with
 |nil=>exact .nil
 | cons x r a=>exact .cons ⟨by
   have:=ok x aA;unfold PyData.strOk;simp[this],rfl⟩ (a λc b=>ok c (aB _ b))
theorem uQ{K:ah}{H:Hp}{l:Addr}(h:H l=some (.lst [])):wM K H 2 (.ref l) (.list []):=.inl ⟨[],[],SqL.of h,rfl,.nil⟩
theorem vO(ds:List PyData):PyData.eqv (.list ds) (.list [])=ds.isEmpty:=by
 cases ds with
 |nil=>simp[PyData.eqv,PyData.eqvAll]
 |cons d ds=>simp[PyData.eqv,PyData.eqvAll]
theorem Hv{c:Nat}(h:cO c=true):c<1114112:=by
 unfold cO at h;simp only[bc,aD]at h;omega
def DK(w:List Nat):Bool:=decide (w=[])||(!(w.filter cO).isEmpty &&decide ((w.filter cO).length <w.length))
def DJ(w:List Nat):Bool:=decide (12<w.length)||((w.filter cO).isEmpty &&decide (3<w.length))
theorem rm{c:Nat}(h:gY c=true):bS c=!cO c:=by
 unfold gY at h;unfold cO bS at*;rw[be];simp only[eV,bc,aD,iY,gR,decide_eq_false_iff_not]at*;omega
theorem tK{w:List Nat}(h:∀c∈w,gY c=true):okN (mkS w)=!(DK w||DJ w):=by
 have d:w.all kj=decide ((w.filter cO).length=w.length):=by
  rw[be,aD];constructor
  ·intro z;exact bL List.length (Gf.mpr λc a=>bw.mp z c a)
  ·intro z;exact bw.mpr λc a=>Gf.mp (List.filter_sublist.eq_of_length z) c a
 have f:w.all bS=(w.filter cO).isEmpty:=by
  rw[be,List.isEmpty_iff,bw,List.filter_eq_nil_iff];constructor
  ·intro z c a b;have:=z c a;rw[rm (h c a),b]at this;cases this
  ·intro z c a;rw[rm (h c a)];have:=z c a;simpa using this
 have b:(mkS w).length=w.length:=by rw[<-bQ];rfl
 have i:=nI cO w;unfold okN hJ jz DK DJ;show(_&&w.all kj||_&&w.all bS)=_;rw[b,d,f];have g:decide (w=[])=decide (w.length=0):=by
  rw[be,aD,aD,f8]
 have e:(w.filter cO).isEmpty=decide ((w.filter cO).length=0):=by
  rw[be,aD,List.isEmpty_iff,f8]
 rw[g,e];generalize w.length=n at*;generalize(w.filter cO).length=m at*;rw[be];simp only[eV,bc,aD,iY,dh,gR,decide_eq_false_iff_not,Bool.not_eq_false'];omega
def mP:Sp:=λvs H Q _=>∃(x:Str)(l:List Nat)(n:Nat),vs=[.str x,.int (pos x l),.int n]/\gw x l/\x.length<=100000/\n<=3/\∀H',al H H'->Q (.int (nO x (gq n l))) H'
theorem Gp(p:Nat->Bool)(l:List Nat):(l.takeWhile p).length<=l.length:=by
 have e:=bL List.length (bI (p:=p) (l:=l));rw[ae]at e;omega
section
variable{P:Program}{w:World}{K:ah}{mg:Str->Option Value}{base:Heap}{n:Nat}
abbrev Lb:List Str:=["_law_text_here","_law_at","_law_many","_law_small","_law_great","_law_k","_law_end","_law_word","_law_low"]
theorem li:bD Lb ["_law_text_here","_law_at","_law_many"] (aU s_l_names):=⟨rfl,rfl,rfl,Qk,rfl,Qk,Qk⟩
theorem CL{f:Addr}{fd:FuncData}(F:fg K "_law_names" "_law_names" s_l_names f fd)(T:dF K mg)(cr:dk P w K mg base 1 "_law_run" ["_law_text_here","_law_at","_law_signs"] pp):FnOk P w K mg base gW 2 f fd ["_law_text_here","_law_at","_law_many"] mP:=by
 have U:List.Nodup (["_law_sign","_law_small"]:List Str):=Qk;refine F.ok li (λvs H Q E h=>?_) (λxc A outer s H vs Q E hr h=>?_)
 ·obtain⟨x,l,n,rfl,_⟩:=h;rfl
 ·obtain⟨x,l,n,rfl,sf,hx,hn,q⟩:=h;have hU:=hr.units;refine⟨_,(aw (aY (i:=3) li.nd rfl (yP rfl) ad)
   (aw (aY (i:=4) li.nd rfl (aN rfl) ad)
   (aw (mr PassesOwn.never rfl (iC rfl T.range (aa (pv 2) ac)) (db (i:=5) li.nd rfl (aN rfl))
     (aQ (bA (aI fc (bM cK (pv 0) (bi (pv 1)) (bi (aF bK (pv 1) ai))) ad (aS _)) (am (aR (kM iN ai))) aW)
   (aw (aY (i:=6) li.nd rfl (aN rfl) (aJ cr hr Qr (aa (pv 0) (aa (aF bK (pv 1) ai) (aa (aF aM (pv 3) (pv 4)) ac)))))
   (aw (aY (i:=7) li.nd rfl (aN rfl) (bM cK (pv 0) (bi (aF bK (pv 1) ai)) (bi (pv 6))))
   (aQ (sM (j:=8) (N:=["_law_sign","_law_small"]) (xs:=1) (js:=[3]) rfl li.nd rfl rfl (dD rfl) (Cu (pv 7)) (λ_ _ _ _=>db (i:=0) U rfl (aN rfl)) (λ_ _ _ _=>sJ (aI j3 (pv 0) (pv 1) Qw)) (λ_ _ _ _=>pv 0) rfl)
   (aQ (bA (PW.pt (eQ (aI b4 (pv 7) ad (aS _)) (dU (PW.pt (gH (aI (CC hU) (pv 8) (cA ac) (aS _)) (gb (aI jn (bP eL Qr T.len gc (aa (pv 8) ac)) (bP cP Qr T.len gc (aa (pv 7) ac)) (aS _)))))))) (am (aR (kM iN ai))) aW)
   (aQ (bA (PW.pt (eQ (aI mY (bP cP Qr T.len gc (aa (pv 7) ac)) ai (aS _)) (dU (PW.pt (gH (aI (GV hU) (pv 8) (cA ac) (aS _)) (gb (aI mY (bP cP Qr T.len gc (aa (pv 7) ac)) ai (aS _)))))))) (am (aR (kM iN ai))) aW)
   (am (aY (i:=1) li.nd rfl (aN rfl) (pv 6))))))))))
   (am (aR (pv 1)))))),?_⟩
  refine⟨_,rfl,(n:Int),rfl,Qo,Qo,nZ (n:=n) (λi d H'=>al H H'/\∃g,gw x g/\gq n l=gq (n-i) g/\∃o1 o2 o3 o4,d=[some (.str x),some (.int (pos x g)),some (.int n),some (.str BW),some (.str D0),o1,o2,o3,o4]) ?_ ?_ ?_⟩
  ·exact⟨al.refl _,l,sf,by rw[Nat.sub_zero],_,_,_,_,rfl⟩
  ·rintro i d H' hi⟨s1,g,L,v,o1,o2,o3,o4,rfl⟩;obtain⟨m,hm⟩:∃m,n-i=m+1:=⟨n-i-1,Qo⟩;have v:gq n l=(lq g).bind (gq m):=by rw[v,hm];rfl
   refine⟨λW H2=>al H H2/\∃r,bp [32] g=some r/\W=[some (.str x),some (.int (pos x g)),some (.int n),some (.str BW),some (.str D0),some (.int (0+(i:Int))),o2,o3,o4],?_,?_⟩
   ·refine ck (b:=!(bp [32] g).isSome) (λQ k=>⟨_,rfl,_,rfl,_,rfl,_,rfl,_,_,rfl,rfl,_,rfl,x,rfl,cY hx,rfl,_,rfl,?_⟩) (λa O M=>?_) (λa O M=>?_)
    ·rw[fH (j:=pos x g+1) L (p:=[32]) Qk rfl];exact k _ (al.refl _)
    ·have a:bp [32] g=none:=by simpa using a
     have:=q O (s1.trans M);rw[v,show lq g=none from by unfold lq;rw[a];rfl]at this;exact⟨_,rfl,this⟩
    ·obtain⟨r,a⟩:=bh.mp (by simpa using a:(bp [32] g).isSome=true);exact⟨s1.trans M,r,a,rfl⟩
   ·rintro W H2⟨s2,r,G,rfl⟩;obtain⟨sr,pr⟩:=L.cut G;have v:gq n l=(if okN (mkS (r.takeWhile gY))=true then some (r.dropWhile gY)else none).bind (gq m):=by rw[v];unfold lq;rw[G];rfl
    have pr:pos x g+1=pos x r:=pr.symm;obtain⟨sd,pd⟩:=sr.drop gY;have z:(r.takeWhile gY).length<=100000:=by
     have:=Gp gY r;have:=sr.len;omega
    have u:∀c∈r.takeWhile gY,gY c=true:=λc G=>sY G;refine⟨_,rfl,_,rfl,_,_,rfl,rfl,_,rfl,_,rfl,_,_,rfl,rfl,Qk,x,_,_,gY,rfl,Df,hx,.inl ⟨r,pr,sr,?_⟩⟩;refine⟨_,rfl,_,rfl,_,_,rfl,rfl,_,rfl,_,rfl,_,rfl,x,rfl,cY hx,?_⟩;rw[pr,DZ sr (r.takeWhile gY).length pd,mM];generalize r.takeWhile gY=w at z u v;generalize r.dropWhile gY=r2 at sd v;have t:(mkS w).length=w.length:=by rw[<-bQ];rfl
    refine⟨λX O=>al H O/\∃p,O p=some (.lst ((w.filter cO).map λc=>V.str ⟨#[c]⟩))/\X=[some (.str x),some (.int (pos x g)),some (.int n),some (.str BW),some (.str D0),some (.int (0+(i:Int))),some (.int (pos x r2)),some (.str (mkS w)),some (.ref p)],?_,?_⟩
    ·refine⟨_,rfl,mkS w,rfl,vR (x:=mkS w) (λj D d H'=>H'=H2/\D=((w.take j).filter cO).map (λc=>V.str ⟨#[c]⟩)/\∃o,d=[o,some (.str BW)])
      ⟨rfl,rfl,none,rfl⟩ (λi D d H' h=>?_) (by show(mkS w).length<=_;rw[t];exact cY z) (λi c D d H' G h=>?_) (λD d H' h p S=>?_)⟩
     ·rw[h.2.1,ay];refine af (nI _ _) ?_;rw[bT];omega
     ·obtain⟨rfl,rfl,o,rfl⟩:=h;have xb:w[i]?=some c:=by
       have h1:=G;rw[<-Array.getElem?_toList]at h1;exact h1
      refine⟨_,rfl,_,rfl,_,_,rfl,rfl,_,rfl,?_⟩;rw[StrLaws.found_one,nh];have tk:w.take (i+1)=w.take i++[c]:=by rw[dP,xb];rfl
      cases a:cO c with
      |true=>
       refine eT ⟨_,rfl,rfl,?_,_,rfl⟩;rw[tk,kE,f9 (by simp[a]),aT];rfl
      |false=>
       refine eZ ⟨rfl,?_,_,rfl⟩;rw[tk,kE,Bs (by simp[a]),List.filter_nil,bq]
     ·obtain⟨rfl,rfl,o,rfl⟩:=h;have et:w.take (mkS w).cps.size=w:=bW (by simp[mkS]);rw[et];exact⟨s2.trans (al.new S),p,ak,rfl⟩
    ·rintro X O⟨M,p,S,rfl⟩;have Z:∀c∈w.filter cO,c<1114112:=λc G=>Hv (jO.mp G).2;have I:∀c:List Nat,(c.map λc=>PyData.str ⟨#[c]⟩).isEmpty=c.isEmpty:=λc=>by cases c<;>rfl
     refine⟨λxa R=>al O R/\DK w=false/\xa=[some (.str x),some (.int (pos x g)),some (.int n),some (.str BW),some (.str D0),some (.int (0+(i:Int))),some (.int (pos x r2)),some (.str (mkS w)),some (.ref p)],?_,?_⟩
     ·refine ck (b:=DK w) ?_ (λa R B=>?_) (λa R B=>⟨B,a,rfl⟩)
      ·unfold DK;refine Ev.or (λQ k=>⟨_,rfl,rfl,_,rfl,?_⟩) λ_ R B=>Ev.and (λQ k=>⟨_,rfl,Qd,λp2 y=>⟨2,_,_,Qd,qZ (cs:=w.filter cO) (al.new y _ _ (B _ _ S)) Z,uQ ak,_,rfl,?_⟩⟩) λ_ J C=>λQ k=>⟨_,rfl,p,_,rfl,.inl (SqL.of (C _ _ (B _ _ S))),_,rfl,mkS w,rfl,cY (by rw[t];exact z),_,_,rfl,rfl,_,rfl,?_⟩
       ·rw[eY (by decide+kernel:("":Str).cps.toList=[])];exact k _ (al.refl _)
       ·rw[vO,I];exact k _ (al.new y)
       ·rw[ay,t];have e:decide (((w.filter cO).length:Int)<(w.length:Int))=decide ((w.filter cO).length <w.length):=by
         rw[be,aD,aD];omega
        rw[e];exact k _ (al.refl _)
      ·have:=q R (M.trans B);rw[v,tK u,a]at this;exact⟨_,rfl,this⟩
     ·rintro xa R⟨B,hA,rfl⟩;refine⟨λY J=>al H J/\DJ w=false/\Y=[some (.str x),some (.int (pos x g)),some (.int n),some (.str BW),some (.str D0),some (.int (0+(i:Int))),some (.int (pos x r2)),some (.str (mkS w)),some (.ref p)],?_,?_⟩
      ·refine ck (b:=DJ w) ?_ (λa J C=>?_) (λa J C=>⟨(M.trans B).trans C,a,rfl⟩)
       ·unfold DJ;refine Ev.or (λQ k=>⟨_,rfl,mkS w,rfl,cY (by rw[t];exact z),_,_,rfl,rfl,_,rfl,?_⟩) λ_ J C=>Ev.and (λQ k=>⟨_,rfl,Qd,λp2 y=>⟨2,_,_,Qd,qZ (cs:=w.filter cO) (al.new y _ _ (C _ _ (B _ _ S))) Z,uQ ak,_,rfl,?_⟩⟩) λ_ H6 s6=>λQ k=>⟨_,rfl,mkS w,rfl,cY (by rw[t];exact z),_,_,rfl,rfl,_,rfl,?_⟩
        ·have e:decide ((12:Int)<((mkS w).length:Int))=decide (12<w.length):=by
          rw[t,be,aD,aD];omega
         rw[e];exact k _ (al.refl _)
        ·show(λb H6=>Q b H6) (PyData.eqv _ _) _;rw[vO,I];exact k _ (al.new y)
        ·have e:decide ((3:Int)<((mkS w).length:Int))=decide (3<w.length):=by
          rw[t,be,aD,aD];omega
         rw[e];exact k _ (al.refl _)
       ·have:=q J ((M.trans B).trans C);rw[v,tK u,a,hA]at this;exact⟨_,rfl,this⟩
      ·rintro Y J⟨C,hZ,rfl⟩;refine⟨_,rfl,C,r2,sd,?_,_,_,_,_,rfl⟩;rw[v,tK u,hA,hZ];show gq m r2=_;rw[show n-(i+1)=m from by omega]
  ·rintro d H'⟨s1,g,L,v,o1,o2,o3,o4,rfl⟩;have:=q H' s1;rw[v,Nat.sub_self]at this;exact⟨_,rfl,this⟩
def px(g:List Nat->Option (List Nat)):Sp:=λvs H Q _=>∃(x:Str)(l:List Nat),vs=[.str x,.int (pos x l)]/\gw x l/\x.length<=90000/\∀H',al H H'->Q (.int (nO x (g l))) H'
theorem HI{x:Str}{l r:List Nat}(s:gw x l)(h:bp [32,123] l=some r):gw (Txt.slice x none (some (pos x l+2))++(" ":Str)++Txt.slice x (some (pos x l+2)) none) (32::r)/\(Txt.slice x none (some (pos x l+2))++(" ":Str)++Txt.slice x (some (pos x l+2)) none).length=x.length+1/\(Txt.slice x none (some (pos x l+2))).length<=x.length/\(Txt.slice x (some (pos x l+2)) none).length<=x.length:=by
 obtain⟨f,p2⟩:=s.cut h;obtain⟨a,h1,h2,g⟩:=f.nat;have e:pos x l+2=(a:Int):=by rw[<-h1];exact p2.symm
 rw[e];have c:=mQ x a;have b:=iz x (a:=a) Qo;rw[h2]at b;have d:(Txt.slice x none (some (a:Int))++(" ":Str)++Txt.slice x (some (a:Int)) none).cps.toList=x.cps.toList.take a++32::r:=by
  rw[bC,bC,c,b,show(" ":Str).cps.toList=[32]from by decide+kernel,ax];rfl
 refine⟨⟨_,d⟩,?_,?_,?_⟩
 ·rw[<-bQ,d,ae,bT,bQ,aK];omega
 ·rw[<-bQ,c,bT,bQ];omega
 ·rw[<-bQ,b];omega
theorem Fl{l r:List Nat}(h:lq l=some r):∃p,l=p++r/\1<=p.length:=by
 obtain⟨x,_,e⟩:=rj h;exact⟨32::x.cps.toList,e,f6 (bV _)⟩
theorem Hm(l:List Nat):gq 1 l=lq l:=by
 show(lq l).bind (gq 0)=_;cases lq l<;>rfl
theorem gw.shr{x:Str}{l p r:List Nat}(s:gw x l)(e:l=p++r)(h:1<=p.length):gw x r/\1<=pos x r/\r.length<l.length:=by
 subst e;have h2:=mV x p r;have a:=Cq s;refine⟨s.of,Qo,?_⟩;rw[ae];omega
abbrev K_:List Str:=["_law_text_here","_law_at","_law_end","_law_word"]
theorem pH:bD K_ ["_law_text_here","_law_at"] (aU s_l_set_end):=⟨rfl,rfl,rfl,Qk,rfl,Qk,Qk⟩
theorem G3{f:Addr}{fd:FuncData}(F:fg K "_law_set_end" "_law_set_end" s_l_set_end f fd)(T:dF K mg)(cr:dk P w K mg base 1 "_law_run" ["_law_text_here","_law_at","_law_signs"] pp)(cn:dk P w K mg base 2 "_law_names" ["_law_text_here","_law_at","_law_many"] mP):FnOk P w K mg base gW 3 f fd ["_law_text_here","_law_at"] (px fF):=by
 refine F.ok pH (λvs H Q E h=>?_) (λxc A outer s H vs Q E hr h=>?_)
 ·obtain⟨x,l,rfl,_⟩:=h;rfl
 ·obtain⟨x,l,rfl,J,hx,q⟩:=h;have o:cF 1 _:=hr.mono Qd;have n:x.length<=100000:=Qo;refine⟨_,(aQ (bA (aI b4 (bM cK (pv 0) (bi (pv 1)) (bi (aF bK (pv 1) ai))) ad (aS _)) (aQ (bA (aI b4 (bM cK (pv 0) (bi (aF bK (pv 1) ai)) (bi (aF bK (pv 1) ai))) ad (aS _)) (am (aR (aF bK (pv 1) ai))) aW)
   (aQ (aY (i:=1) pH.nd rfl (aN rfl) (aF gX (aJ cn hr Qr (aa (aF aM (aF aM (bM cK (pv 0) fj (bi (aF bK (pv 1) ai))) ad) (bM cK (pv 0) (bi (aF bK (pv 1) ai)) fj)) (aa (aF bK (pv 1) ai) (aa ai ac)))) ai))
   (aQ (pO PassesOwn.never (PW.pt (gH (aI mY (pv 1) ai (aS _)) (gb (aI b4 (bM cK (pv 0) (bi (pv 1)) (bi (aF bK (pv 1) ai))) ad (aS _)))))
      (am (aY (i:=1) pH.nd rfl (aN rfl) (aJ cn hr Qr (aa (pv 0) (aa (aF bK (pv 1) ai) (aa ai ac)))))))
   (aQ (bA (PW.pt (eQ (aI jn (pv 1) ai (aS _)) (dU (aI fc (bM cK (pv 0) (bi (pv 1)) (bi (aF bK (pv 1) ai))) ad (aS _))))) (am (aR (kM iN ai))) aW)
   (am (aR (aF bK (pv 1) ai))))))) aW)
   (aw (aY (i:=2) pH.nd rfl (aN rfl) (aJ cr o Qr (aa (pv 0) (aa (aF bK (pv 1) ai) (aa ad ac)))))
   (aw (aY (i:=3) pH.nd rfl (aN rfl) (bM cK (pv 0) (bi (pv 1)) (bi (pv 2))))
   (aQ (bA (aI b4 (pv 3) ad (aS _)) (am (aR (pv 2))) aW)
   (aQ (bA (PW.pt (eQ (aI b4 (pv 3) ad (aS _)) (dU (aI b4 (pv 3) ad (aS _))))) (am (aR (aJ cn hr Qr (aa (pv 0) (aa (pv 2) (aa ai ac)))))) aW)
   (am (aR (kM iN ai)))))))),?_⟩
  refine⟨λd H'=>al H H'/\bp [32,123] l=none/\d=[some (.str x),some (.int (pos x l)),none,none],?_,?_⟩
  ·refine ck (b:=(bp [32,123] l).isSome) (λQ k=>⟨_,rfl,_,rfl,_,rfl,_,rfl,_,_,rfl,rfl,_,rfl,x,rfl,cY n,rfl,_,rfl,?_⟩) (λg B u=>?_) (λg B u=>⟨u,by simpa using g,rfl⟩)
   ·rw[fH (j:=pos x l+2) J (p:=[32,123]) Qk rfl];exact k _ (al.refl _)
   ·obtain⟨r,g⟩:=bh.mp g;obtain⟨W,I⟩:=J.cut g;have I:pos x l+2=pos x r:=I.symm;have v:fF l=match bp [125] r with
     |some o=>some o
     |none=>(lq (32::r)).bind λo=>jt (o.length+1) o:=by
     unfold fF;rw[g]
     try rfl
    refine⟨λd H'=>al H H'/\bp [125] r=none/\d=[some (.str x),some (.int (pos x l)),none,none],?_,?_⟩
    ·refine ck (b:=(bp [125] r).isSome) (λQ k=>⟨_,rfl,_,rfl,_,_,rfl,rfl,_,rfl,_,rfl,_,_,rfl,rfl,_,rfl,x,rfl,cY n,rfl,_,rfl,?_⟩) (λt X R=>?_) (λt X R=>⟨u.trans R,by simpa using t,rfl⟩)
     ·rw[I,fH (j:=pos x l+3) W (p:=[125]) Qk (by rw[<-I];show _=_+(1:Int);omega)];exact k _ (al.refl _)
     ·obtain⟨o,t⟩:=bh.mp t;have:=q X (u.trans R);rw[v,t]at this;refine⟨_,rfl,_,_,rfl,rfl,?_⟩;have e:=(W.cut t).2;exact F8 (Q:=Q) (show pos x l+3=pos x o from by rw[e,<-I];show _=_+(1:Int);omega) this
    ·rintro xi X⟨R,t,rfl⟩;have v:fF l=(lq (32::r)).bind λo=>jt (o.length+1) o:=by rw[v,t]
     obtain⟨i1,i2,i3,i4⟩:=HI J g;refine⟨λd H'=>al H H'/\∃i:Int,((∃a,i=pos x a/\gw x a/\1<=pos x a/\∃k,a.length<k/\fF l=jt k a)\/(i<0/\fF l=none))/\d=[some (.str x),some (.int i),none,none],?_,?_⟩
     ·refine⟨_,rfl,_,rfl,_,_,rfl,rfl,_,rfl,x,rfl,cY n,_,_,rfl,rfl,?_,_,rfl,_,rfl,_,_,rfl,rfl,_,rfl,x,rfl,cY n,_,_,rfl,rfl,?_,_,rfl,_,_,rfl,rfl,?_⟩
      ·rw[show(" ":Str).length=1 from by decide+kernel];exact cY Qo
      ·refine cY ?_;simp only[<-bQ,bC,ae]at i2 hx⊢;omega
      ·generalize Txt.slice x none (some (pos x l+2))++(" ":Str)++Txt.slice x (some (pos x l+2)) none=x' at i1 i2;have ep:pos x l+2=pos x' (32::r):=by
        rw[I];unfold pos;rw[i2,aK];omega
       refine⟨x',32::r,1,by show [V.str x',V.int (pos x l+2),V.int 1]=_;rw[ep];rfl,i1,Qo,Qd,λH5 s5=>⟨_,_,rfl,rfl,R.trans s5,_,?_,rfl⟩⟩;rw[Hm];cases h1:lq (32::r)with
       |none=>
        rw[h1]at v;exact .inr ⟨by show(-1:Int)-1<0;decide,v⟩
       |some o=>
        rw[h1]at v;obtain⟨y,hy,e⟩:=rj h1;have e:r=y.cps.toList++o:=by injection e
        have sy:gw x o:=gw.of (p:=y.cps.toList) (by rw[<-e];exact W);have h5:=Cq J;have h6:=mV x y.cps.toList o;rw[<-e]at h6;refine .inl ⟨o,?_,sy,Qo,o.length+1,f7 _,v⟩;show pos x' o-1=pos x o;unfold pos;rw[i2];omega
     ·rintro xf H5⟨s5,i,hi,rfl⟩;refine⟨λd H'=>al H H'/\∃i:Int,((∃a,i=pos x a/\gw x a/\1<=pos x a/\fF l=bp [125] a)\/(i<0/\fF l=none))/\d=[some (.str x),some (.int i),none,none],?_,?_⟩
      ·refine⟨λm d H'=>al H H'/\∃i:Int,((∃a,i=pos x a/\m=a.length/\gw x a/\1<=pos x a/\∃k,a.length<k/\fF l=jt k a)\/(i<0/\m=0/\fF l=none))/\d=[some (.str x),some (.int i),none,none],?_,?_⟩
       ·rcases hi with⟨a,h1,h2,U,h4⟩|⟨h1,h2⟩
        ·exact⟨_,s5,i,.inl ⟨a,h1,rfl,h2,U,h4⟩,rfl⟩
        ·exact⟨_,s5,i,.inr ⟨h1,rfl,h2⟩,rfl⟩
       ·rintro m xa H6⟨O,j,hj,rfl⟩;rcases hj with⟨a,rfl,rfl,sl,pl,k,hk,M⟩|⟨hj,rfl,ej⟩
        ·refine(Ev.and (b:=true) (c:=(bp [44] a).isSome) ?tA ?tB) _ λN C=>?tC
         case tA=>
          intro Q k;refine⟨_,rfl,_,_,rfl,rfl,_,rfl,?_⟩;rw[show decide ((0:Int)<pos x a)=true from aH Qo];exact k _ (al.refl _)
         case tB=>
          intro _ N C Q k;refine⟨_,rfl,_,rfl,_,rfl,_,rfl,_,_,rfl,rfl,_,rfl,x,rfl,cY n,rfl,_,rfl,?_⟩;rw[fH (j:=pos x a+1) sl (p:=[44]) Qk rfl];exact k _ (al.refl _)
         ·obtain⟨k,rfl⟩:∃k',k=k'+1:=⟨k-1,Qo⟩;cases Y:bp [44] a with
          |none=>
           refine eZ ⟨O.trans C,_,.inl ⟨a,rfl,sl,pl,?_⟩,rfl⟩;rw[M];show(match bp [44] a with|some r=>(lq r).bind (jt k)|none=>bp [125] a)=_;rw[Y]
          |some D=>
           have M:fF l=(lq D).bind (jt k):=by
            rw[M];show(match bp [44] a with|some r=>(lq r).bind (jt k)|none=>bp [125] a)=_;rw[Y]
           obtain⟨Z,G⟩:=sl.cut Y;have G:pos x a+1=pos x D:=G.symm;refine eT ⟨λL H2=>al H H2/\L=[some (.str x),some (.int (nO x (lq D))),none,none],?_,?_⟩
           ·rintro xg H8⟨s8,rfl⟩;have xh:D.length<a.length:=by
             unfold pos at G;omega
            cases h1:lq D with
            |none=>
             rw[h1]at M;refine⟨0,Qo,s8,_,.inr ⟨by show(-1:Int)<0;decide,rfl,M⟩,rfl⟩
            |some r4=>
             rw[h1]at M;obtain⟨p,e4,h4⟩:=Fl h1;obtain⟨t1,t2,t3⟩:=Z.shr e4 h4;exact⟨r4.length,Qo,s8,_,.inl ⟨r4,rfl,rfl,t1,t2,k,Qo,M⟩,rfl⟩
           ·refine⟨_,rfl,_,rfl,_,_,rfl,rfl,x,D,1,by show [V.str x,V.int (pos x a+1),V.int 1]=_;rw[G];rfl,Z,n,Qd,λH8 s8=>?_⟩;rw[Hm];exact⟨(O.trans C).trans s8,rfl⟩
        ·refine⟨_,rfl,_,_,rfl,rfl,_,rfl,?_⟩;rw[aP (by omega:¬(0:Int)<j)];exact eZ (eZ ⟨O,j,.inr ⟨hj,ej⟩,rfl⟩)
      ·rintro xa H6⟨O,i,hi,rfl⟩;rcases hi with⟨a,rfl,sl,pl,el⟩|⟨hi,ei⟩
       ·refine⟨λd H'=>al H H'/\(∃D,bp [125] a=some D)/\d=[some (.str x),some (.int (pos x a)),none,none],?_,?_⟩
        ·refine ck (b:=false|| !(bp [125] a).isSome) (Ev.or (λQ k=>⟨_,rfl,_,_,rfl,rfl,_,rfl,?_⟩) λ_ N C=>λQ k=>⟨_,rfl,_,rfl,_,rfl,_,rfl,_,_,rfl,rfl,_,rfl,x,rfl,cY n,rfl,_,rfl,?_⟩) (λg N C=>?_) (λg N C=>?_)
         ·rw[aP (by omega:¬pos x a<1)];exact k _ (al.refl _)
         ·rw[fH (j:=pos x a+1) sl (p:=[125]) Qk rfl];exact k _ (al.refl _)
         ·have g:bp [125] a=none:=by simpa using g
          have:=q N (O.trans C);rw[el,g]at this;exact⟨_,rfl,this⟩
         ·exact⟨O.trans C,bh.mp (by simpa using g),rfl⟩
        ·rintro xe N⟨C,⟨D,U⟩,rfl⟩;have:=q N C;rw[el,U]at this;refine⟨_,rfl,_,_,rfl,rfl,?_⟩;exact F8 (Q:=Q) (show pos x a+1=pos x D from(sl.cut U).2.symm) this
       ·refine⟨λd H'=>False,?_,λ_ _ z=>z.elim⟩;refine⟨_,rfl,_,_,rfl,rfl,_,rfl,?_⟩;rw[aH (by omega:i<1)];have:=q H6 O;rw[ei]at this;exact eT (eT ⟨_,rfl,this⟩)
  ·rintro xd H1⟨s1,Y,rfl⟩;have v:fF l=(bp [32] l).bind λr=>if r.takeWhile cO=[97,108,108]then some (r.dropWhile cO)else if r.takeWhile cO=[102,114,111,109]\/r.takeWhile cO=[116,111]then lq (r.dropWhile cO)else none:=by
    unfold fF;rw[Y]
   cases l with
   |nil=>
    refine⟨_,rfl,_,rfl,_,_,rfl,rfl,x,BW,_,cO,rfl,nh,n,.inr ⟨by unfold pos;rw[bZ];omega,?_⟩⟩;refine⟨_,rfl,_,rfl,_,rfl,_,rfl,_,rfl,x,rfl,cY n,?_⟩;rw[DZ (j:=pos x []+1) J 1 rfl,List.take_nil];have qq:=λH' s'=>q H' s';rw[v]at qq;refine⟨λd H'=>al H1 H'/\d=[some (.str x),some (.int (pos x [])),some (.int (pos x []+1)),some (.str (mkS []))],⟨_,rfl,rfl,_,rfl,?_⟩,?_⟩
    ·rw[eY (l:=[]) (by decide+kernel:(" all":Str).cps.toList=[32,97,108,108])];exact eZ ⟨al.refl _,rfl⟩
    ·rintro L H2⟨s2,rfl⟩;refine⟨λd H'=>al H1 H'/\True,?_,?_⟩
     ·refine⟨_,rfl,rfl,_,rfl,?_⟩;rw[eY (l:=[]) (by decide+kernel:(" from":Str).cps.toList=[32,102,114,111,109])];refine eZ ⟨_,rfl,rfl,_,rfl,?_⟩;rw[eY (l:=[]) (by decide+kernel:(" to":Str).cps.toList=[32,116,111])];exact eZ ⟨s2,trivial⟩
     ·rintro xb B⟨u,_⟩;exact⟨_,rfl,qq B (s1.trans u)⟩
   |cons c r=>
    have W:=J.cons;have I:=pP x c r;obtain⟨sd,pd⟩:=W.drop cO;refine⟨_,rfl,_,rfl,_,_,rfl,rfl,x,BW,_,cO,rfl,nh,n,.inl ⟨r,I.symm,W,?_⟩⟩;refine⟨_,rfl,_,rfl,_,rfl,_,rfl,_,rfl,x,rfl,cY n,?_⟩;rw[DZ J ((r.takeWhile cO).length +1) Qo,oM,mM];have v:fF (c::r)=if c=32 then(if r.takeWhile cO=[97,108,108]then some (r.dropWhile cO)else if r.takeWhile cO=[102,114,111,109]\/r.takeWhile cO=[116,111]then lq (r.dropWhile cO)else none)else none:=by
     rw[v];by_cases h:c=32
     ·rw[h,show bp [32] (32::r)=some r from gs [32] r,aO rfl];rfl
     ·rw[mf (p:=[32]) (λr' z=>h (by injection z)),aG h];rfl
    rw[v]at q;generalize r.takeWhile cO=w at q;generalize r.dropWhile cO=r2 at sd q;clear v;refine⟨λd H'=>al H1 H'/\¬(c::w=[32,97,108,108])/\d=[some (.str x),some (.int (pos x (c::r))),some (.int (pos x r2)),some (.str (mkS (c::w)))],?_,?_⟩
    ·refine ck (b:=decide (c::w=[32,97,108,108])) (λQ k=>⟨_,rfl,rfl,_,rfl,?_⟩) (λg B u=>?_) (λg B u=>⟨u,cq g,rfl⟩)
     ·rw[eY (l:=c::w) (by decide+kernel:(" all":Str).cps.toList=[32,97,108,108])];exact k _ (al.refl _)
     ·have g:=bb g;have:=q B (s1.trans u);have e1:c=32:=by injection g
      have e2:w=[97,108,108]:=by injection g
      rw[aO e1,aO e2]at this;exact⟨_,rfl,this⟩
    ·rintro L H2⟨s2,h2,rfl⟩;refine⟨λd H'=>al H1 H'/\¬(c=32/\(w=[102,114,111,109]\/w=[116,111])),?_,?_⟩
     ·refine ck (b:=decide (c::w=[32,102,114,111,109])||decide (c::w=[32,116,111])) (Ev.or (λQ k=>⟨_,rfl,rfl,_,rfl,?_⟩) λ_ B u=>λQ k=>⟨_,rfl,rfl,_,rfl,?_⟩) (λg B u=>?_) (λg B u=>⟨s2.trans u,?_⟩)
      ·rw[eY (l:=c::w) (by decide+kernel:(" from":Str).cps.toList=[32,102,114,111,109])];exact k _ (al.refl _)
      ·rw[eY (l:=c::w) (by decide+kernel:(" to":Str).cps.toList=[32,116,111])];exact k _ (al.refl _)
      ·have S:c=32/\(w=[102,114,111,109]\/w=[116,111]):=by
        rcases dR.mp g with h|h
        ·have h:=bb h;exact⟨by injection h,.inl (by injection h)⟩
        ·have h:=bb h;exact⟨by injection h,.inr (by injection h)⟩
       refine⟨_,rfl,_,rfl,x,r2,1,rfl,sd,n,Qd,λX R=>?_⟩;have:=q X (((s1.trans s2).trans u).trans R);rw[Hm];rw[aO S.1,aG (λz=>h2 (by rw[S.1,z])),aO S.2]at this;exact this
      ·rintro⟨h,z⟩;obtain⟨ha,g⟩:=dh.mp g;rcases z with z|z
       ·exact cq ha (by rw[h,z])
       ·exact cq g (by rw[h,z])
     ·rintro xb B⟨u,U⟩;have:=q B (s1.trans u);have e:(if c=32 then(if w=[97,108,108]then some r2 else if w=[102,114,111,109]\/w=[116,111]then lq r2 else none)else none)=none:=by
       by_cases h:c=32
       ·rw[aO h,aG (λz=>h2 (by rw[h,z])),aG (λz=>U ⟨h,z⟩)]
       ·rw[aG h]
      rw[e]at this;exact⟨_,rfl,this⟩
abbrev Lc:List Str:=["_law_text_here","_law_at","_law_end"]
theorem Cb:bD Lc ["_law_text_here","_law_at"] (aU s_l_cost_end):=⟨rfl,rfl,rfl,Qk,rfl,Qk,Qk⟩
theorem Hg{f:Addr}{fd:FuncData}(F:fg K "_law_cost_end" "_law_cost_end" s_l_cost_end f fd)(cn:dk P w K mg base 2 "_law_names" ["_law_text_here","_law_at","_law_many"] mP)(M:dk P w K mg base 2 "_law_number_end" ["_law_text_here","_law_at"] (oO jc)):FnOk P w K mg base gW 3 f fd ["_law_text_here","_law_at"] (px mh):=by
 refine F.ok Cb (λvs H Q E h=>?_) (λG A outer s H vs Q E v h=>?_)
 ·obtain⟨x,l,rfl,_⟩:=h;rfl
 ·obtain⟨x,l,rfl,B,U,q⟩:=h;have c:x.length<=100000:=Qo;refine⟨_,(aw (aY (i:=2) Cb.nd rfl (aN rfl) (aJ cn v Qr (aa (pv 0) (aa (pv 1) (aa ai ac)))))
   (aQ (bA (PW.pt (eQ (aI jn (pv 2) ai (aS _)) (dU (aI fc (bM cK (pv 0) (bi (pv 2)) (bi (aF bK (pv 2) ai))) ad (aS _))))) (am (aR (kM iN ai))) aW)
   (am (aR (aJ M v Qr (aa (pv 0) (aa (aF bK (pv 2) ai) ac))))))),?_⟩
  refine⟨_,rfl,_,rfl,x,l,2,rfl,B,c,Qd,λH1 s1=>?_⟩;have m:mh l=(gq 2 l).bind λr=>(bp [32,60,61,32] r).bind jc:=rfl;cases h1:gq 2 l with
  |none=>
   rw[h1]at m;refine⟨λg H'=>False,?_,λ_ _ z=>z.elim⟩;refine⟨_,rfl,_,_,rfl,rfl,_,rfl,?_⟩;have:=q H1 s1;rw[m]at this;exact eT (eT ⟨_,rfl,this⟩)
  |some r=>
   rw[h1]at m;obtain⟨ns,S,W,N⟩:=rh h1;have J:1<=(uE ns).length:=by
    cases ns with
    |nil=>cases S
    |cons a b=>exact f6 (bV _)
   obtain⟨u,X,T⟩:=B.shr N J;refine⟨λg H'=>al H H'/\(∃d,bp [32,60,61,32] r=some d)/\g=[some (.str x),some (.int (pos x l)),some (.int (pos x r))],?_,?_⟩
   ·refine ck (b:=false|| !(bp [32,60,61,32] r).isSome) (Ev.or (λQ k=>⟨_,rfl,_,_,rfl,rfl,_,rfl,?_⟩) λ_ o n=>λQ k=>⟨_,rfl,_,rfl,_,rfl,_,rfl,_,_,rfl,rfl,_,rfl,x,rfl,cY c,rfl,_,rfl,?_⟩) (λe o n=>?_) (λe o n=>?_)
    ·show(λb H=>Q b H) (decide (pos x r<1)) _;rw[aP (by omega:¬pos x r<1)];exact k _ (al.refl _)
    ·show(λb H=>Q b H) (!decide (V.str (Txt.slice x (some (pos x r)) (some (pos x r+4)))=_)) _;rw[fH (j:=pos x r+4) u (p:=[32,60,61,32]) Qk rfl];exact k _ (al.refl _)
    ·have e:bp [32,60,61,32] r=none:=by simpa using e
     have:=q o (s1.trans n);rw[m]at this;show _;have t:((some r).bind λr=>(bp [32,60,61,32] r).bind jc)=none:=by
      show(bp [32,60,61,32] r).bind jc=none;rw[e];rfl
     rw[t]at this;exact⟨_,rfl,this⟩
    ·exact⟨s1.trans n,bh.mp (by simpa using e),rfl⟩
   ·rintro R H2⟨L,⟨d,y⟩,rfl⟩;obtain⟨O,I⟩:=u.cut y;refine⟨_,rfl,_,rfl,_,_,rfl,rfl,x,d,by show [V.str x,V.int (pos x r+4)]=_;rw[show pos x r+4=pos x d from I.symm],O,c,λC D=>?_⟩;have:=q C (L.trans D);rw[m]at this;have t:((some r).bind λr=>(bp [32,60,61,32] r).bind jc)=jc d:=by
     show(bp [32,60,61,32] r).bind jc=_;rw[y];rfl
    rw[t]at this;exact this
end
def wS(c:Nat):Nat:=if c=40 then 3 else if c=42 then 2 else if c=58 then 4 else 0
def w1(l:List Nat):Nat:=(l.map wS).sum
def w2:List Nat->Nat
 |[]=>0
 |a::r=>(if a=111/\r.take 2=[116,32]then 1 else 0)+w2 r
def qb(b:List Nat):Prop:=b.head?=some 32\/b.take 2=[116,32]
instance(b:List Nat):Decidable (qb b):=by unfold qb;infer_instance
def wt(l:List Nat):Nat:=w1 l+3*w2 l
theorem kh(a b:List Nat):w1 (a++b)=w1 a+w1 b:=by
 unfold w1;rw[aT,mJ]
theorem Bx(a b:List Nat):w2 b<=w2 (a++b):=by
 induction a with
 |nil=>exact ao _
 |cons c r d=>exact af d (Nat.le_add_left _ _)
theorem wU(a b:List Nat):w2 (a++b)<=w2 a+w2 b+(if qb b then 1 else 0):=by
 induction a with
 |nil=>exact af (by show w2 b<=0+w2 b;omega) (Nat.le_add_right _ _)
 |cons c r g=>
  show(if c=111/\(r++b).take 2=[116,32]then 1 else 0)+w2 (r++b)<=(if c=111/\r.take 2=[116,32]then 1 else 0)+w2 r+w2 b+_;cases r with
  |nil=>
   show(if c=111/\b.take 2=[116,32]then 1 else 0)+w2 b<=(if c=111/\[]=[116,32]then 1 else 0)+0+w2 b+_;by_cases h1:b.take 2=[116,32]
   ·rw[aO (show qb b from .inr h1)];split<;>omega
   ·rw[aG (λz=>h1 z.2)];omega
  |cons d r=>
   cases r with
   |nil=>
    show(if c=111/\(d::b).take 2=[116,32]then 1 else 0)+((if d=111/\b.take 2=[116,32]then 1 else 0)+w2 b)<=(if c=111/\[d]=[116,32]then 1 else 0)+((if d=111/\[]=[116,32]then 1 else 0)+0)+w2 b+_;by_cases h1:c=111/\(d::b).take 2=[116,32]
    ·have h2:d=116:=by
      have:=bL List.head? h1.2;simpa using this
     have f:qb b:=by
      refine .inl ?_;cases b with
      |nil=>cases h1.2
      |cons e b=>
       have:=h1.2;simp at this;show some e=some 32;rw[this.2]
     rw[aO h1,aO f,aG (by rw[h2];exactλz=>absurd z.1 Qd)];omega
    ·rw[aG h1];by_cases h2:b.take 2=[116,32]
     ·rw[aO (show qb b from .inr h2)];split<;>omega
     ·rw[aG (λz=>h2 z.2)];omega
   |cons e r=>
    have e:((d::e::r)++b).take 2=(d::e::r).take 2:=rfl;rw[e];omega
def Hu:List Nat->Bool
 |[]=>true
 |[c]=>decide (c≠111)
 |[c,d]=>decide (d≠111)&& !(decide (c=111)&&decide (d=116))
 |_::r=>Hu r
theorem By:∀{a:List Nat},Hu a=true->∀b,w2 (a++b)=w2 a+w2 b
 |[],_,b=>(Nat.zero_add _).symm
 |[c],h,b=>by
  have h:c≠111:=bb h;show(if c=111/\b.take 2=[116,32]then 1 else 0)+w2 b=((if c=111/\[]=[116,32]then 1 else 0)+0)+w2 b;rw[aG (λz=>h z.1),aG (λz=>h z.1)]
 |[c,d],h,b=>by
  have h:(decide (d≠111)&& !(decide (c=111)&&decide (d=116)))=true:=h;simp only[bc,aD,iY,gR,decide_eq_false_iff_not]at h;show(if c=111/\(d::b).take 2=[116,32]then 1 else 0)+((if d=111/\b.take 2=[116,32]then 1 else 0)+w2 b)=((if c=111/\[d]=[116,32]then 1 else 0)+((if d=111/\[]=[116,32]then 1 else 0)+0))+w2 b;have h1:¬(c=111/\(d::b).take 2=[116,32]):=by
   rintro⟨g,i⟩;have j:d=116:=by
    have:=bL List.head? i;simpa using this
   rcases h.2 with z|z
   ·exact z g
   ·exact z j
  rw[aG h1,aG (λz=>h.1 z.1),aG (λz=>by have:=bL List.length z.2;simp at this),aG (λz=>h.1 z.1)];omega
 |c::d::e::r,h,b=>by
  have f:=By (a:=d::e::r) h b;show(if c=111/\(d::e::(r++b)).take 2=[116,32]then 1 else 0)+w2 ((d::e::r)++b)=((if c=111/\(d::e::r).take 2=[116,32]then 1 else 0)+w2 (d::e::r))+w2 b;rw[f,show(d::e::(r++b)).take 2=(d::e::r).take 2 from rfl];omega
theorem kg(a b:List Nat):w1 a+wt b<=wt (a++b):=by
 have:=Bx a b;unfold wt;rw[kh];omega
theorem jM{p l r:List Nat}(h:bp p l=some r):w1 p+wt r<=wt l:=by
 rw[dH h];exact kg p r
theorem Kj(r:List Nat):3+wt r<=wt (111::116::32::r):=by
 have h:=Bx [116,32] r;show 3+(w1 r+3*w2 r)<=w1 ([111,116,32]++r)+3*((if 111=111/\(116::32::r).take 2=[116,32]then 1 else 0)+w2 ([116,32]++r));rw[kh,aO ⟨rfl,rfl⟩];omega
def jQ:Option Bool->Str
 |none=>""
 |some true=>"t"
 |some false=>"c"
def RT(x:Str):Option mG->List V
 |none=>[.str (jQ none),.int 0,.int 0]
 |some q=>[.str (jQ (some q.1)),.int q.2.1,.int (pos x q.2.2)]
theorem lu(a b:Option Bool):decide (V.str (jQ a)=V.str (jQ b))=decide (a=b):=by
 rw[jK];rcases a with _|_|_<;>rcases b with _|_|_<;>decide+kernel
theorem oH(a:Option Bool):decide (V.str (jQ a)=V.str "t")=decide (a=some true):=lu a (some true)
theorem Jw(a:Option Bool):decide (V.str (jQ a)=V.str "c")=decide (a=some false):=lu a (some false)
theorem Fs(a:Option Bool):decide (V.str (jQ a)=V.str "")=decide (a=none):=lu a none
theorem KK(a b:Nat):(1:Int)+(if(b:Int)>(a:Int)then(b:Int)else(a:Int))=((1+max a b:Nat):Int):=by
 split<;>omega
def jb(G:Nat->PF)(c N:Nat):Sp:=λvs H Q _=>∃(x:Str)(l:List Nat)(n:Nat),vs=[.str x,.int (pos x l)]/\gw x l/\x.length<=90000/\l.length<n+c/\wt l<N/\∀H' p,al H H'->H' p=some (.tup (RT x (G n l)))->Q (.ref p) H'
def ol(m:Str)(G:Nat->PF)(N:Nat):Sp:=λvs H Q _=>∃(x:Str)(l:List Nat)(n:Nat),vs=[.str x,.int (pos x l),.str m]/\gw x l/\x.length<=90000/\l.length<n/\wt l<N/\∀H' p,al H H'->H' p=some (.tup (RT x (G n l)))->Q (.ref p) H'
def xD:Sp:=λvs H Q _=>∃(x:Str)(b:Bool)(o:Option (List Nat)),vs=[.str (jQ (some b)),.int (nO x o)]/\(∀r,o=some r->1<=pos x r)/\∀H' p,al H H'->H' p=some (.tup (RT x (fV b o)))->Q (.ref p) H'
theorem sh{G:Nat->PF}{c:Nat}{vs:List V}{H:Hp}{Q:VK}{E:XK}(h:jb G c 0 vs H Q E):False:=by
 obtain⟨_,_,_,_,_,_,_,h,_⟩:=h;omega
theorem y_{m:Str}{G:Nat->PF}{vs:List V}{H:Hp}{Q:VK}{E:XK}(h:ol m G 0 vs H Q E):False:=by
 obtain⟨_,_,_,_,_,_,_,h,_⟩:=h;omega
theorem mL{n:Nat}{l:List Nat}{q:mG}(h:thE n l=some q):∃p,l=p++q.2.2:=by
 obtain⟨c,_,_,_,_,e⟩:=Ed n l q h;exact⟨_,e⟩
theorem nY{n:Nat}{l:List Nat}{q:mG}(h:fullOf (thE n) l=some q):∃p,l=p++q.2.2:=by
 obtain⟨c,_,_,_,e⟩:=qf (Ed n) h;exact⟨_,e⟩
section
variable{P:Program}{w:World}{K:ah}{mg:Str->Option Value}{base:Heap}
theorem ka{nm:Str}{st:Stmt}{ps:List Str}{sp:Sp}(k:Nat)(b:∃f fd,fg K nm nm st f fd/\mg nm=some (.ref f))(a:∀f fd,fg K nm nm st f fd->i8 K fd ps [])(h:∀vs H Q E,sp vs H Q E->False):dk P w K mg base k nm ps sp:=by
 obtain⟨f,fd,F,m⟩:=b;exact⟨f,fd,⟨λvs H Q E z=>(h vs H Q E z).elim,λA outer s H args us vs Q E _ _ _ _ z=>(h vs H Q E z).elim⟩,m,F.kp,a f fd F⟩
theorem IL:bD ["_law_kind","_law_end"] ["_law_kind","_law_end"] (aU s_l_flat):=⟨rfl,rfl,rfl,Qk,rfl,Qk,Qk⟩
theorem Ji{f:Addr}{fd:FuncData}(F:fg K "_law_flat" "_law_flat" s_l_flat f fd)(T:dF K mg):FnOk P w K mg base gW 1 f fd ["_law_kind","_law_end"] xD:=by
 refine F.ok IL (λvs H Q E h=>?_) (λk A outer s H vs Q E l h=>?_)
 ·obtain⟨x,b,o,rfl,_⟩:=h;rfl
 ·obtain⟨x,b,o,rfl,m,q⟩:=h;refine⟨_,(am (aR (bE d_ (cA (aa (cM (aa (pv 0) (aa ai (aa (pv 1) ac)))) (aa (cM (aa ad (aa ai (aa ai ac)))) ac))) (d9 oa Qr T.int Aq (aa (kr jn (pv 1) ai (aS _)) ac)) (λ_ _=>Qr)))),?_⟩;refine⟨_,rfl,_,rfl,(by show 3<=sizeLine;decide),λt n=>⟨(by show 3<=sizeLine;decide),λu i=>⟨(by show 2<=sizeLine;decide),λp e=>⟨_,rfl,_,_,rfl,rfl,.inr ⟨_,rfl,?_⟩⟩⟩⟩⟩;have s1:al H (upd H t (.tup [.str (jQ (some b)),.int 1,.int (nO x o)])):=al.new n;have g:(upd H t (.tup [.str (jQ (some b)),.int 1,.int (nO x o)])) t=some (.tup [.str (jQ (some b)),.int 1,.int (nO x o)]):=ak;generalize upd H t (.tup [.str (jQ (some b)),.int 1,.int (nO x o)])=H1 at s1 g i e;have c:al H1 (upd H1 u (.tup [.str "",.int 0,.int 0])):=al.new i;have j:(upd H1 u (.tup [.str "",.int 0,.int 0])) u=some (.tup [.str "",.int 0,.int 0]):=ak;generalize upd H1 u (.tup [.str "",.int 0,.int 0])=H2 at c j e;have a:al H2 (upd H2 p (.lst [.ref t,.ref u])):=al.new e;have d:(upd H2 p (.lst [.ref t,.ref u])) p=some (.lst [.ref t,.ref u]):=ak;generalize upd H2 p (.lst [.ref t,.ref u])=H3 at a d;cases o with
  |none=>exact⟨p,_,_,.ref u,rfl,rfl,SqL.of d,rfl,q _ u ((s1.trans c).trans a) (a _ _ j)⟩
  |some r=>
   have l:=m r rfl;refine⟨p,_,_,.ref t,rfl,rfl,SqL.of d,?_,q _ t ((s1.trans c).trans a) (a _ _ (c _ _ g))⟩;rw[show decide (nO x (some r)<1)=false from aP (by show¬pos x r<1;omega)];rfl
abbrev LJ:List Str:=["_law_text_here","_law_at","_law_left","_law_right"]
theorem Ca:bD LJ ["_law_text_here","_law_at"] (aU s_l_full):=⟨rfl,rfl,rfl,Qk,rfl,Qk,Qk⟩
theorem F3{L N:Nat}{f:Addr}{fd:FuncData}(F:fg K "_law_full" "_law_full" s_l_full f fd)(T:dF K mg)(ct:dk P w K mg base L "_law_thing" ["_law_text_here","_law_at"] (jb thE 0 N)):FnOk P w K mg base gW (L+1) f fd ["_law_text_here","_law_at"] (jb (λn=>fullOf (thE n)) 0 N):=by
 refine F.ok Ca (λvs H Q E h=>?_) (λxe A outer s H vs Q E hr h=>?_)
 ·obtain⟨x,l,n,rfl,_⟩:=h;rfl
 ·obtain⟨x,l,n,rfl,sf,hx,hn,hw,q⟩:=h;have xb:x.length<=100000:=Qo;refine⟨_,(aw (aY (i:=2) Ca.nd rfl (aN rfl) (aJ ct hr Qr (aa (pv 0) (aa (pv 1) ac))))
   (aQ (bA (PW.pt (eQ (aI fc (bE bB (pv 2) ai (λ_ _=>Qr)) ad (aS _)) (dU (aI fc (bM cK (pv 0) (bi (bE bB (pv 2) ai (λ_ _=>Qr))) (bi (aF bK (bE bB (pv 2) ai (λ_ _=>Qr)) ai))) ad (aS _))))) (am (aR (pv 2))) aW)
   (aw (aY (i:=3) Ca.nd rfl (aN rfl) (aJ ct hr Qr (aa (pv 0) (aa (aF bK (bE bB (pv 2) ai (λ_ _=>Qr)) ai) ac))))
   (aQ (bA (aI fc (bE bB (pv 3) ai (λ_ _=>Qr)) ad (aS _)) (am (aR (cM (aa ad (aa ai (aa ai ac)))))) aW)
   (am (aR (cM (aa ad (aa (aF bK ai (bP (n_ rfl) Qr T.max Ap (aa (bE bB (pv 2) ai (λ_ _=>Qr)) (aa (bE bB (pv 3) ai (λ_ _=>Qr)) ac)))) (aa (bE bB (pv 3) ai (λ_ _=>Qr)) ac)))))))))),?_⟩
  refine⟨_,rfl,_,rfl,x,l,n,rfl,sf,hx,hn,hw,λH1 p s1 e=>?_⟩;have q:∀H' p,al H H'->H' p=some (.tup (RT x (fullOf (thE n) l)))->Q (.ref p) H':=q;have c:fullOf (thE n) l=(thE n l).bind λq=>if q.1=true then match bp [32,60,61,32] q.2.2 with
   |some r=>(thE n r).bind λp=>if p.1=true then some (false,1+max q.2.1 p.2.1,p.2.2)else none
   |none=>some q else some q:=rfl
  cases hl:thE n l with
  |none=>
   rw[hl]at c e;have e:H1 p=some (.tup [.str (jQ none),.int 0,.int 0]):=e;refine⟨λ_ _=>False,?_,λ_ _ z=>z.elim⟩;refine ck (b:=true||false) (Ev.or (λQ k=>⟨_,rfl,p,_,_,_,rfl,rfl,SqT.of e,rfl,rfl,_,rfl,?_⟩) (λz=>Bool.noConfusion z)) (λa u g=>?_) (λa=>Bool.noConfusion a)
   ·rw[oH];exact k _ (al.refl _)
   ·exact⟨_,rfl,q u p (s1.trans g) (by rw[c];exact g _ _ e)⟩
  |some o=>
   obtain⟨t,d,r⟩:=o;rw[hl]at c e;have e:H1 p=some (.tup [.str (jQ (some t)),.int d,.int (pos x r)]):=e;obtain⟨pr,xc⟩:=mL hl;have er:l=pr++r:=xc;have sr:gw x r:=gw.of (p:=pr) (by rw[<-er];exact sf);cases t with
   |false=>
    refine⟨λ_ _=>False,?_,λ_ _ z=>z.elim⟩;refine ck (b:=true||false) (Ev.or (λQ k=>⟨_,rfl,p,_,_,_,rfl,rfl,SqT.of e,rfl,rfl,_,rfl,?_⟩) (λz=>Bool.noConfusion z)) (λa u g=>?_) (λa=>Bool.noConfusion a)
    ·rw[oH];exact k _ (al.refl _)
    ·exact⟨_,rfl,q u p (s1.trans g) (by rw[c];exact g _ _ e)⟩
   |true=>
    have c:fullOf (thE n) l=match bp [32,60,61,32] r with
     |some r=>(thE n r).bind λp=>if p.1=true then some (false,1+max d p.2.1,p.2.2)else none
     |none=>some (true,d,r):=c
    refine⟨λI H'=>al H1 H'/\(∃y,bp [32,60,61,32] r=some y)/\I=[some (.str x),some (.int (pos x l)),some (.ref p),none],?_,?_⟩
    ·refine ck (b:=false|| !(bp [32,60,61,32] r).isSome) (Ev.or (λQ k=>⟨_,rfl,p,_,_,_,rfl,rfl,SqT.of e,rfl,rfl,_,rfl,?_⟩) (λ_ H2 O=>λQ k=>⟨_,rfl,_,rfl,p,_,_,_,rfl,rfl,SqT.of (O _ _ e),rfl,_,rfl,_,rfl,p,_,_,_,rfl,rfl,SqT.of (O _ _ e),rfl,_,_,rfl,rfl,_,rfl,x,rfl,cY xb,rfl,_,rfl,?_⟩)) (λa u g=>?_) (λa u g=>?_)
     ·rw[oH];exact k _ (al.refl _)
     ·rw[fH (j:=pos x r+4) sr (p:=[32,60,61,32]) Qk rfl];exact k _ (al.refl _)
     ·have a:bp [32,60,61,32] r=none:=by simpa using a
      rw[a]at c;exact⟨_,rfl,q u p (s1.trans g) (by rw[c];exact g _ _ e)⟩
     ·exact⟨g,bh.mp (by simpa using a),rfl⟩
    ·rintro xg H2⟨O,⟨y,W⟩,rfl⟩;rw[W]at c;have c:fullOf (thE n) l=(thE n y).bind λp=>if p.1=true then some (false,1+max d p.2.1,p.2.2)else none:=c;obtain⟨xd,xa⟩:=sr.cut W;have M:y.length<n:=by
      have:=bL List.length er;have h2:=bL List.length (dH W);rw[ae]at this h2;omega
     have Y:wt y<N:=by
      have h1:=jM W;have h2:=kg pr r;rw[<-er]at h2;omega
     have R:=O _ _ e;refine⟨_,rfl,_,rfl,p,_,_,_,rfl,rfl,SqT.of R,rfl,_,_,rfl,rfl,x,y,n,by show [V.str x,V.int (pos x r+4)]=_;rw[show pos x r+4=pos x y from xa.symm],xd,hx,M,Y,λu D g m=>?_⟩;have G:=(s1.trans O).trans g;have Z:=g _ _ R;refine⟨λI H'=>al u H'/\(∃B C,thE n y=some (true,B,C))/\I=[some (.str x),some (.int (pos x l)),some (.ref p),some (.ref D)],?_,?_⟩
     ·cases X:thE n y with
      |none=>
       rw[X]at c m;have m:u D=some (.tup [.str (jQ none),.int 0,.int 0]):=m;refine ck (b:=true) (λQ k=>⟨_,rfl,D,_,_,_,rfl,rfl,SqT.of m,rfl,rfl,_,rfl,?_⟩) (λa U v=>?_) (λa=>Bool.noConfusion a)
       ·rw[oH];exact k _ (al.refl _)
       ·exact⟨(by show 3<=sizeLine;decide),λt S=>q _ t (G.trans (v.upd S)) (by rw[c];exact ak)⟩
      |some o=>
       obtain⟨J,B,C⟩:=o;rw[X]at c m;have m:u D=some (.tup [.str (jQ (some J)),.int B,.int (pos x C)]):=m;refine ck (b:=!J) (λQ k=>⟨_,rfl,D,_,_,_,rfl,rfl,SqT.of m,rfl,rfl,_,rfl,?_⟩) (λa U v=>?_) (λa U v=>?_)
       ·rw[oH,show decide (some J=some true)=J from by cases J<;>rfl];exact k _ (al.refl _)
       ·have a:J=false:=by simpa using a
        rw[a]at c;exact⟨(by show 3<=sizeLine;decide),λt S=>q _ t (G.trans (v.upd S)) (by rw[c];exact ak)⟩
       ·have a:J=true:=by simpa using a
        exact⟨v,⟨B,C,by rw[a]⟩,rfl⟩
     ·rintro xf U⟨v,⟨B,C,X⟩,rfl⟩;rw[X]at c m;have m:u D=some (.tup [.str (jQ (some true)),.int B,.int (pos x C)]):=m;have c:fullOf (thE n) l=some (false,1+max d B,C):=c;refine⟨_,rfl,p,_,_,_,rfl,rfl,SqT.of (v _ _ Z),rfl,_,rfl,D,_,_,_,rfl,rfl,SqT.of (v _ _ m),rfl,_,_,rfl,_,_,rfl,rfl,_,rfl,D,_,_,_,rfl,rfl,SqT.of (v _ _ m),rfl,(by show 3<=sizeLine;decide),λt S=>q _ t (G.trans (v.upd S)) ?_⟩;rw[c];show upd U t (.tup [.str "c",.int (1+(if(B:Int)>(d:Int)then(B:Int)else(d:Int))),.int (pos x C)]) t=_;rw[KK];exact ak
abbrev LI:List Str:=["_law_text_here","_law_at","_law_kind","_law_one"]
theorem F2:bD LI ["_law_text_here","_law_at","_law_kind"] (aU s_l_inner):=⟨rfl,rfl,rfl,Qk,rfl,Qk,Qk⟩
theorem Jh{L N:Nat}{f:Addr}{fd:FuncData}(F:fg K "_law_inner" "_law_inner" s_l_inner f fd)(ct:dk P w K mg base L "_law_full" ["_law_text_here","_law_at"] (jb (λn=>fullOf (thE n)) 0 N)):FnOk P w K mg base gW (L+1) f fd ["_law_text_here","_law_at","_law_kind"] (ol "c" (λn=>ed (thE n)) N):=by
 refine F.ok F2 (λvs H Q E h=>?_) (λz A outer s H vs Q E D h=>?_)
 ·obtain⟨x,l,n,rfl,_⟩:=h;rfl
 ·obtain⟨x,l,n,rfl,I,C,hn,hw,q⟩:=h;refine⟨_,(aw (aY (i:=3) F2.nd rfl (aN rfl) (aJ ct D Qr (aa (pv 0) (aa (pv 1) ac))))
   (aQ (bA (aI fc (bE bB (pv 3) ai (λ_ _=>Qr)) (pv 2) (aS _)) (am (aR (cM (aa ad (aa ai (aa ai ac)))))) aW)
   (am (aR (cM (aa (pv 2) (aa (aF bK ai (bE bB (pv 3) ai (λ_ _=>Qr))) (aa (bE bB (pv 3) ai (λ_ _=>Qr)) ac)))))))),?_⟩
  refine⟨_,rfl,_,rfl,x,l,n,rfl,I,C,hn,hw,λH1 p s1 a=>?_⟩;have a:H1 p=some (.tup (RT x (fullOf (thE n) l))):=a;have B:ed (thE n) l=(fullOf (thE n) l).bind λq=>if q.1=true then none else some (false,1+q.2.1,q.2.2):=rfl;have q:∀H' p,al H H'->H' p=some (.tup (RT x (ed (thE n) l)))->Q (.ref p) H':=q;rw[B]at q;generalize fullOf (thE n) l=o at a q;refine⟨λu H'=>al H1 H'/\(∃d r,o=some (false,d,r))/\u=[some (.str x),some (.int (pos x l)),some (.str "c"),some (.ref p)],?_,?_⟩
  ·cases o with
   |none=>
    have a:H1 p=some (.tup [.str (jQ none),.int 0,.int 0]):=a;refine ck (b:=true) (λQ k=>⟨_,rfl,p,_,_,_,rfl,rfl,SqT.of a,rfl,_,rfl,rfl,_,rfl,?_⟩) (λe m c=>?_) (λe=>Bool.noConfusion e)
    ·rw[Jw];exact k _ (al.refl _)
    ·exact⟨(by show 3<=sizeLine;decide),λt j=>q _ t (s1.trans (c.upd j)) ak⟩
   |some o=>
    obtain⟨g,y,v⟩:=o;have a:H1 p=some (.tup [.str (jQ (some g)),.int y,.int (pos x v)]):=a;refine ck (b:=g) (λQ k=>⟨_,rfl,p,_,_,_,rfl,rfl,SqT.of a,rfl,_,rfl,rfl,_,rfl,?_⟩) (λe m c=>?_) (λe m c=>?_)
    ·rw[Jw,show(!decide (some g=some false))=g from by cases g<;>rfl];exact k _ (al.refl _)
    ·subst e;exact⟨(by show 3<=sizeLine;decide),λt j=>q _ t (s1.trans (c.upd j)) ak⟩
    ·exact⟨c,⟨y,v,by rw[e]⟩,rfl⟩
  ·rintro G m⟨c,⟨d,r,rfl⟩,rfl⟩;have a:H1 p=some (.tup [.str (jQ (some false)),.int d,.int (pos x r)]):=a;refine⟨_,rfl,_,rfl,p,_,_,_,rfl,rfl,SqT.of (c _ _ a),rfl,_,_,rfl,rfl,_,rfl,p,_,_,_,rfl,rfl,SqT.of (c _ _ a),rfl,(by show 3<=sizeLine;decide),λt j=>q _ t (s1.trans (c.upd j)) ?_⟩;show upd m t (.tup [.str "c",.int (1+(d:Int)),.int (pos x r)]) t=some (.tup [.str "c",.int ((1+d:Nat):Int),.int (pos x r)]);rw[show((1+d:Nat):Int)=1+(d:Int)from by omega];exact ak
abbrev LB:List Str:=["_law_text_here","_law_at","_law_mark","_law_left","_law_right"]
theorem BZ:bD LB ["_law_text_here","_law_at","_law_mark"] (aU s_l_two):=⟨rfl,rfl,rfl,Qk,rfl,Qk,Qk⟩
theorem I0{L N:Nat}{f:Addr}{fd:FuncData}(F:fg K "_law_two" "_law_two" s_l_two f fd)(T:dF K mg)(ct:dk P w K mg base L "_law_thing" ["_law_text_here","_law_at"] (jb thE 0 N)):FnOk P w K mg base gW (L+1) f fd ["_law_text_here","_law_at","_law_mark"] (ol ", " (λn=>jG (thE n)) N):=by
 refine F.ok BZ (λvs H Q E h=>?_) (λxi A outer s H vs Q E hr h=>?_)
 ·obtain⟨x,l,n,rfl,_⟩:=h;rfl
 ·obtain⟨x,l,n,rfl,sf,hx,hn,hw,q⟩:=h;have xb:x.length<=100000:=Qo;have xa:(", ":Str).length<=sizeLine:=Qk;refine⟨_,(aw (aY (i:=3) BZ.nd rfl (aN rfl) (aJ ct hr Qr (aa (pv 0) (aa (pv 1) ac))))
   (aQ (bA (PW.pt (eQ (aI b4 (bE bB (pv 3) ai (λ_ _=>Qr)) ad (aS _)) (dU (aI fc (bM cK (pv 0) (bi (bE bB (pv 3) ai (λ_ _=>Qr))) (bi (aF bK (bE bB (pv 3) ai (λ_ _=>Qr)) (bP cP Qr T.len gc (aa (pv 2) ac))))) (pv 2) (aS _))))) (am (aR (cM (aa ad (aa ai (aa ai ac)))))) aW)
   (aw (aY (i:=4) BZ.nd rfl (aN rfl) (aJ ct hr Qr (aa (pv 0) (aa (aF bK (bE bB (pv 3) ai (λ_ _=>Qr)) (bP cP Qr T.len gc (aa (pv 2) ac))) ac))))
   (aQ (bA (PW.pt (eQ (aI fc (bE bB (pv 3) ai (λ_ _=>Qr)) (bE bB (pv 4) ai (λ_ _=>Qr)) (aS _)) (dU (aI fc (bM cK (pv 0) (bi (bE bB (pv 4) ai (λ_ _=>Qr))) (bi (aF bK (bE bB (pv 4) ai (λ_ _=>Qr)) ai))) ad (aS _))))) (am (aR (cM (aa ad (aa ai (aa ai ac)))))) aW)
   (am (aR (cM (aa (bE bB (pv 3) ai (λ_ _=>Qr)) (aa (aF bK ai (bP (n_ rfl) Qr T.max Ap (aa (bE bB (pv 3) ai (λ_ _=>Qr)) (aa (bE bB (pv 4) ai (λ_ _=>Qr)) ac)))) (aa (aF bK (bE bB (pv 4) ai (λ_ _=>Qr)) ai) ac)))))))))),?_⟩
  refine⟨_,rfl,_,rfl,x,l,n,rfl,sf,hx,hn,hw,λH1 p s1 y=>?_⟩;have eF:jG (thE n) l=(thE n l).bind λq=>(bp [44,32] q.2.2).bind λr=>(thE n r).bind λp=>(bp [41] p.2.2).bind λa=>if q.1=p.1 then some (q.1,1+max q.2.1 p.2.1,a)else none:=rfl;have q:∀H' p,al H H'->H' p=some (.tup (RT x (jG (thE n) l)))->Q (.ref p) H':=q;rw[eF]at q;clear eF;refine⟨λU H'=>al H1 H'/\(∃t d r a,thE n l=some (t,d,r)/\bp [44,32] r=some a)/\U=[some (.str x),some (.int (pos x l)),some (.str ", "),some (.ref p),none],?_,?_⟩
  ·cases Y:thE n l with
   |none=>
    rw[Y]at y q;have y:H1 p=some (.tup [.str (jQ none),.int 0,.int 0]):=y;refine ck (b:=true||false) (Ev.or (λQ k=>⟨_,rfl,p,_,_,_,rfl,rfl,SqT.of y,rfl,rfl,_,rfl,?_⟩) (λz=>Bool.noConfusion z)) (λc I G=>?_) (λc=>Bool.noConfusion c)
    ·rw[Fs];exact k _ (al.refl _)
    ·exact⟨(by show 3<=sizeLine;decide),λt D=>q _ t (s1.trans (G.upd D)) ak⟩
   |some o=>
    obtain⟨t,d,r⟩:=o;rw[Y]at y q;have y:H1 p=some (.tup [.str (jQ (some t)),.int d,.int (pos x r)]):=y;obtain⟨W,S⟩:=mL Y;have er:l=W++r:=S;have sr:gw x r:=gw.of (p:=W) (by rw[<-er];exact sf);refine ck (b:=false|| !(bp [44,32] r).isSome) (Ev.or (λQ k=>⟨_,rfl,p,_,_,_,rfl,rfl,SqT.of y,rfl,rfl,_,rfl,?_⟩) (λ_ H2 s2=>λQ k=>⟨_,rfl,_,rfl,p,_,_,_,rfl,rfl,SqT.of (s2 _ _ y),rfl,_,rfl,_,rfl,p,_,_,_,rfl,rfl,SqT.of (s2 _ _ y),rfl,_,rfl,_,rfl,xa,_,_,rfl,rfl,_,rfl,x,rfl,cY xb,_,rfl,rfl,_,rfl,?_⟩)) (λc I G=>?_) (λc I G=>?_)
    ·rw[Fs];exact k _ (al.refl _)
    ·rw[fH (j:=pos x r+((", ":Str).length:Int)) sr (p:=[44,32]) Qk (by rw[show(", ":Str).length=2 from by decide+kernel];rfl)];exact k _ (al.refl _)
    ·have c:bp [44,32] r=none:=by simpa using c
     have e:((some (t,d,r)).bind λq=>(bp [44,32] q.2.2).bind λr=>(thE n r).bind λp=>(bp [41] p.2.2).bind λa=>if q.1=p.1 then some (q.1,1+max q.2.1 p.2.1,a)else none:Option mG)=none:=by
      show(bp [44,32] r).bind _=none;rw[c];rfl
     rw[e]at q;exact⟨(by show 3<=sizeLine;decide),λt D=>q _ t (s1.trans (G.upd D)) ak⟩
    ·obtain⟨a,h2⟩:=bh.mp (by simpa using c:(bp [44,32] r).isSome=true);exact⟨G,⟨t,d,r,a,rfl,h2⟩,rfl⟩
  ·rintro xj H2⟨s2,⟨t,d,r,a,Y,hc⟩,rfl⟩;rw[Y]at y q;have xe:H2 p=some (.tup [.str (jQ (some t)),.int d,.int (pos x r)]):=s2 _ _ y;obtain⟨W,S⟩:=mL Y;have er:l=W++r:=S;have sr:gw x r:=gw.of (p:=W) (by rw[<-er];exact sf);have q:∀H' p,al H H'->H' p=some (.tup (RT x ((bp [44,32] r).bind λr=>(thE n r).bind λp=>(bp [41] p.2.2).bind λa=>if t=p.1 then some (t,1+max d p.2.1,a)else none)))->Q (.ref p) H':=q;rw[hc]at q;have q:∀H' p,al H H'->H' p=some (.tup (RT x ((thE n a).bind λp=>(bp [41] p.2.2).bind λa=>if t=p.1 then some (t,1+max d p.2.1,a)else none)))->Q (.ref p) H':=q;obtain⟨xc,xh⟩:=sr.cut hc;have xd:a.length<n:=by
    have:=bL List.length er;have h2:=bL List.length (dH hc);rw[ae]at this h2;omega
   have xg:wt a<N:=by
    have h1:=jM hc;have h2:=kg W r;rw[<-er]at h2;omega
   refine⟨_,rfl,_,rfl,p,_,_,_,rfl,rfl,SqT.of xe,rfl,_,rfl,_,rfl,xa,_,_,rfl,rfl,x,a,n,by show [V.str x,V.int (pos x r+((", ":Str).length:Int))]=_;rw[show pos x r+((", ":Str).length:Int)=pos x a from by rw[show(", ":Str).length=2 from by decide+kernel];exact xh.symm],xc,hx,xd,xg,λI B G m=>?_⟩;have J:=(s1.trans s2).trans G;have C:=G _ _ xe;have O:∀q',thE n a=some q'->gw x q'.2.2:=λq' h'=>by
    obtain⟨p',e'⟩:=mL h';exact gw.of (p:=p') (by rw[<-e'];exact xc)
   have m:I B=some (.tup (RT x (thE n a))):=m;generalize thE n a=o2 at m q O;refine⟨λU H'=>al I H'/\(∃v g M,o2=some (t,v,g)/\bp [41] g=some M)/\U=[some (.str x),some (.int (pos x l)),some (.str ", "),some (.ref p),some (.ref B)],?_,?_⟩
   ·cases o2 with
    |none=>
     have m:I B=some (.tup [.str (jQ none),.int 0,.int 0]):=m;refine ck (b:=true||false) (Ev.or (λQ k=>⟨_,rfl,p,_,_,_,rfl,rfl,SqT.of C,rfl,_,rfl,B,_,_,_,rfl,rfl,SqT.of m,rfl,rfl,_,rfl,?_⟩) (λz=>Bool.noConfusion z)) (λc Z u=>?_) (λc=>Bool.noConfusion c)
     ·rw[lu];exact k _ (al.refl _)
     ·exact⟨(by show 3<=sizeLine;decide),λt D=>q _ t (J.trans (u.upd D)) ak⟩
    |some o=>
     obtain⟨X,v,g⟩:=o;have m:I B=some (.tup [.str (jQ (some X)),.int v,.int (pos x g)]):=m;have R:gw x g:=O _ rfl;have q:∀H' p,al H H'->H' p=some (.tup (RT x ((bp [41] g).bind λa=>if t=X then some (t,1+max d v,a)else none)))->Q (.ref p) H':=q;refine ck (b:=!decide (some t=some X)|| !(bp [41] g).isSome) (Ev.or (λQ k=>⟨_,rfl,p,_,_,_,rfl,rfl,SqT.of C,rfl,_,rfl,B,_,_,_,rfl,rfl,SqT.of m,rfl,rfl,_,rfl,?_⟩) (λ_ Z u=>λQ k=>⟨_,rfl,_,rfl,B,_,_,_,rfl,rfl,SqT.of (u _ _ m),rfl,_,rfl,_,rfl,B,_,_,_,rfl,rfl,SqT.of (u _ _ m),rfl,_,_,rfl,rfl,_,rfl,x,rfl,cY xb,rfl,_,rfl,?_⟩)) (λc Z u=>?_) (λc Z u=>?_)
     ·rw[lu];exact k _ (al.refl _)
     ·rw[fH (j:=pos x g+1) R (p:=[41]) Qk rfl];exact k _ (al.refl _)
     ·have e:((bp [41] g).bind λa=>if t=X then some (t,1+max d v,a)else none:Option mG)=none:=by
       rcases dR.mp c with c|c
       ·have xf:¬t=X:=λz=>by rw[z]at c;simp at c
        cases bp [41] g with
        |none=>rfl
        |some M=>exact aG xf
       ·have c:bp [41] g=none:=by simpa using c
        rw[c];rfl
      rw[e]at q;exact⟨(by show 3<=sizeLine;decide),λt D=>q _ t (J.trans (u.upd D)) ak⟩
     ·obtain⟨ha,c⟩:=dh.mp c;have ha:t=X:=by simpa using ha
      obtain⟨M,h4⟩:=bh.mp (by simpa using c:(bp [41] g).isSome=true);exact⟨u,⟨v,g,M,by rw[ha],h4⟩,rfl⟩
   ·rintro xk Z⟨u,⟨v,g,M,rfl,h4⟩,rfl⟩;have m:I B=some (.tup [.str (jQ (some t)),.int v,.int (pos x g)]):=m;have R:gw x g:=O _ rfl;have e:((bp [41] g).bind λa=>if t=t then some (t,1+max d v,a)else none:Option mG)=some (t,1+max d v,M):=by
     rw[h4];exact aO rfl
    have q:∀H' p,al H H'->H' p=some (.tup (RT x ((bp [41] g).bind λa=>if t=t then some (t,1+max d v,a)else none)))->Q (.ref p) H':=q;rw[e]at q;refine⟨_,rfl,p,_,_,_,rfl,rfl,SqT.of (u _ _ C),rfl,_,rfl,p,_,_,_,rfl,rfl,SqT.of (u _ _ C),rfl,_,rfl,B,_,_,_,rfl,rfl,SqT.of (u _ _ m),rfl,_,_,rfl,_,_,rfl,rfl,_,rfl,B,_,_,_,rfl,rfl,SqT.of (u _ _ m),rfl,_,_,rfl,rfl,(by show 3<=sizeLine;decide),λt D=>q _ t (J.trans (u.upd D)) ?_⟩;show upd Z _ (.tup [.str _,.int (1+(if(v:Int)>(d:Int)then(v:Int)else(d:Int))),.int (pos x g+1)]) _=_;rw[KK,show pos x g+1=pos x M from(R.cut h4).2.symm];exact ak
abbrev LN:List Str:=["_law_text_here","_law_at","_law_left","_law_right","_law_size"]
theorem uO:bD LN ["_law_text_here","_law_at"] (aU s_l_bracket):=⟨rfl,rfl,rfl,Qk,rfl,Qk,Qk⟩
def andE(r:List Nat):Option (List Nat):=match bp [32,97,110,100,32] r with
 |some r=>some r
 |none=>bp [32,111,114,32] r
theorem HX(r:List Nat):decide (mkS (r.take (4+(if(bp [32,97,110,100,32] r).isSome=true then 1 else 0)))∈([" and "," or "]:List Str))=(andE r).isSome:=by
 have a:(" and ":Str).cps.toList=[32,97,110,100,32]:=Qk;have c:(" or ":Str).cps.toList=[32,111,114,32]:=Qk;unfold andE;cases h:bp [32,97,110,100,32] r with
 |some d=>
  have e:=dH h;rw[e];refine aH ?_;have:mkS (([32,97,110,100,32]++d).take 5)=" and ":=du (by rw[a];rfl);exact aq.mpr (.inl this)
 |none=>
  rw[be,aD];show mkS (r.take 4)∈_↔(bp [32,111,114,32] r).isSome=true;rw[<-Al (p:=[32,111,114,32]) c,jK,aD];constructor
  ·intro z;rcases aq.mp z with z|z
   ·have:=bL (λu:Str=>u.cps.toList.length) z;have b:(r.take 4).length=(" and ":Str).cps.toList.length:=this;rw[a,bT]at b;have:min 4 r.length=5:=b;omega
   ·exact(cy.mp z)
  ·intro z;exact aB _ (cy.mpr z)
theorem FN{x:Str}{r c:List Nat}(s:gw x r)(h:andE r=some c):gw x c/\pos x c=pos x r+(4+(if(bp [32,97,110,100,32] r).isSome=true then 1 else 0))/\c.length<=r.length/\wt c<=wt r:=by
 unfold andE at h;cases h1:bp [32,97,110,100,32] r with
 |some d=>
  rw[h1]at h;cases h;obtain⟨a,b⟩:=s.cut h1;have e:=bL List.length (dH h1);rw[ae]at e;have:=jM h1;exact⟨a,b,Qo,Qo⟩
 |none=>
  rw[h1]at h;have h:bp [32,111,114,32] r=some c:=h;obtain⟨a,b⟩:=s.cut h;have e:=bL List.length (dH h);rw[ae]at e;have:=jM h;exact⟨a,b,Qo,Qo⟩
theorem Jl{L N:Nat}{f:Addr}{fd:FuncData}(F:fg K "_law_bracket" "_law_bracket" s_l_bracket f fd)(T:dF K mg)(ct:dk P w K mg base L "_law_thing" ["_law_text_here","_law_at"] (jb thE 0 N))(cf:dk P w K mg base (L+1) "_law_full" ["_law_text_here","_law_at"] (jb (λn=>fullOf (thE n)) 0 N)):FnOk P w K mg base gW (L+2) f fd ["_law_text_here","_law_at"] (jb (λn=>oJ (thE n)) 0 N):=by
 refine F.ok uO (λvs H Q E h=>?_) (λxj A outer s H vs Q E hr h=>?_)
 ·obtain⟨x,l,n,rfl,_⟩:=h;rfl
 ·obtain⟨x,l,n,rfl,sf,hx,hn,hw,q⟩:=h;have M:x.length<=100000:=Qo;have xe:cF L _:=hr.mono (kU _);refine⟨_,(aw (aY (i:=2) uO.nd rfl (aN rfl) (aJ cf hr Qr (aa (pv 0) (aa (pv 1) ac))))
   (aQ (bA (aI b4 (bE bB (pv 2) ai (λ_ _=>Qr)) ad (aS _)) (aQ (bA (aI fc (bM cK (pv 0) (bi (bE bB (pv 2) ai (λ_ _=>Qr))) (bi (aF bK (bE bB (pv 2) ai (λ_ _=>Qr)) ai))) ad (aS _)) (am (aR (cM (aa ad (aa ai (aa ai ac)))))) aW)
   (am (aY (i:=3) uO.nd rfl (aN rfl) (aJ ct xe Qr (aa (pv 0) (aa (aF bK (bE bB (pv 2) ai (λ_ _=>Qr)) ai) ac)))))) (aQ (aY (i:=4) uO.nd rfl (aN rfl) (aF bK ai (d9 oa Qr T.int Aq (aa (kr b4 (bM cK (pv 0) (bi (bE bB (pv 2) ai (λ_ _=>Qr))) (bi (aF bK (bE bB (pv 2) ai (λ_ _=>Qr)) ai))) ad (aS _)) ac))))
   (aQ (bA (PW.pt (eQ (aI b4 (bE bB (pv 2) ai (λ_ _=>Qr)) ad (aS _)) (dU (aI mX (bM cK (pv 0) (bi (bE bB (pv 2) ai (λ_ _=>Qr))) (bi (aF bK (bE bB (pv 2) ai (λ_ _=>Qr)) (pv 4)))) (cA (aa ad (aa ad ac))) Qw)))) (am (aR (cM (aa ad (aa ai (aa ai ac)))))) aW)
   (am (aY (i:=3) uO.nd rfl (aN rfl) (aJ cf hr Qr (aa (pv 0) (aa (aF bK (bE bB (pv 2) ai (λ_ _=>Qr)) (pv 4)) ac))))))))
   (aQ (bA (PW.pt (eQ (aI fc (bE bB (pv 2) ai (λ_ _=>Qr)) (bE bB (pv 3) ai (λ_ _=>Qr)) (aS _)) (dU (aI fc (bM cK (pv 0) (bi (bE bB (pv 3) ai (λ_ _=>Qr))) (bi (aF bK (bE bB (pv 3) ai (λ_ _=>Qr)) ai))) ad (aS _))))) (am (aR (cM (aa ad (aa ai (aa ai ac)))))) aW)
   (am (aR (cM (aa (bE bB (pv 2) ai (λ_ _=>Qr)) (aa (aF bK ai (bP (n_ rfl) Qr T.max Ap (aa (bE bB (pv 2) ai (λ_ _=>Qr)) (aa (bE bB (pv 3) ai (λ_ _=>Qr)) ac)))) (aa (aF bK (bE bB (pv 3) ai (λ_ _=>Qr)) ai) ac))))))))),?_⟩
  refine⟨_,rfl,_,rfl,x,l,n,rfl,sf,hx,hn,hw,λH1 p s1 v=>?_⟩;have eF:oJ (thE n) l=(fullOf (thE n) l).bind λq=>if q.1=true then
    (bp [32,43,32] q.2.2).bind λr=>(thE n r).bind λp=>(bp [41] p.2.2).bind λg=>if q.1=p.1 then some (q.1,1+max q.2.1 p.2.1,g)else none
   else(andE q.2.2).bind λr=>(fullOf (thE n) r).bind λp=>(bp [41] p.2.2).bind λg=>if q.1=p.1 then some (q.1,1+max q.2.1 p.2.1,g)else none:=rfl
  have q:∀H' p,al H H'->H' p=some (.tup (RT x (oJ (thE n) l)))->Q (.ref p) H':=q;have v:H1 p=some (.tup (RT x (fullOf (thE n) l))):=v;rw[eF]at q;clear eF;cases hl:fullOf (thE n) l with
  |none=>
   rw[hl]at v q;have v:H1 p=some (.tup [.str (jQ none),.int 0,.int 0]):=v;refine⟨λ_ _=>False,?_,λ_ _ z=>z.elim⟩;refine ck (b:=false) (λQ k=>⟨_,rfl,p,_,_,_,rfl,rfl,SqT.of v,rfl,rfl,_,rfl,?_⟩) (λa=>Bool.noConfusion a) (λ_ H2 S=>?_)
   ·rw[oH];exact k _ (al.refl _)
   have C:=S _ _ v;refine⟨λm H'=>al H1 H'/\∃o4,m=[some (.str x),some (.int (pos x l)),some (.ref p),none,o4],?_,?_⟩
   ·exact⟨_,rfl,_,rfl,p,_,_,_,rfl,rfl,SqT.of C,rfl,_,rfl,_,rfl,p,_,_,_,rfl,rfl,SqT.of C,rfl,_,_,rfl,rfl,_,rfl,x,rfl,cY M,rfl,.inr ⟨_,rfl,_,_,rfl,rfl,S,_,rfl⟩⟩
   ·rintro Z U⟨D,o4,rfl⟩;refine⟨λ_ _=>False,?_,λ_ _ z=>z.elim⟩;refine ck (b:=true||false) (Ev.or (λQ k=>⟨_,rfl,p,_,_,_,rfl,rfl,SqT.of (D _ _ v),rfl,rfl,_,rfl,?_⟩) (λz=>Bool.noConfusion z)) (λa J c=>?_) (λa=>Bool.noConfusion a)
    ·rw[Fs];exact k _ (al.refl _)
    ·exact⟨(by show 3<=sizeLine;decide),λt R=>q _ t ((s1.trans D).trans (c.upd R)) ak⟩
  |some o=>
   obtain⟨t,d,r⟩:=o;rw[hl]at v q;have v:H1 p=some (.tup [.str (jQ (some t)),.int d,.int (pos x r)]):=v;obtain⟨pr,xh⟩:=nY hl;have er:l=pr++r:=xh;have sr:gw x r:=gw.of (p:=pr) (by rw[<-er];exact sf);have lr:r.length<=l.length:=by
    rw[er,ae];omega
   have wr:wt r<=wt l:=by
    have:=kg pr r;rw[<-er]at this;omega
   refine⟨λm H'=>al H1 H'/\∃(y:Addr)(o2:Option mG)(o4:Option V),H' y=some (.tup (RT x o2))/\(∀q',o2=some q'->gw x q'.2.2)/\(∀H' p,al H H'->H' p=some (.tup (RT x (o2.bind λp=>(bp [41] p.2.2).bind λg=>if t=p.1 then some (t,1+max d p.2.1,g)else none)))->Q (.ref p) H')/\m=[some (.str x),some (.int (pos x l)),some (.ref p),some (.ref y),o4],?_,?_⟩
   ·cases t with
    |true=>
     have q:∀H' p,al H H'->H' p=some (.tup (RT x ((bp [32,43,32] r).bind λr=>(thE n r).bind λp=>(bp [41] p.2.2).bind λg=>if true=p.1 then some (true,1+max d p.2.1,g)else none)))->Q (.ref p) H':=q;refine ck (b:=true) (λQ k=>⟨_,rfl,p,_,_,_,rfl,rfl,SqT.of v,rfl,rfl,_,rfl,?_⟩) (λ_ H2 S=>?_) (λa=>Bool.noConfusion a)
     ·rw[oH];exact k _ (al.refl _)
     have C:=S _ _ v;refine⟨λm H'=>al H1 H'/\(∃g,bp [32,43,32] r=some g)/\m=[some (.str x),some (.int (pos x l)),some (.ref p),none,none],?_,?_⟩
     ·refine ck (b:=!(bp [32,43,32] r).isSome) (λQ k=>⟨_,rfl,_,rfl,p,_,_,_,rfl,rfl,SqT.of C,rfl,_,rfl,_,rfl,p,_,_,_,rfl,rfl,SqT.of C,rfl,_,_,rfl,rfl,_,rfl,x,rfl,cY M,rfl,_,rfl,?_⟩) (λa U D=>?_) (λa U D=>?_)
      ·rw[fH (j:=pos x r+3) sr (p:=[32,43,32]) Qk rfl];exact k _ (al.refl _)
      ·have a:bp [32,43,32] r=none:=by simpa using a
       rw[a]at q;exact⟨(by show 3<=sizeLine;decide),λt R=>q _ t ((s1.trans S).trans (D.upd R)) ak⟩
      ·exact⟨S.trans D,bh.mp (by simpa using a),rfl⟩
     ·rintro Z U⟨D,⟨g,X⟩,rfl⟩;rw[X]at q;obtain⟨O,xa⟩:=sr.cut X;have xl:=jM X;have xg:=bL List.length (dH X);rw[ae]at xg;refine⟨_,rfl,_,rfl,p,_,_,_,rfl,rfl,SqT.of (D _ _ v),rfl,_,_,rfl,rfl,x,g,n,by show [V.str x,V.int (pos x r+3)]=_;rw[show pos x r+3=pos x g from xa.symm],O,hx,Qo,Qo,λJ y c h4=>?_⟩;refine⟨D.trans c,y,thE n g,_,h4,λq' h'=>?_,q,rfl⟩;obtain⟨p',e'⟩:=mL h';exact gw.of (p:=p') (by rw[<-e'];exact O)
    |false=>
     have q:∀H' p,al H H'->H' p=some (.tup (RT x ((andE r).bind λr=>(fullOf (thE n) r).bind λp=>(bp [41] p.2.2).bind λg=>if false=p.1 then some (false,1+max d p.2.1,g)else none)))->Q (.ref p) H':=q;refine ck (b:=false) (λQ k=>⟨_,rfl,p,_,_,_,rfl,rfl,SqT.of v,rfl,rfl,_,rfl,?_⟩) (λa=>Bool.noConfusion a) (λ_ H2 S=>?_)
     ·rw[oH];exact k _ (al.refl _)
     have C:=S _ _ v;refine⟨λm H'=>al H1 H'/\m=[some (.str x),some (.int (pos x l)),some (.ref p),none,some (.int (4+(if(bp [32,97,110,100,32] r).isSome=true then 1 else 0)))],?_,?_⟩
     ·refine⟨_,rfl,_,rfl,p,_,_,_,rfl,rfl,SqT.of C,rfl,_,rfl,_,rfl,p,_,_,_,rfl,rfl,SqT.of C,rfl,_,_,rfl,rfl,_,rfl,x,rfl,cY M,rfl,.inr ⟨_,rfl,_,_,rfl,rfl,S,?_⟩⟩;rw[fH (j:=pos x r+5) sr (p:=[32,97,110,100,32]) Qk rfl];rfl
     ·rintro Z U⟨D,rfl⟩;have B:=D _ _ v;have ek:((4+(if(bp [32,97,110,100,32] r).isSome=true then 1 else 0):Nat):Int)=4+(if(bp [32,97,110,100,32] r).isSome=true then 1 else 0):=by split<;>rfl
      refine⟨λm H'=>al H1 H'/\(∃g,andE r=some g)/\m=[some (.str x),some (.int (pos x l)),some (.ref p),none,some (.int (4+(if(bp [32,97,110,100,32] r).isSome=true then 1 else 0)))],?_,?_⟩
      ·refine ck (b:=false|| !(andE r).isSome) (Ev.or (λQ k=>⟨_,rfl,p,_,_,_,rfl,rfl,SqT.of B,rfl,rfl,_,rfl,?_⟩) (λ_ J c=>λQ k=>⟨_,rfl,_,rfl,p,_,_,_,rfl,rfl,SqT.of (c _ _ B),rfl,_,rfl,_,rfl,p,_,_,_,rfl,rfl,SqT.of (c _ _ B),rfl,_,rfl,_,_,rfl,rfl,_,rfl,x,rfl,cY M,by show 2<=sizeLine;decide,λq0 xf=>⟨q0,([" and "," or "]:List Str).map V.str,rfl,.inl (SqL.of ak),rfl,em _,_,rfl,?_⟩⟩)) (λa J c=>?_) (λa J c=>?_)
       ·rw[Fs];exact k _ (al.refl _)
       ·rw[DZ sr (4+(if(bp [32,97,110,100,32] r).isSome=true then 1 else 0)) (by rw[ek])];show Q (!tR _ _) _;rw[im,HX];exact k _ (al.new xf)
       ·have a:andE r=none:=by simpa using a
        rw[a]at q;exact⟨(by show 3<=sizeLine;decide),λt R=>q _ t ((s1.trans D).trans (c.upd R)) ak⟩
       ·exact⟨D.trans c,bh.mp (by simpa using a),rfl⟩
      ·rintro xi J⟨c,⟨g,X⟩,rfl⟩;rw[X]at q;obtain⟨O,xa,xm,xk⟩:=FN sr X;refine⟨_,rfl,_,rfl,p,_,_,_,rfl,rfl,SqT.of (c _ _ v),rfl,_,rfl,_,_,rfl,rfl,x,g,n,by show [V.str x,V.int (pos x r+(4+(if(bp [32,97,110,100,32] r).isSome=true then 1 else 0)))]=_;rw[<-xa],O,hx,Qo,Qo,λH5 y s5 h5=>?_⟩;refine⟨c.trans s5,y,fullOf (thE n) g,_,h5,λq' h'=>?_,q,rfl⟩;obtain⟨p',e'⟩:=nY h';exact gw.of (p:=p') (by rw[<-e'];exact O)
   ·rintro Z U⟨D,y,o2,o4,I,xc,q,rfl⟩;have W:=s1.trans D;have B:=D _ _ v;refine⟨λm H'=>al U H'/\(∃G u Y,o2=some (t,G,u)/\bp [41] u=some Y)/\m=[some (.str x),some (.int (pos x l)),some (.ref p),some (.ref y),o4],?_,?_⟩
    ·cases o2 with
     |none=>
      have I:U y=some (.tup [.str (jQ none),.int 0,.int 0]):=I;refine ck (b:=true||false) (Ev.or (λQ k=>⟨_,rfl,p,_,_,_,rfl,rfl,SqT.of B,rfl,_,rfl,y,_,_,_,rfl,rfl,SqT.of I,rfl,rfl,_,rfl,?_⟩) (λz=>Bool.noConfusion z)) (λa J c=>?_) (λa=>Bool.noConfusion a)
      ·rw[lu];exact k _ (al.refl _)
      ·exact⟨(by show 3<=sizeLine;decide),λt R=>q _ t (W.trans (c.upd R)) ak⟩
     |some o=>
      obtain⟨t2,G,u⟩:=o;have I:U y=some (.tup [.str (jQ (some t2)),.int G,.int (pos x u)]):=I;have xb:gw x u:=xc _ rfl;have q:∀H' p,al H H'->H' p=some (.tup (RT x ((bp [41] u).bind λg=>if t=t2 then some (t,1+max d G,g)else none)))->Q (.ref p) H':=q;refine ck (b:=!decide (some t=some t2)|| !(bp [41] u).isSome) (Ev.or (λQ k=>⟨_,rfl,p,_,_,_,rfl,rfl,SqT.of B,rfl,_,rfl,y,_,_,_,rfl,rfl,SqT.of I,rfl,rfl,_,rfl,?_⟩) (λ_ J c=>λQ k=>⟨_,rfl,_,rfl,y,_,_,_,rfl,rfl,SqT.of (c _ _ I),rfl,_,rfl,_,rfl,y,_,_,_,rfl,rfl,SqT.of (c _ _ I),rfl,_,_,rfl,rfl,_,rfl,x,rfl,cY M,rfl,_,rfl,?_⟩)) (λa J c=>?_) (λa J c=>?_)
      ·rw[lu];exact k _ (al.refl _)
      ·rw[fH (j:=pos x u+1) xb (p:=[41]) Qk rfl];exact k _ (al.refl _)
      ·have e:((bp [41] u).bind λg=>if t=t2 then some (t,1+max d G,g)else none:Option mG)=none:=by
        rcases dR.mp a with a|a
        ·have xd:¬t=t2:=λz=>by rw[z]at a;simp at a
         cases bp [41] u with
         |none=>rfl
         |some Y=>exact aG xd
        ·have a:bp [41] u=none:=by simpa using a
         rw[a];rfl
       rw[e]at q;exact⟨(by show 3<=sizeLine;decide),λt R=>q _ t (W.trans (c.upd R)) ak⟩
      ·obtain⟨ha,a⟩:=dh.mp a;have ha:t=t2:=by simpa using ha
       obtain⟨Y,h4⟩:=bh.mp (by simpa using a:(bp [41] u).isSome=true);exact⟨c,⟨G,u,Y,by rw[ha],h4⟩,rfl⟩
    ·rintro xi J⟨c,⟨G,u,Y,rfl,h4⟩,rfl⟩;have I:U y=some (.tup [.str (jQ (some t)),.int G,.int (pos x u)]):=I;have xb:gw x u:=xc _ rfl;have e:((bp [41] u).bind λg=>if t=t then some (t,1+max d G,g)else none:Option mG)=some (t,1+max d G,Y):=by
      rw[h4];exact aO rfl
     have q:∀H' p,al H H'->H' p=some (.tup (RT x ((bp [41] u).bind λg=>if t=t then some (t,1+max d G,g)else none)))->Q (.ref p) H':=q;rw[e]at q;refine⟨_,rfl,p,_,_,_,rfl,rfl,SqT.of (c _ _ B),rfl,_,rfl,p,_,_,_,rfl,rfl,SqT.of (c _ _ B),rfl,_,rfl,y,_,_,_,rfl,rfl,SqT.of (c _ _ I),rfl,_,_,rfl,_,_,rfl,rfl,_,rfl,y,_,_,_,rfl,rfl,SqT.of (c _ _ I),rfl,_,_,rfl,rfl,(by show 3<=sizeLine;decide),λt R=>q _ t (W.trans (c.upd R)) ?_⟩;show upd J _ (.tup [.str _,.int (1+(if(G:Int)>(d:Int)then(G:Int)else(d:Int))),.int (pos x u+1)]) _=_;rw[KK,show pos x u+1=pos x Y from(xb.cut h4).2.symm];exact ak
end
theorem Ad{w p q:List Nat}{a b:Str}(c:a.cps.toList=p)(d:b.cps.toList=q):tR (.str (mkS w)) (([a,b]:List Str).map V.str)=decide (w=p\/w=q):=by
 rw[im,be,aD,aD,aq,cy];have k:∀(a:Str)(p:List Nat),a.cps.toList=p->(mkS w=a↔w=p):=λa p h=>⟨λz=>by rw[<-h,<-z];rfl,λz=>du (by rw[h,<-z];rfl)⟩;rw[k a p c,k b q d]
theorem JB{w p q u:List Nat}{a b c:Str}(d:a.cps.toList=p)(f:b.cps.toList=q)(e:c.cps.toList=u):tR (.str (mkS w)) (([a,b,c]:List Str).map V.str)=decide (w=p\/w=q\/w=u):=by
 rw[im,be,aD,aD,aq,aq,cy];have k:∀(a:Str)(p:List Nat),a.cps.toList=p->(mkS w=a↔w=p):=λa p h=>⟨λz=>by rw[<-h,<-z];rfl,λz=>du (by rw[h,<-z];rfl)⟩;rw[k a p d,k b q f,k c u e]
section
variable{P:Program}{w:World}{K:ah}{mg:Str->Option Value}{base:Heap}
abbrev LF:List Str:=["_law_text_here","_law_at","_law_end","_law_one"]
theorem B9:bD LF ["_law_text_here","_law_at"] (aU s_l_number_thing):=⟨rfl,rfl,rfl,Qk,rfl,Qk,Qk⟩
theorem Jc{L M:Nat}(hL:2<=L){f:Addr}{fd:FuncData}(F:fg K "_law_number_thing" "_law_number_thing" s_l_number_thing f fd)(cb:dk P w K mg base 2 "_law_number_end" ["_law_text_here","_law_at"] (oO jc))(ct:dk P w K mg base L "_law_thing" ["_law_text_here","_law_at"] (jb thE 0 (M-2))):FnOk P w K mg base gW (L+1) f fd ["_law_text_here","_law_at"] (jb (λn=>j9 (thE n)) 1 M):=by
 refine F.ok B9 (λvs H Q E h=>?_) (λxa A outer s H vs Q E hr h=>?_)
 ·obtain⟨x,l,n,rfl,_⟩:=h;rfl
 ·obtain⟨x,l,n,rfl,W,hx,hn,hw,q⟩:=h;have C:x.length<=100000:=Qo;have r2:cF 2 _:=hr.mono hL;refine⟨_,(aw (aY (i:=2) B9.nd rfl (aN rfl) (aJ cb r2 Qr (aa (pv 0) (aa (pv 1) ac))))
   (aQ (bA (aI jn (pv 2) ai (aS _)) (am (aR (cM (aa ad (aa ai (aa ai ac)))))) aW)
   (aQ (bA (PW.pt (gH (aI b4 (bM cK (pv 0) (bi (pv 2)) (bi (aF bK (pv 2) ai))) ad (aS _)) (gb (aI fc (bE qa (pv 0) (pv 1) (λ_ _=>Qr)) ad (aS _))))) (aw (aY (i:=3) B9.nd rfl (aN rfl) (aJ ct hr Qr (aa (pv 0) (aa (aF bK (pv 2) ai) ac))))
   (aQ (bA (aI fc (bE bB (pv 3) ai (λ_ _=>Qr)) ad (aS _)) (am (aR (cM (aa ad (aa ai (aa ai ac)))))) aW)
   (am (aR (cM (aa ad (aa (aF bK ai (bE bB (pv 3) ai (λ_ _=>Qr))) (aa (bE bB (pv 3) ai (λ_ _=>Qr)) ac)))))))) aW)
   (am (aR (cM (aa ad (aa ai (aa (pv 2) ac))))))))),?_⟩
  have eF:j9 (thE n) l=(jc l).bind λr=>match bp [32,42,32] r with
   |some u=>if l.head?=some 45 then some (true,1,r)else(thE n u).bind λp=>if p.1=true then some (true,1+p.2.1,p.2.2)else none
   |none=>some (true,1,r):=rfl
  have q:∀H' p,al H H'->H' p=some (.tup (RT x (j9 (thE n) l)))->Q (.ref p) H':=q;rw[eF]at q;clear eF;refine⟨_,rfl,_,rfl,x,l,rfl,W,C,λH1 s1=>?_⟩;cases hl:jc l with
  |none=>
   rw[hl]at q;refine⟨λ_ _=>False,?_,λ_ _ z=>z.elim⟩;refine⟨_,rfl,_,_,rfl,rfl,_,rfl,?_⟩;exact eT ⟨(by show 3<=sizeLine;decide),λt y=>q _ t (s1.upd y) ak⟩
  |some r=>
   rw[hl]at q;obtain⟨z,_,I,et⟩:=zQ hl;obtain⟨c,O,e0⟩:∃c O,(numT z).cps.toList=c::O:=by
    rw[et];cases e:l.takeWhile fW with
    |cons c r=>exact⟨c,r,rfl⟩
    |nil=>
     unfold jc at hl;rw[e,aG Qd]at hl;cases hl
   rw[e0]at I;obtain⟨sr,pr,lr⟩:=W.shr I (by rw[aK];omega);have wr:wt r<=wt l:=by
    have:=kg (c::O) r;rw[<-I]at this;omega
   have sc:gw x (c::(O++r)):=by rw[<-cR,<-I];exact W
   have ep:pos x l=pos x (c::(O++r)):=by rw[<-cR,<-I]
   have eh:l.head?=some c:=by rw[I];rfl
   have q:∀H' p,al H H'->H' p=some (.tup (RT x (match bp [32,42,32] r with
    |some u=>if l.head?=some 45 then some (true,1,r)else(thE n u).bind λp=>if p.1=true then some (true,1+p.2.1,p.2.2)else none
    |none=>some (true,1,r))))->Q (.ref p) H':=q
   rw[eh]at q;refine⟨λm H'=>al H H'/\m=[some (.str x),some (.int (pos x l)),some (.int (pos x r)),none],?_,?_⟩
   ·refine⟨_,rfl,_,_,rfl,rfl,_,rfl,?_⟩;rw[show decide (nO x (some r)<1)=false from aP (by show¬pos x r<1;omega)];exact eZ ⟨s1,rfl⟩
   ·rintro xb H2⟨s2,rfl⟩;refine⟨λm H'=>al H H'/\(∀H' p,al H H'->H' p=some (.tup (RT x (some (true,1,r))))->Q (.ref p) H')/\m=[some (.str x),some (.int (pos x l)),some (.int (pos x r)),none],?_,?_⟩
    ·refine ck (b:=(bp [32,42,32] r).isSome && !decide (c=45)) (Ev.and (λQ k=>⟨_,rfl,_,rfl,_,rfl,_,rfl,_,_,rfl,rfl,_,rfl,x,rfl,cY C,rfl,_,rfl,?_⟩) (λ_ Y G=>λQ k=>⟨_,rfl,_,rfl,x,_,c,rfl,rfl,cY C,by rw[ep];exact F7 sc,rfl,_,rfl,?_⟩)) (λa Y G=>?_) (λa Y G=>⟨s2.trans G,?_,rfl⟩)
     ·rw[fH (j:=pos x r+3) sr (p:=[32,42,32]) Qk rfl];exact k _ (al.refl _)
     ·rw[zP (by decide+kernel:("-":Str).cps.toList=[45])];exact k _ (al.refl _)
     ·obtain⟨ha,a⟩:=fN.mp a;obtain⟨u,S⟩:=bh.mp ha;have a:¬c=45:=by simpa using a
      rw[S]at q;have q:∀H' p,al H H'->H' p=some (.tup (RT x (if some c=some 45 then some (true,1,r)else(thE n u).bind λp=>if p.1=true then some (true,1+p.2.1,p.2.2)else none)))->Q (.ref p) H':=q;rw[aG (λz=>a (by injection z))]at q;obtain⟨Z,U⟩:=sr.cut S;have N:=jM S;have N:2+wt u<=wt r:=N;have X:=bL List.length (dH S);rw[ae]at X;refine⟨_,rfl,_,rfl,_,_,rfl,rfl,x,u,n,by show [V.str x,V.int (pos x r+3)]=_;rw[show pos x r+3=pos x u from U.symm],Z,hx,Qo,Qo,λR p s4 g=>?_⟩;have B:=(s2.trans G).trans s4;generalize thE n u=o at g q;refine⟨λm H'=>al R H'/\(∃d r,o=some (true,d,r))/\m=[some (.str x),some (.int (pos x l)),some (.int (pos x r)),some (.ref p)],?_,?_⟩
      ·cases o with
       |none=>
        have g:R p=some (.tup [.str (jQ none),.int 0,.int 0]):=g;refine ck (b:=true) (λQ k=>⟨_,rfl,p,_,_,_,rfl,rfl,SqT.of g,rfl,rfl,_,rfl,?_⟩) (λa T v=>?_) (λa=>Bool.noConfusion a)
        ·rw[oH];exact k _ (al.refl _)
        ·exact⟨(by show 3<=sizeLine;decide),λt y=>q _ t (B.trans (v.upd y)) ak⟩
       |some o=>
        obtain⟨D,d2,J⟩:=o;have g:R p=some (.tup [.str (jQ (some D)),.int d2,.int (pos x J)]):=g;refine ck (b:=!D) (λQ k=>⟨_,rfl,p,_,_,_,rfl,rfl,SqT.of g,rfl,rfl,_,rfl,?_⟩) (λa T v=>?_) (λa T v=>?_)
        ·rw[oH,show decide (some D=some true)=D from by cases D<;>rfl];exact k _ (al.refl _)
        ·have a:D=false:=by simpa using a
         subst a;exact⟨(by show 3<=sizeLine;decide),λt y=>q _ t (B.trans (v.upd y)) ak⟩
        ·have a:D=true:=by simpa using a
         exact⟨v,⟨d2,J,by rw[a]⟩,rfl⟩
      ·rintro xd T⟨v,⟨d,J,rfl⟩,rfl⟩;have g:R p=some (.tup [.str (jQ (some true)),.int d,.int (pos x J)]):=g;refine⟨_,rfl,p,_,_,_,rfl,rfl,SqT.of (v _ _ g),rfl,_,_,rfl,rfl,_,rfl,p,_,_,_,rfl,rfl,SqT.of (v _ _ g),rfl,(by show 3<=sizeLine;decide),λt y=>q _ t (B.trans (v.upd y)) ?_⟩;show upd T t (.tup [.str "t",.int (1+(d:Int)),.int (pos x J)]) t=some (.tup [.str "t",.int ((1+d:Nat):Int),.int (pos x J)]);rw[show((1+d:Nat):Int)=1+(d:Int)from by omega];exact ak
     ·intro H' p s' g;refine q H' p s' ?_;rw[g];congr 3;rcases gR.mp a with a|a
      ·have a:bp [32,42,32] r=none:=by simpa using a
       rw[a]
      ·have a:c=45:=by simpa using a
       cases bp [32,42,32] r with
       |none=>rfl
       |some u=>exact(aO (by rw[a])).symm
    ·rintro xc Y⟨G,q,rfl⟩;exact⟨_,rfl,(by show 3<=sizeLine;decide),λt y=>q _ t (G.upd y) ak⟩
abbrev LE:List Str:=["_law_text_here","_law_at","_law_end"]
theorem B8:bD LE ["_law_text_here","_law_at"] (aU s_l_ranged):=⟨rfl,rfl,rfl,Qk,rfl,Qk,Qk⟩
theorem Jb{L M:Nat}(hL:3<=L){f:Addr}{fd:FuncData}(F:fg K "_law_ranged" "_law_ranged" s_l_ranged f fd)(cr:dk P w K mg base 1 "_law_run" ["_law_text_here","_law_at","_law_signs"] pp)(cs:dk P w K mg base 3 "_law_set_end" ["_law_text_here","_law_at"] (px fF))(ci:dk P w K mg base L "_law_inner" ["_law_text_here","_law_at","_law_kind"] (ol "c" (λn=>ed (thE n)) (M-4))):FnOk P w K mg base gW (L+1) f fd ["_law_text_here","_law_at"] (jb (λn=>gT (thE n)) 0 M):=by
 refine F.ok B8 (λvs H Q E h=>?_) (λxc A outer s H vs Q E R h=>?_)
 ·obtain⟨x,l,n,rfl,_⟩:=h;rfl
 ·obtain⟨x,l,n,rfl,N,hx,hn,hw,q⟩:=h;have m:x.length<=100000:=Qo;have g:cF 1 _:=R.mono Qo;have y:cF 3 _:=R.mono hL;refine⟨_,(aw (aY (i:=2) B8.nd rfl (aN rfl) (aJ cr g Qr (aa (pv 0) (aa (aF bK (pv 1) ai) (aa ad ac)))))
   (aQ (bA (PW.pt (eQ (aI fc (bM cK (pv 0) (bi (pv 1)) (bi (aF bK (pv 1) ai))) ad (aS _)) (eQ (aI jn (aF gX (pv 2) (pv 1)) ai (aS _)) (eQ (aI mY (aF gX (pv 2) (pv 1)) ai (aS _)) (dU (aI fc (bM cK (pv 0) (bi (pv 2)) (bi (aF bK (pv 2) ai))) ad (aS _))))))) (am (aR (cM (aa ad (aa ai (aa ai ac)))))) aW)
   (aw (aY (i:=2) B8.nd rfl (aN rfl) (aJ cs y Qr (aa (pv 0) (aa (aF bK (pv 2) ai) ac))))
   (aQ (bA (PW.pt (eQ (aI jn (pv 2) ai (aS _)) (dU (aI fc (bM cK (pv 0) (bi (pv 2)) (bi (aF bK (pv 2) ai))) ad (aS _))))) (am (aR (cM (aa ad (aa ai (aa ai ac)))))) aW)
   (am (aR (aJ ci R Qr (aa (pv 0) (aa (aF bK (pv 2) ai) (aa ad ac)))))))))),?_⟩
  have X:gT (thE n) l=(bp [32] l).bind λr=>if 1<=(r.takeWhile bS).length/\(r.takeWhile bS).length<=3 then
   (bp [32,105,110] (r.dropWhile bS)).bind λg=>(fF g).bind λa=>(bp [58,32] a).bind (ed (thE n))else none:=rfl
  have q:∀H' p,al H H'->H' p=some (.tup (RT x (gT (thE n) l)))->Q (.ref p) H':=q;rw[X]at q;clear X;cases l with
  |nil=>
   refine⟨_,rfl,_,rfl,_,_,rfl,rfl,x,D0,_,bS,rfl,nX,m,.inr ⟨by unfold pos;rw[bZ];omega,?_⟩⟩;refine⟨λ_ _=>False,?_,λ_ _ z=>z.elim⟩;refine ck (b:=true||false) (Ev.or (λQ k=>⟨_,rfl,_,rfl,_,rfl,_,rfl,_,_,rfl,rfl,_,rfl,x,rfl,cY m,rfl,_,rfl,?_⟩) (λz=>Bool.noConfusion z)) (λd J o=>?_) (λd=>Bool.noConfusion d)
   ·rw[fH (j:=pos x []+1) N (p:=[32]) Qk rfl];exact k _ (al.refl _)
   ·exact⟨(by show 3<=sizeLine;decide),λt C=>q _ t (o.upd C) ak⟩
  |cons c r=>
   have sr:=N.cons;have pr:=pP x c r;obtain⟨sd,pd⟩:=sr.drop bS;refine⟨_,rfl,_,rfl,_,_,rfl,rfl,x,D0,_,bS,rfl,nX,m,.inl ⟨r,pr.symm,sr,?_⟩⟩;have Z:∀v,bp [32] (c::r)=some v->v=r:=λv h=>by
    have:=dH h;injection this with _ this
    exact this.symm
   have xa:(r.dropWhile bS).length<=r.length:=by
    have:=bL List.length (bI (p:=bS) (l:=r));rw[ae]at this;omega
   have xd:wt (r.dropWhile bS)<=wt (c::r):=by
    have h1:=kg (c::r.takeWhile bS) (r.dropWhile bS);rw[cR,bI]at h1;omega
   refine⟨λB H'=>al H H'/\(∃g,bp [32,105,110] (r.dropWhile bS)=some g/\(∀H' p,al H H'->H' p=some (.tup (RT x ((fF g).bind λa=>(bp [58,32] a).bind (ed (thE n)))))->Q (.ref p) H'))/\B=[some (.str x),some (.int (pos x (c::r))),some (.int (pos x (r.dropWhile bS)))],?_,?_⟩
   ·refine ck (b:=!(bp [32] (c::r)).isSome ||(decide ((r.takeWhile bS).length <1)||(decide (3<(r.takeWhile bS).length)|| !(bp [32,105,110] (r.dropWhile bS)).isSome))) (Ev.or (λQ k=>⟨_,rfl,_,rfl,_,rfl,_,rfl,_,_,rfl,rfl,_,rfl,x,rfl,cY m,rfl,_,rfl,?_⟩) (λ_ J o=>Ev.or (λQ k=>⟨_,rfl,_,rfl,_,_,rfl,rfl,_,_,rfl,rfl,_,rfl,?_⟩) (λ_ H4 s4=>Ev.or (λQ k=>⟨_,rfl,_,rfl,_,_,rfl,rfl,_,_,rfl,rfl,_,rfl,?_⟩) (λ_ W s5=>λQ k=>⟨_,rfl,_,rfl,_,rfl,_,rfl,_,_,rfl,rfl,_,rfl,x,rfl,cY m,rfl,_,rfl,?_⟩)))) (λd J o=>?_) (λd J o=>?_)
    ·rw[fH (j:=pos x (c::r)+1) N (p:=[32]) Qk rfl];exact k _ (al.refl _)
    ·have e:decide (pos x (r.dropWhile bS)-pos x (c::r)<2)=decide ((r.takeWhile bS).length <1):=by
      rw[be,aD,aD];omega
     rw[e];exact k _ (al.refl _)
    ·have e:decide (4<pos x (r.dropWhile bS)-pos x (c::r))=decide (3<(r.takeWhile bS).length):=by
      rw[be,aD,aD];omega
     rw[e];exact k _ (al.refl _)
    ·rw[fH (j:=pos x (r.dropWhile bS)+3) sd (p:=[32,105,110]) Qk rfl];exact k _ (al.refl _)
    ·refine⟨(by show 3<=sizeLine;decide),λt C=>q _ t (o.upd C) ?_⟩;have e:((bp [32] (c::r)).bind λr=>if 1<=(r.takeWhile bS).length/\(r.takeWhile bS).length<=3 then
      (bp [32,105,110] (r.dropWhile bS)).bind λg=>(fF g).bind λa=>(bp [58,32] a).bind (ed (thE n))else none)=none:=by
      cases h0:bp [32] (c::r)with
      |none=>rfl
      |some v=>
       rw[Z v h0];rw[h0]at d;show(if 1<=(r.takeWhile bS).length/\(r.takeWhile bS).length<=3 then _ else none)=none;by_cases hk:1<=(r.takeWhile bS).length/\(r.takeWhile bS).length<=3
       ·rw[aO hk];have h1:bp [32,105,110] (r.dropWhile bS)=none:=by
         rw[aP (by omega:¬(r.takeWhile bS).length <1),aP (by omega:¬3<(r.takeWhile bS).length)]at d;simpa using d
        rw[h1];rfl
       ·rw[aG hk]
     rw[e];exact ak
    ·obtain⟨h0,d⟩:=dh.mp d;obtain⟨h1,d⟩:=dh.mp d;obtain⟨h2,d⟩:=dh.mp d;obtain⟨v,h0⟩:=bh.mp (by simpa using h0:(bp [32] (c::r)).isSome=true);obtain⟨g,D⟩:=bh.mp (by simpa using d:(bp [32,105,110] (r.dropWhile bS)).isSome=true);have h1:=cq h1;have h2:=cq h2;rw[h0,Z v h0]at q;have q:∀H' p,al H H'->H' p=some (.tup (RT x (if 1<=(r.takeWhile bS).length/\(r.takeWhile bS).length<=3 then
      (bp [32,105,110] (r.dropWhile bS)).bind λg=>(fF g).bind λa=>(bp [58,32] a).bind (ed (thE n))else none)))->Q (.ref p) H':=q
     rw[aO ⟨Qo,Qo⟩,D]at q;exact⟨o,⟨g,D,q⟩,rfl⟩
   ·rintro xe H2⟨S,⟨g,D,q⟩,rfl⟩;obtain⟨G,U⟩:=sd.cut D;have xg:=jM D;have O:=bL List.length (dH D);rw[ae]at O;refine⟨_,rfl,_,rfl,_,_,rfl,rfl,x,g,by show [V.str x,V.int (pos x (r.dropWhile bS)+3)]=_;rw[show pos x (r.dropWhile bS)+3=pos x g from U.symm],G,hx,λJ o=>?_⟩;cases hs:fF g with
    |none=>
     rw[hs]at q;refine⟨λ_ _=>False,?_,λ_ _ z=>z.elim⟩;refine⟨_,rfl,_,_,rfl,rfl,_,rfl,?_⟩;exact eT (eT ⟨(by show 3<=sizeLine;decide),λt C=>q _ t ((S.trans o).upd C) ak⟩)
    |some a=>
     rw[hs]at q;obtain⟨ks,_,es⟩:=qX hs;have es:g=(32::ia ks)++a:=es;obtain⟨t1,t2,t3⟩:=G.shr es (by rw[aK];omega);have xf:wt a<=wt g:=by
      have:=kg (32::ia ks) a;rw[<-es]at this;omega
     refine⟨λB H'=>al H H'/\(∃y,bp [58,32] a=some y)/\B=[some (.str x),some (.int (pos x (c::r))),some (.int (pos x a))],?_,?_⟩
     ·refine ck (b:=false|| !(bp [58,32] a).isSome) (Ev.or (λQ k=>⟨_,rfl,_,_,rfl,rfl,_,rfl,?_⟩) (λ_ Y I=>λQ k=>⟨_,rfl,_,rfl,_,rfl,_,rfl,_,_,rfl,rfl,_,rfl,x,rfl,cY m,rfl,_,rfl,?_⟩)) (λd Y I=>?_) (λd Y I=>?_)
      ·rw[show decide (nO x (some a)<1)=false from aP (by show¬pos x a<1;omega)];exact k _ (al.refl _)
      ·show Q (!decide (V.str (Txt.slice x (some (pos x a)) (some (pos x a+2)))=_)) _;rw[fH (j:=pos x a+2) t1 (p:=[58,32]) Qk rfl];exact k _ (al.refl _)
      ·have d:bp [58,32] a=none:=by simpa using d
       have e:((some a).bind λa=>(bp [58,32] a).bind (ed (thE n)))=none:=by
        show(bp [58,32] a).bind _=none;rw[d];rfl
       rw[e]at q;exact⟨(by show 3<=sizeLine;decide),λt C=>q _ t ((S.trans o).trans (I.upd C)) ak⟩
      ·exact⟨(S.trans o).trans I,bh.mp (by simpa using d),rfl⟩
     ·rintro xh H4⟨s4,⟨y,u⟩,rfl⟩;obtain⟨u1,u2⟩:=t1.cut u;have xb:4+wt y<=wt a:=jM u;have T:=bL List.length (dH u);rw[ae]at T;rw[aK]at hn;have q:∀H' p,al H H'->H' p=some (.tup (RT x ((bp [58,32] a).bind (ed (thE n)))))->Q (.ref p) H':=q;rw[u]at q;refine⟨_,rfl,_,rfl,_,_,rfl,rfl,x,y,n,by show [V.str x,V.int (pos x a+2),V.str "c"]=_;rw[show pos x a+2=pos x y from u2.symm],u1,hx,Qo,Qo,λW p s5 hp=>q W p (s4.trans s5) hp⟩
end
def D6(f:PF)(w r:List Nat):Option mG:=if w=[110,111,116]then(bp [32] r).bind (ed f)else none
def Ip(f:PF)(w r:List Nat):Option mG:=if w=[108,101,97,115,116]\/w=[109,111,115,116]then(bp [40] r).bind λa=>(jG f a).bind λq=>if q.1=true then some q else none else D6 f w r
def J_(f:PF)(w r:List Nat):Option mG:=if w=[101,97,99,104]\/w=[115,111,109,101]then gT f r else Ip f w r
def J4(f:PF)(w r:List Nat):Option mG:=if w=[112,97,105,114,115]then(fF r).bind λa=>fV true (fF a)else J_ f w r
def J0(f:PF)(w r:List Nat):Option mG:=if w=[115,105,122,101]then fV true (fF r)else J4 f w r
def Ka(f:PF)(w r:List Nat):Option mG:=if w=[99,111,115,116]then fV false (mh r)else J0 f w r
def J6(f:PF)(w r:List Nat):Option mG:=if w=[102,108,111,119]\/w=[97,112,97,114,116]\/w=[98,97,114,101]then fV true (gq 2 r)else Ka f w r
def JZ(f:PF)(w r:List Nat):Option mG:=if w=[119,97,121]then fV false (gq 2 r)else if w=[109,117,115,116]then fV false (gq 3 r)else J6 f w r
def Kk(f:PF)(w r:List Nat):Option mG:=if w=[114,105,110,103]\/w=[114,111,117,110,100]then some (false,1,r)else JZ f w r
theorem Eb(f:PF)(l:List Nat)(h1:bp [40] l=none)(h2:∀c,l.head?=some c->fW c=false):c_ f l=Kk f (l.takeWhile cO) (l.dropWhile cO):=by
 unfold c_;rw[h1];cases l with
 |nil=>rfl
 |cons c l=>
  have:=h2 c rfl;show(if fW c=true then _ else _)=_;rw[this];rfl
theorem sX{x:Str}{l:List Nat}(s:gw x l){n:Nat}{r:List Nat}(h:gq (n+1) l=some r):1<=pos x r:=by
 obtain⟨ns,h1,_,c⟩:=rh h;refine(s.shr c ?_).2.1;cases ns with
 |nil=>cases h1
 |cons a b=>exact f6 (bV _)
theorem Fi{x:Str}{l:List Nat}(s:gw x l){r:List Nat}(h:jc l=some r):1<=pos x r:=by
 obtain⟨z,b,a,d⟩:=zQ h;refine(s.shr a ?_).2.1;cases e:(numT z).cps.toList with
 |cons c r=>exact f6 (bV _)
 |nil=>
  have:=b.1;rw[e]at this;exact absurd this Qd
theorem DE{x:Str}{l:List Nat}(s:gw x l){r:List Nat}(h:mh l=some r):1<=pos x r:=by
 obtain⟨a,h1,h2⟩:=aj.mp (show(gq 2 l).bind _=some r from h);obtain⟨d,c,b⟩:=aj.mp h2;obtain⟨ns,_,_,e⟩:=rh h1;have s1:gw x a:=gw.of (p:=uE ns) (by rw[<-e];exact s);exact Fi (s1.cut c).1 b
theorem su{x:Str}{l:List Nat}(s:gw x l){r:List Nat}(h:fF l=some r):gw x r/\1<=pos x r:=by
 obtain⟨ks,_,e⟩:=qX h;obtain⟨a,b,_⟩:=s.shr (p:=32::ia ks) e (by rw[aK];omega);exact⟨a,b⟩
section
variable{P:Program}{w:World}{K:ah}{mg:Str->Option Value}{base:Heap}
abbrev LC:List Str:=["_law_text_here","_law_at","_law_end","_law_word","_law_two_here"]
theorem uI:bD LC ["_law_text_here","_law_at"] (aU s_l_thing):=⟨rfl,rfl,rfl,Qk,rfl,Qk,Qk⟩
theorem I_{N:Nat}{f:Addr}{fd:FuncData}(F:fg K "_law_thing" "_law_thing" s_l_thing f fd)(T:dF K mg)(cr:dk P w K mg base 1 "_law_run" ["_law_text_here","_law_at","_law_signs"] pp)(cn:dk P w K mg base 2 "_law_names" ["_law_text_here","_law_at","_law_many"] mP)(cs:dk P w K mg base 3 "_law_set_end" ["_law_text_here","_law_at"] (px fF))(cc:dk P w K mg base 3 "_law_cost_end" ["_law_text_here","_law_at"] (px mh))(cl:dk P w K mg base 1 "_law_flat" ["_law_kind","_law_end"] xD)
  (cb:dk P w K mg base (N+4) "_law_bracket" ["_law_text_here","_law_at"] (jb (λn=>oJ (thE n)) 0 (N-2)))(cm:dk P w K mg base (N+4) "_law_number_thing" ["_law_text_here","_law_at"] (jb (λn=>j9 (thE n)) 1 (N+1)))(cg:dk P w K mg base (N+4) "_law_ranged" ["_law_text_here","_law_at"] (jb (λn=>gT (thE n)) 0 (N+1)))(ct:dk P w K mg base (N+4) "_law_two" ["_law_text_here","_law_at","_law_mark"] (ol ", " (λn=>jG (thE n)) (N-2)))(ci:dk P w K mg base (N+4) "_law_inner" ["_law_text_here","_law_at","_law_kind"] (ol "c" (λn=>ed (thE n)) (N-2))):FnOk P w K mg base gW (N+5) f fd ["_law_text_here","_law_at"] (jb thE 0 (N+1)):=by
 refine F.ok uI (λvs H Q E h=>?_) (λxm A outer s H vs Q E Y h=>?_)
 ·obtain⟨x,l,n,rfl,_⟩:=h;rfl
 ·obtain⟨x,l,n,rfl,S,X,hn,hw,q⟩:=h;have y:x.length<=100000:=Qo;have L:cF 1 _:=Y.mono Qo;have r2:cF 2 _:=Y.mono Qo;have r3:cF 3 _:=Y.mono Qo;refine⟨_,(aQ (bA (aI b4 (bM cK (pv 0) (bi (pv 1)) (bi (aF bK (pv 1) ai))) ad (aS _)) (am (aR (aJ cb Y Qr (aa (pv 0) (aa (aF bK (pv 1) ai) ac))))) aW)
   (aQ (bA (PW.pt (gH (aI fc (bM cK (pv 0) (bi (pv 1)) (bi (aF bK (pv 1) ai))) ad (aS _)) (gb (aI j3 (bM cK (pv 0) (bi (pv 1)) (bi (aF bK (pv 1) ai))) ad Qw)))) (am (aR (aJ cm Y Qr (aa (pv 0) (aa (pv 1) ac))))) aW)
   (aQ (aY (i:=2) uI.nd rfl (aN rfl) (aJ cr L Qr (aa (pv 0) (aa (pv 1) (aa ad ac)))))
   (aQ (aY (i:=3) uI.nd rfl (aN rfl) (bM cK (pv 0) (bi (pv 1)) (bi (pv 2))))
   (aQ (bA (aI iD (pv 3) (cA (aa ad (aa ad ac))) Qw) (am (aR (cM (aa ad (aa ai (aa (pv 2) ac)))))) aW)
   (aQ (bA (aI iD (pv 3) (cA (aa ad (aa ad ac))) Qw) (am (aR (aJ cl L Qr (aa ad (aa (aJ cn r2 Qr (aa (pv 0) (aa (pv 2) (aa (aF bK ai (d9 oa Qr T.int Aq (aa (kr b4 (pv 3) ad (aS _)) ac))) ac)))) ac))))) aW)
   (aQ (bA (aI iD (pv 3) (cA (aa ad (aa ad (aa ad ac)))) Qw) (am (aR (aJ cl L Qr (aa ad (aa (aJ cn r2 Qr (aa (pv 0) (aa (pv 2) (aa ai ac)))) ac))))) aW)
   (aQ (bA (aI b4 (pv 3) ad (aS _)) (am (aR (aJ cl L Qr (aa ad (aa (aJ cc r3 Qr (aa (pv 0) (aa (pv 2) ac))) ac))))) aW)
   (aQ (bA (aI b4 (pv 3) ad (aS _)) (am (aR (aJ cl L Qr (aa ad (aa (aJ cs r3 Qr (aa (pv 0) (aa (pv 2) ac))) ac))))) aW)
   (aQ (bA (aI b4 (pv 3) ad (aS _)) (aw (aY (i:=2) uI.nd rfl (aN rfl) (aJ cs r3 Qr (aa (pv 0) (aa (pv 2) ac))))
   (aQ (bA (aI jn (pv 2) ai (aS _)) (am (aR (cM (aa ad (aa ai (aa ai ac)))))) aW)
   (am (aR (aJ cl L Qr (aa ad (aa (aJ cs r3 Qr (aa (pv 0) (aa (pv 2) ac))) ac))))))) aW)
   (aQ (bA (aI iD (pv 3) (cA (aa ad (aa ad ac))) Qw) (am (aR (aJ cg Y Qr (aa (pv 0) (aa (pv 2) ac))))) aW)
   (aQ (bA (PW.pt (gH (aI iD (pv 3) (cA (aa ad (aa ad ac))) Qw) (gb (aI b4 (bM cK (pv 0) (bi (pv 2)) (bi (aF bK (pv 2) ai))) ad (aS _))))) (aw (aY (i:=4) uI.nd rfl (aN rfl) (aJ ct Y Qr (aa (pv 0) (aa (aF bK (pv 2) ai) (aa ad ac)))))
   (am (bA (aI b4 (bE bB (pv 4) ai (λ_ _=>Qr)) ad (aS _)) (am (aR (pv 4))) aW))) aW)
   (aQ (bA (PW.pt (gH (aI b4 (pv 3) ad (aS _)) (gb (aI b4 (bM cK (pv 0) (bi (pv 2)) (bi (aF bK (pv 2) ai))) ad (aS _))))) (am (aR (aJ ci Y Qr (aa (pv 0) (aa (aF bK (pv 2) ai) (aa ad ac)))))) aW)
   (am (aR (cM (aa ad (aa ai (aa ai ac))))))))))))))))))),?_⟩
  obtain⟨k0,rfl⟩:∃k,n=k+1:=⟨n-1,Qo⟩;have q:∀H' p,al H H'->H' p=some (.tup (RT x (c_ (thE k0) l)))->Q (.ref p) H':=q;generalize hf:thE k0=g at q;refine⟨λd H'=>al H H'/\bp [40] l=none/\d=[some (.str x),some (.int (pos x l)),none,none,none],?_,?_⟩
  ·refine ck (b:=(bp [40] l).isSome) (λQ k=>⟨_,rfl,_,rfl,_,rfl,_,rfl,_,_,rfl,rfl,_,rfl,x,rfl,cY y,rfl,_,rfl,?_⟩) (λa H1 s1=>?_) (λa H1 s1=>⟨s1,by simpa using a,rfl⟩)
   ·rw[fH (j:=pos x l+1) S (p:=[40]) Qk rfl];exact k _ (al.refl _)
   ·obtain⟨r,hc⟩:=bh.mp a;obtain⟨sr,pr⟩:=S.cut hc;have xu:3+wt r<=wt l:=jM hc;have xb:=bL List.length (dH hc);rw[ae]at xb;have xb:l.length=1+r.length:=xb;have e:c_ g l=oJ g r:=by
     unfold c_;rw[hc]
    rw[e,<-hf]at q;exact⟨_,rfl,_,rfl,_,_,rfl,rfl,x,r,k0,by show [V.str x,V.int (pos x l+1)]=_;rw[show pos x l+1=pos x r from pr.symm],sr,X,Qo,Qo,λH2 p O v=>q H2 p (s1.trans O) v⟩
  rintro xn H1⟨s1,hc,rfl⟩;refine⟨λd H'=>al H H'/\(∀c,l.head?=some c->fW c=false)/\d=[some (.str x),some (.int (pos x l)),none,none,none],?_,?_⟩
  ·cases l with
   |nil=>
    refine ck (b:=false&&false) (Ev.and (λQ k=>⟨_,rfl,_,rfl,_,rfl,_,rfl,_,_,rfl,rfl,_,rfl,x,rfl,cY y,rfl,_,rfl,?_⟩) (λz=>Bool.noConfusion z)) (λa=>Bool.noConfusion a) (λa H2 O=>⟨s1.trans O,(λ_ z=>nomatch z),rfl⟩);rw[DZ (j:=pos x []+1) S 1 rfl,List.take_nil,eY (l:=[]) (by decide+kernel:("":Str).cps.toList=[])];exact k _ (al.refl _)
   |cons c l'=>
    refine ck (b:=true&&fW c) (Ev.and (λQ k=>⟨_,rfl,_,rfl,_,rfl,_,rfl,_,_,rfl,rfl,_,rfl,x,rfl,cY y,rfl,_,rfl,?_⟩) (λ_ H2 O=>λQ k=>⟨_,rfl,_,rfl,_,rfl,_,rfl,_,_,rfl,rfl,_,rfl,x,rfl,cY y,_,_,rfl,rfl,_,rfl,?_⟩)) (λa H2 O=>?_) (λa H2 O=>⟨s1.trans O,?_,rfl⟩)
    ·rw[DZ (j:=pos x (c::l')+1) S 1 rfl,eY (by decide+kernel:("":Str).cps.toList=[])];exact k _ (al.refl _)
    ·rw[DZ (j:=pos x (c::l')+1) S 1 rfl,show mkS ((c::l').take 1)=⟨#[c]⟩from du rfl,StrLaws.found_one,vM];exact k _ (al.refl _)
    ·have a:fW c=true:=a;have e:c_ g (c::l')=j9 g (c::l'):=by
      unfold c_;rw[hc];show(if fW c=true then _ else _)=_;rw[aO a]
     rw[e,<-hf]at q;exact⟨_,rfl,_,rfl,x,c::l',k0,rfl,S,X,Qo,Qo,λB p I v=>q B p ((s1.trans O).trans I) v⟩
    ·intro c' h';cases h';exact a
  rintro xr H2⟨O,xf,rfl⟩;rw[Eb g l hc xf]at q;obtain⟨D,pd⟩:=S.drop cO;have J:=bI (p:=cO) (l:=l);refine⟨λd H'=>H'=H2/\d=[some (.str x),some (.int (pos x l)),some (.int (pos x (l.dropWhile cO))),none,none],?_,?_⟩
  ·exact⟨_,rfl,_,rfl,x,BW,_,cO,rfl,nh,y,.inl ⟨l,rfl,S,rfl,rfl⟩⟩
  rintro xj B⟨rfl,rfl⟩;refine⟨λd H'=>H'=B/\d=[some (.str x),some (.int (pos x l)),some (.int (pos x (l.dropWhile cO))),some (.str (mkS (l.takeWhile cO))),none],?_,?_⟩
  ·refine⟨_,rfl,_,rfl,_,rfl,_,rfl,_,rfl,x,rfl,cY y,rfl,?_⟩;rw[DZ S (l.takeWhile cO).length pd,mM];rfl
  rintro xw H4⟨rfl,rfl⟩;generalize l.takeWhile cO=w at q J;generalize l.dropWhile cO=r at q J D;have xs:w1 w+wt r<=wt l:=by rw[<-J];exact kg w r
  have xq:l.length=w.length+r.length:=by rw[<-J,ae]
  have s:=O;obtain⟨R,xg⟩:∃R:Option V,R=none:=⟨none,rfl⟩;rw[<-xg];clear xg;refine⟨λd H'=>al H H'/\(∀H' p,al H H'->H' p=some (.tup (RT x (JZ g w r)))->Q (.ref p) H')/\d=[some (.str x),some (.int (pos x l)),some (.int (pos x r)),some (.str (mkS w)),R],?_,?_⟩
  ·refine ck (b:=decide (w=[114,105,110,103]\/w=[114,111,117,110,100])) (λQ k=>⟨_,rfl,by show 2<=sizeLine;decide,λU C=>⟨U,(["ring","round"]:List Str).map V.str,rfl,.inl (SqL.of ak),rfl,em _,_,rfl,?_⟩⟩) (λa H1 s'=>?_) (λa H1 s'=>?_)
   ·show Q (tR _ _) _;rw[Ad (p:=[114,105,110,103]) (q:=[114,111,117,110,100]) Qk Qk];exact k _ (al.new C)
   ·unfold Kk at q;rw[aO (bb a)]at q;exact⟨_,rfl,(by show 3<=sizeLine;decide),λt ht=>q _ t (s.trans (s'.upd ht)) ak⟩
   ·unfold Kk at q;rw[aG (cq a)]at q;exact⟨s.trans s',q,rfl⟩
  clear q s;rintro _ Hs⟨s,q,rfl⟩;refine⟨λd H'=>al H H'/\(∀H' p,al H H'->H' p=some (.tup (RT x (J6 g w r)))->Q (.ref p) H')/\d=[some (.str x),some (.int (pos x l)),some (.int (pos x r)),some (.str (mkS w)),R],?_,?_⟩
  ·refine ck (b:=decide (w=[119,97,121]\/w=[109,117,115,116])) (λQ k=>⟨_,rfl,by show 2<=sizeLine;decide,λU C=>⟨U,(["way","must"]:List Str).map V.str,rfl,.inl (SqL.of ak),rfl,em _,_,rfl,?_⟩⟩) (λa H1 s'=>?_) (λa H1 s'=>?_)
   ·show Q (tR _ _) _;rw[Ad (p:=[119,97,121]) (q:=[109,117,115,116]) Qk Qk];exact k _ (al.new C)
   ·have a:=bb a;unfold JZ at q;rcases a with rfl|rfl
    ·rw[aO rfl]at q;refine⟨_,rfl,_,rfl,_,rfl,rfl,.inr ⟨_,rfl,_,_,rfl,rfl,?_⟩⟩;rw[eY (by decide+kernel:("must":Str).cps.toList=[109,117,115,116])];exact⟨x,r,2,rfl,D,y,Qd,λH2 m=>⟨x,false,gq 2 r,rfl,λr' h'=>sX D h',λB p I v=>q B p (((s.trans s').trans m).trans I) v⟩⟩
    ·rw[aG Qd,aO rfl]at q;refine⟨_,rfl,_,rfl,_,rfl,rfl,.inr ⟨_,rfl,_,_,rfl,rfl,?_⟩⟩;rw[eY (by decide+kernel:("must":Str).cps.toList=[109,117,115,116])];exact⟨x,r,3,rfl,D,y,Qd,λH2 m=>⟨x,false,gq 3 r,rfl,λr' h'=>sX D h',λB p I v=>q B p (((s.trans s').trans m).trans I) v⟩⟩
   ·have a:=cq a;unfold JZ at q;rw[aG (λz=>a (.inl z)),aG (λz=>a (.inr z))]at q;exact⟨s.trans s',q,rfl⟩
  clear q s;rintro _ Hs⟨s,q,rfl⟩;refine⟨λd H'=>al H H'/\(∀H' p,al H H'->H' p=some (.tup (RT x (Ka g w r)))->Q (.ref p) H')/\d=[some (.str x),some (.int (pos x l)),some (.int (pos x r)),some (.str (mkS w)),R],?_,?_⟩
  ·refine ck (b:=decide (w=[102,108,111,119]\/w=[97,112,97,114,116]\/w=[98,97,114,101])) (λQ k=>⟨_,rfl,by show 3<=sizeLine;decide,λU C=>⟨U,(["flow","apart","bare"]:List Str).map V.str,rfl,.inl (SqL.of ak),rfl,em _,_,rfl,?_⟩⟩) (λa H1 s'=>?_) (λa H1 s'=>?_)
   ·show Q (tR _ _) _;rw[JB (p:=[102,108,111,119]) (q:=[97,112,97,114,116]) (u:=[98,97,114,101]) Qk Qk Qk];exact k _ (al.new C)
   ·unfold J6 at q;rw[aO (bb a)]at q;exact⟨_,rfl,_,rfl,x,r,2,rfl,D,y,Qd,λH2 m=>⟨x,true,gq 2 r,rfl,λr' h'=>sX D h',λB p I v=>q B p (((s.trans s').trans m).trans I) v⟩⟩
   ·unfold J6 at q;rw[aG (cq a)]at q;exact⟨s.trans s',q,rfl⟩
  clear q s;rintro _ Hs⟨s,q,rfl⟩;refine⟨λd H'=>al H H'/\(∀H' p,al H H'->H' p=some (.tup (RT x (J0 g w r)))->Q (.ref p) H')/\d=[some (.str x),some (.int (pos x l)),some (.int (pos x r)),some (.str (mkS w)),R],?_,?_⟩
  ·refine ck (b:=decide (w=[99,111,115,116])) (λQ k=>⟨_,rfl,rfl,_,rfl,?_⟩) (λa H1 s'=>?_) (λa H1 s'=>?_)
   ·rw[eY (by decide+kernel:("cost":Str).cps.toList=[99,111,115,116])];exact k _ (al.refl _)
   ·unfold Ka at q;rw[aO (bb a)]at q;exact⟨_,rfl,_,rfl,x,r,rfl,D,X,λH2 m=>⟨x,false,mh r,rfl,λr' h'=>DE D h',λB p I v=>q B p (((s.trans s').trans m).trans I) v⟩⟩
   ·unfold Ka at q;rw[aG (cq a)]at q;exact⟨s.trans s',q,rfl⟩
  clear q s;rintro _ Hs⟨s,q,rfl⟩;refine⟨λd H'=>al H H'/\(∀H' p,al H H'->H' p=some (.tup (RT x (J4 g w r)))->Q (.ref p) H')/\d=[some (.str x),some (.int (pos x l)),some (.int (pos x r)),some (.str (mkS w)),R],?_,?_⟩
  ·refine ck (b:=decide (w=[115,105,122,101])) (λQ k=>⟨_,rfl,rfl,_,rfl,?_⟩) (λa H1 s'=>?_) (λa H1 s'=>?_)
   ·rw[eY (by decide+kernel:("size":Str).cps.toList=[115,105,122,101])];exact k _ (al.refl _)
   ·unfold J0 at q;rw[aO (bb a)]at q;exact⟨_,rfl,_,rfl,x,r,rfl,D,X,λH2 m=>⟨x,true,fF r,rfl,λr' h'=>(su D h').2,λB p I v=>q B p (((s.trans s').trans m).trans I) v⟩⟩
   ·unfold J0 at q;rw[aG (cq a)]at q;exact⟨s.trans s',q,rfl⟩
  clear q s;rintro _ Hs⟨s,q,rfl⟩;refine⟨λd H'=>al H H'/\(∀H' p,al H H'->H' p=some (.tup (RT x (J_ g w r)))->Q (.ref p) H')/\d=[some (.str x),some (.int (pos x l)),some (.int (pos x r)),some (.str (mkS w)),R],?_,?_⟩
  ·refine ck (b:=decide (w=[112,97,105,114,115])) (λQ k=>⟨_,rfl,rfl,_,rfl,?_⟩) (λa H1 s'=>?_) (λa H1 s'=>?_)
   ·rw[eY (by decide+kernel:("pairs":Str).cps.toList=[112,97,105,114,115])];exact k _ (al.refl _)
   ·unfold J4 at q;rw[aO (bb a)]at q;refine⟨_,rfl,_,rfl,x,r,rfl,D,X,λH2 m=>?_⟩;cases hs:fF r with
    |none=>
     rw[hs]at q;refine⟨λ_ _=>False,⟨_,rfl,_,_,rfl,rfl,_,rfl,eT ⟨(by show 3<=sizeLine;decide),λt ht=>q _ t ((s.trans s').trans (m.upd ht)) ak⟩⟩,λ_ _ z=>z.elim⟩
    |some L=>
     rw[hs]at q;obtain⟨t1,t2⟩:=su D hs;refine⟨λd H'=>H'=H2/\d=[some (.str x),some (.int (pos x l)),some (.int (pos x L)),some (.str (mkS w)),R],?_,?_⟩
     ·refine⟨_,rfl,_,_,rfl,rfl,_,rfl,?_⟩;rw[show decide (nO x (some L)<1)=false from aP (by show¬pos x L<1;omega)];exact eZ ⟨rfl,rfl⟩
     ·rintro xj B⟨rfl,rfl⟩;exact⟨_,rfl,_,rfl,x,L,rfl,t1,X,λH4 xl=>⟨x,true,fF L,rfl,λr' h'=>(su t1 h').2,λH5 p s5 v=>q H5 p ((((s.trans s').trans m).trans xl).trans s5) v⟩⟩
   ·unfold J4 at q;rw[aG (cq a)]at q;exact⟨s.trans s',q,rfl⟩
  clear q s;rintro _ Hs⟨s,q,rfl⟩;refine⟨λd H'=>al H H'/\(∀H' p,al H H'->H' p=some (.tup (RT x (Ip g w r)))->Q (.ref p) H')/\d=[some (.str x),some (.int (pos x l)),some (.int (pos x r)),some (.str (mkS w)),R],?_,?_⟩
  ·refine ck (b:=decide (w=[101,97,99,104]\/w=[115,111,109,101])) (λQ k=>⟨_,rfl,by show 2<=sizeLine;decide,λU C=>⟨U,(["each","some"]:List Str).map V.str,rfl,.inl (SqL.of ak),rfl,em _,_,rfl,?_⟩⟩) (λa H1 s'=>?_) (λa H1 s'=>?_)
   ·show Q (tR _ _) _;rw[Ad (p:=[101,97,99,104]) (q:=[115,111,109,101]) Qk Qk];exact k _ (al.new C)
   ·have a:=bb a;unfold J_ at q;rw[aO a,<-hf]at q;have h4:w.length=4:=by rcases a with rfl|rfl<;>rfl
    exact⟨_,rfl,_,rfl,x,r,k0,rfl,D,X,Qo,Qo,λB p I v=>q B p ((s.trans s').trans I) v⟩
   ·unfold J_ at q;rw[aG (cq a)]at q;exact⟨s.trans s',q,rfl⟩
  clear q s;rintro _ Hs⟨s,q,rfl⟩;refine⟨λd H'=>al H H'/\(∀H' p,al H H'->H' p=some (.tup (RT x (D6 g w r)))->Q (.ref p) H')/\∃o5,d=[some (.str x),some (.int (pos x l)),some (.int (pos x r)),some (.str (mkS w)),o5],?_,?_⟩
  ·refine ck (b:=decide (w=[108,101,97,115,116]\/w=[109,111,115,116])&&(bp [40] r).isSome) (Ev.and (λQ k=>⟨_,rfl,by show 2<=sizeLine;decide,λU C=>⟨U,(["least","most"]:List Str).map V.str,rfl,.inl (SqL.of ak),rfl,em _,_,rfl,?_⟩⟩) (λ_ H2 m=>λQ k=>⟨_,rfl,_,rfl,_,rfl,_,rfl,_,_,rfl,rfl,_,rfl,x,rfl,cY y,rfl,_,rfl,?_⟩)) (λa H1 s'=>?_) (λa H1 s'=>?_)
   ·show Q (tR _ _) _;rw[Ad (p:=[108,101,97,115,116]) (q:=[109,111,115,116]) Qk Qk];exact k _ (al.new C)
   ·rw[fH (j:=pos x r+1) D (p:=[40]) Qk rfl];exact k _ (al.refl _)
   ·obtain⟨G,a⟩:=fN.mp a;have G:=bb G;obtain⟨r5,W⟩:=bh.mp a;unfold Ip at q;rw[aO G,W]at q;have q:∀H' p,al H H'->H' p=some (.tup (RT x ((jG g r5).bind λq=>if q.1=true then some q else none)))->Q (.ref p) H':=q;obtain⟨s5,p5⟩:=D.cut W;have xo:3+wt r5<=wt r:=jM W;have Z:=bL List.length (dH W);rw[ae]at Z;have Z:r.length=1+r5.length:=Z;have xc:¬w=[110,111,116]:=λz=>by rcases G with h|h<;>(rw[z]at h;exact absurd h Qd)
    refine⟨_,rfl,_,rfl,_,_,rfl,rfl,x,r5,k0,by show [V.str x,V.int (pos x r+1),V.str ", "]=_;rw[show pos x r+1=pos x r5 from p5.symm],s5,X,Qo,Qo,λH2 p m v=>?_⟩;have v:H2 p=some (.tup (RT x (jG (thE k0) r5))):=v;rw[hf]at v;generalize jG g r5=o at v q;have xh:∀B,al H2 B->(o.bind λq=>if q.1=true then some q else none)=none->(al H B/\(∀H' p,al H H'->H' p=some (.tup (RT x (D6 g w r)))->Q (.ref p) H')/\∃o5,[some (V.str x),some (.int (pos x l)),some (.int (pos x r)),some (.str (mkS w)),some (.ref p)]=[some (.str x),some (.int (pos x l)),some (.int (pos x r)),some (.str (mkS w)),o5]):=λB I en=>by
     rw[en]at q;refine⟨((s.trans s').trans m).trans I,λH' p' xi xe=>q H' p' xi ?_,_,rfl⟩;unfold D6 at xe;rw[aG xc]at xe;exact xe
    cases o with
    |none=>
     have v:H2 p=some (.tup [.str (jQ none),.int 0,.int 0]):=v;refine⟨_,rfl,p,_,_,_,rfl,rfl,SqT.of v,rfl,rfl,_,rfl,?_⟩;rw[oH];exact eZ (xh H2 (al.refl _) rfl)
    |some o=>
     obtain⟨t2,d2,M⟩:=o;have xk:H2 p=some (.tup [.str (jQ (some t2)),.int d2,.int (pos x M)]):=v;refine⟨_,rfl,p,_,_,_,rfl,rfl,SqT.of xk,rfl,rfl,_,rfl,?_⟩;rw[oH,show decide (some t2=some true)=t2 from by cases t2<;>rfl];cases t2 with
     |false=>exact eZ (xh H2 (al.refl _) rfl)
     |true=>exact eT ⟨_,rfl,q H2 p ((s.trans s').trans m) v⟩
   ·have e:Ip g w r=D6 g w r:=by
     unfold Ip;by_cases G:w=[108,101,97,115,116]\/w=[109,111,115,116]
     ·have xc:¬w=[110,111,116]:=λz=>by rcases G with h|h<;>(rw[z]at h;exact absurd h Qd)
      rw[aO G];rw[aH G]at a;have a:bp [40] r=none:=by simpa using a
      rw[a];unfold D6;rw[aG xc];rfl
     ·rw[aG G]
    rw[e]at q;exact⟨s.trans s',q,_,rfl⟩
  rintro xt H5⟨s5,q,o5,rfl⟩;refine⟨λd H'=>al H H'/\D6 g w r=none,?_,?_⟩
  ·refine ck (b:=decide (w=[110,111,116])&&(bp [32] r).isSome) (Ev.and (λQ k=>⟨_,rfl,rfl,_,rfl,?_⟩) (λ_ H2 m=>λQ k=>⟨_,rfl,_,rfl,_,rfl,_,rfl,_,_,rfl,rfl,_,rfl,x,rfl,cY y,rfl,_,rfl,?_⟩)) (λa H1 s'=>?_) (λa H1 s'=>⟨s5.trans s',?_⟩)
   ·rw[eY (by decide+kernel:("not":Str).cps.toList=[110,111,116])];exact k _ (al.refl _)
   ·rw[fH (j:=pos x r+1) D (p:=[32]) Qk rfl];exact k _ (al.refl _)
   ·obtain⟨G,a⟩:=fN.mp a;have G:=bb G;obtain⟨M,xa⟩:=bh.mp a;unfold D6 at q;rw[aO G,xa,<-hf]at q;obtain⟨s6,p6⟩:=D.cut xa;have er:=dH xa;have xv:3+wt M<=wt l:=by
     rw[<-J,G,er];have h1:=Kj M;have h2:=kg [110] (111::116::32::M);have h3:wt ([110]++(111::116::32::M))=wt ([110,111,116]++([32]++M)):=rfl;omega
    have xd:=bL List.length er;rw[ae]at xd;have xd:r.length=1+M.length:=xd;exact⟨_,rfl,_,rfl,_,_,rfl,rfl,x,M,k0,by show [V.str x,V.int (pos x r+1),V.str "c"]=_;rw[show pos x r+1=pos x M from p6.symm],s6,X,Qo,Qo,λB p I v=>q B p ((s5.trans s').trans I) v⟩
   ·unfold D6;by_cases G:w=[110,111,116]
    ·rw[aH G]at a;have a:bp [32] r=none:=by simpa using a
     rw[aO G,a];rfl
    ·rw[aG G]
  rintro xp H6⟨s6,en⟩;rw[en]at q;exact⟨(by show 3<=sizeLine;decide),λt ht=>q _ t (s6.upd ht) ak⟩
structure K8(K:ah)(mg:Str->Option Value):Prop where
 th:∃f fd,fg K "_law_thing" "_law_thing" s_l_thing f fd/\mg "_law_thing"=some (.ref f)
 fu:∃f fd,fg K "_law_full" "_law_full" s_l_full f fd/\mg "_law_full"=some (.ref f)
 inn:∃f fd,fg K "_law_inner" "_law_inner" s_l_inner f fd/\mg "_law_inner"=some (.ref f)
 tw:∃f fd,fg K "_law_two" "_law_two" s_l_two f fd/\mg "_law_two"=some (.ref f)
 br:∃f fd,fg K "_law_bracket" "_law_bracket" s_l_bracket f fd/\mg "_law_bracket"=some (.ref f)
 nt:∃f fd,fg K "_law_number_thing" "_law_number_thing" s_l_number_thing f fd/\mg "_law_number_thing"=some (.ref f)
 ra:∃f fd,fg K "_law_ranged" "_law_ranged" s_l_ranged f fd/\mg "_law_ranged"=some (.ref f)
theorem HS(R:K8 K mg)(T:dF K mg)(d:dk P w K mg base 1 "_law_run" ["_law_text_here","_law_at","_law_signs"] pp)(cn:dk P w K mg base 2 "_law_names" ["_law_text_here","_law_at","_law_many"] mP)(j:dk P w K mg base 2 "_law_number_end" ["_law_text_here","_law_at"] (oO jc))(cs:dk P w K mg base 3 "_law_set_end" ["_law_text_here","_law_at"] (px fF))(cc:dk P w K mg base 3 "_law_cost_end" ["_law_text_here","_law_at"] (px mh))(cl:dk P w K mg base 1 "_law_flat" ["_law_kind","_law_end"] xD):∀N:Nat,dk P w K mg base (N+4) "_law_thing" ["_law_text_here","_law_at"] (jb thE 0 N):=by
 intro N;induction N using Nat.strongRecOn with
 |_ N g=>
  cases N with
  |zero=>exact ka _ R.th (λ_ _ F=>F.binds λ_ _ _ _ _ _ us a=>match us,a with|[_,_],_=>rfl) λ_ _ _ _ h=>sh h
  |succ N=>
   have b:∀M L,M<=N->(M=0\/M+4<=L)->dk P w K mg base L "_law_thing" ["_law_text_here","_law_at"] (jb thE 0 M):=λM L h1 h2=>by
    rcases h2 with rfl|h2
    ·exact ka _ R.th (λ_ _ F=>F.binds λ_ _ _ _ _ _ us a=>match us,a with|[_,_],_=>rfl) λ_ _ _ _ h=>sh h
    ·exact(g M Qo).mono h2
   have c:∀M L,M<=N->(M=0\/M+5<=L)->dk P w K mg base L "_law_full" ["_law_text_here","_law_at"] (jb (λn=>fullOf (thE n)) 0 M):=λM L h1 h2=>by
    rcases h2 with rfl|h2
    ·exact ka _ R.fu (λ_ _ F=>F.binds λ_ _ _ _ _ _ us a=>match us,a with|[_,_],_=>rfl) λ_ _ _ _ h=>sh h
    ·obtain⟨f,fd,F,m⟩:=R.fu;exact⟨f,fd,(F3 F T (b M (M+4) h1 (.inr (ao _)))).mono h2,m,F.kp,F.binds λ_ _ _ _ _ _ us a=>match us,a with|[_,_],_=>rfl⟩
   have e:∀M L,M<=N->(M=0\/M+6<=L)->dk P w K mg base L "_law_inner" ["_law_text_here","_law_at","_law_kind"] (ol "c" (λn=>ed (thE n)) M):=λM L h1 h2=>by
    rcases h2 with rfl|h2
    ·exact ka _ R.inn (λ_ _ F=>F.binds λ_ _ _ _ _ _ us a=>match us,a with|[_,_,_],_=>rfl) λ_ _ _ _ h=>y_ h
    ·obtain⟨f,fd,F,m⟩:=R.inn;exact⟨f,fd,(Jh F (c M (M+5) h1 (.inr (ao _)))).mono h2,m,F.kp,F.binds λ_ _ _ _ _ _ us a=>match us,a with|[_,_,_],_=>rfl⟩
   have l:∀M L,M<=N->(M=0\/M+5<=L)->dk P w K mg base L "_law_two" ["_law_text_here","_law_at","_law_mark"] (ol ", " (λn=>jG (thE n)) M):=λM L h1 h2=>by
    rcases h2 with rfl|h2
    ·exact ka _ R.tw (λ_ _ F=>F.binds λ_ _ _ _ _ _ us a=>match us,a with|[_,_,_],_=>rfl) λ_ _ _ _ h=>y_ h
    ·obtain⟨f,fd,F,m⟩:=R.tw;exact⟨f,fd,(I0 F T (b M (M+4) h1 (.inr (ao _)))).mono h2,m,F.kp,F.binds λ_ _ _ _ _ _ us a=>match us,a with|[_,_,_],_=>rfl⟩
   have o:∀M L,M<=N->(M=0\/M+6<=L)->dk P w K mg base L "_law_bracket" ["_law_text_here","_law_at"] (jb (λn=>oJ (thE n)) 0 M):=λM L h1 h2=>by
    rcases h2 with rfl|h2
    ·exact ka _ R.br (λ_ _ F=>F.binds λ_ _ _ _ _ _ us a=>match us,a with|[_,_],_=>rfl) λ_ _ _ _ h=>sh h
    ·obtain⟨f,fd,F,m⟩:=R.br;exact⟨f,fd,(Jl F T (b M (M+4) h1 (.inr (ao _))) (c M (M+5) h1 (.inr (ao _)))).mono h2,m,F.kp,F.binds λ_ _ _ _ _ _ us a=>match us,a with|[_,_],_=>rfl⟩
   have i:dk P w K mg base (N+4) "_law_number_thing" ["_law_text_here","_law_at"] (jb (λn=>j9 (thE n)) 1 (N+1)):=by
    obtain⟨f,fd,F,m⟩:=R.nt;exact⟨f,fd,Jc (L:=N+3) Qo F j (b (N+1-2) (N+3) Qo Qo),m,F.kp,F.binds λ_ _ _ _ _ _ us a=>match us,a with|[_,_],_=>rfl⟩
   have k:dk P w K mg base (N+4) "_law_ranged" ["_law_text_here","_law_at"] (jb (λn=>gT (thE n)) 0 (N+1)):=by
    obtain⟨f,fd,F,m⟩:=R.ra;exact⟨f,fd,Jb (L:=N+3) Qo F d cs (e (N+1-4) (N+3) Qo Qo),m,F.kp,F.binds λ_ _ _ _ _ _ us a=>match us,a with|[_,_],_=>rfl⟩
   obtain⟨f,fd,F,m⟩:=R.th;exact⟨f,fd,I_ F T d cn cs cc cl (o (N-2) (N+4) Qo Qo) i k (l (N-2) (N+4) Qo Qo) (e (N-2) (N+4) Qo Qo),m,F.kp,F.binds λ_ _ _ _ _ _ us a=>match us,a with|[_,_],_=>rfl⟩
theorem HU(R:K8 K mg)(T:dF K mg){N:Nat}(ct:dk P w K mg base (N+4) "_law_thing" ["_law_text_here","_law_at"] (jb thE 0 N)):dk P w K mg base (N+5) "_law_full" ["_law_text_here","_law_at"] (jb (λn=>fullOf (thE n)) 0 N):=by
 obtain⟨f,fd,F,m⟩:=R.fu;exact⟨f,fd,F3 F T ct,m,F.kp,F.binds λ_ _ _ _ _ _ us a=>match us,a with|[_,_],_=>rfl⟩
end
theorem pV{X:Cx}{c:Const}{k:Nat}{pos:Pos}{es:List Expr}{te:TE}{t:TA}(a:PE X (.Constant c k pos) te)(b:PA X es t):PA X (.Constant c k pos::es) (uA te t):=aa a b
theorem Gi(a b:Str)(n:Int):(((((("cost ":Str)++a)++(" ":Str))++b)++(" <= ":Str))++numT n)=tx (.cost a b n):=by
 show _=(Str.join " " ["cost",a,b]++(" <= ":Str))++numT n;rw[cC,cC,cV,show("cost ":Str)=("cost":Str)++(" ":Str)from by decide+kernel];simp only[fX]
theorem Ki(w v:Str)(s:Ks)(c:Cl):(Str.join " " [w,v,"in",ir s]++(": ":Str))++tx c=tx (.ov w v s c):=by
 show _=w++((" ":Str)++(v++((" in ":Str)++(ir s++((": ":Str)++(tx c++Str.empty))))));rw[hG (tx c),cC,cC,cC,cV,show(" in ":Str)=((" ":Str)++("in":Str))++(" ":Str)from by decide+kernel];simp only[fX]
theorem Im(a b:Cl):Str.join " <= " [tx a,tx b]=tx (.atm a b):=by
 rw[cC,cV];show _=(tx a++(" <= ":Str))++tx b;rw[fX]
theorem Ik(w:Str)(a b:Cl):((w++("(":Str))++Str.join ", " [tx a,tx b])++(")":Str)=tx (.two w a b):=by
 rw[cC,cV];show _=w++(("(":Str)++(tx a++((", ":Str)++(tx b++((")":Str)++Str.empty)))));rw[hG (")":Str)];simp only[fX]
theorem Il(w:Str)(a b:Cl):(("(":Str)++Str.join (((" ":Str)++w)++(" ":Str)) [tx a,tx b])++(")":Str)=tx (.bin w a b):=by
 rw[cC,cV];show _=("(":Str)++(tx a++((" ":Str)++(w++((" ":Str)++(tx b++((")":Str)++Str.empty))))));rw[hG (")":Str)];simp only[fX]
theorem Gh(a b:Cl):(("(":Str)++Str.join (((" ":Str)++("+":Str))++(" ":Str)) [tx a,tx b])++(")":Str)=tx (.plus a b):=by
 rw[cC,cV];show _=("(":Str)++(tx a++((" + ":Str)++(tx b++((")":Str)++Str.empty))));rw[hG (")":Str),show(" + ":Str)=((" ":Str)++("+":Str))++(" ":Str)from by decide+kernel];simp only[fX]
def uC(n:Nat):Sp:=λvs H Q _=>∃(v:V)(k:Nat)(c:Cl),vs=[v]/\PD H k v (dat c)/\wf c/\dep c<=n/\(tx c).length<=8000/\∀H',al H H'->Q (.str (tx c)) H'
section
variable{P:Program}{w:World}{K:ah}{mg:Str->Option Value}{base:Heap}{n:Nat}
theorem GD:bD ["_law_told"] ["_law_told"] (aU s_l_set_text):=⟨rfl,rfl,rfl,Qk,rfl,Qk,Qk⟩
theorem GZ{f:Addr}{fd:FuncData}(F:fg K "_law_set_text" "_law_set_text" s_l_set_text f fd):FnOk P w K mg base gW 1 f fd ["_law_told"] qW:=by
 refine F.ok GD (λvs H Q E h=>?_) (λt A outer s H vs Q E I h=>?_)
 ·obtain⟨v,k,c,rfl,_⟩:=h;rfl
 ·obtain⟨v,k,c,rfl,j,u,D,q⟩:=h;refine⟨_,(aw (bA (aI b4 (bE bB (pv 0) ai (λ_ _=>Qr)) ad (aS _)) (am (aR (aF aM (aF aM ad (dW aX bg bf fQ ad (aa (bE bB (pv 0) ai (λ_ _=>Qr)) ac))) ad))) aW)
   (am (aR (dW aX bg bf jr ad (aa (pv 0) ac))))),?_⟩
  cases c with
  |all=>
   obtain⟨m,a,xs,rfl,rfl,d,e⟩:=j.tup_of;obtain⟨x,rfl,g⟩:=CA e;rw[g.str_is]at d;refine⟨_,rfl,a,_,_,_,rfl,rfl,SqT.of d,rfl,rfl,_,rfl,bn (fh Qk) ⟨rfl,_,rfl,_,a,["all"],rfl,rfl,SqT.of d,Qk,Qk,q⟩⟩
  |of x y=>
   obtain⟨m,a,xs,rfl,rfl,d,e⟩:=j.tup_of;obtain⟨C,G,rfl,g,p2⟩:=lp e;rw[g.str_is,p2.str_is]at d;have B:x≠"these":=by rcases u.1 with rfl|rfl<;>decide+kernel
   have hw:=iE (by rw[jv];decide) (by rw[jv];decide) (show(Str.join " " [x,y]).length<=40000 from D);refine⟨_,rfl,a,_,_,_,rfl,rfl,SqT.of d,rfl,rfl,_,rfl,bn (fh B) ⟨rfl,_,rfl,_,a,[x,y],rfl,rfl,SqT.of d,Qk,af hw Qd,q⟩⟩
  |these ns=>
   obtain⟨m,a,xs,rfl,rfl,d,e⟩:=j.tup_of;obtain⟨C,G,rfl,g,p2⟩:=lp e;rw[g.str_is]at d;obtain⟨m2,b,ys,rfl,rfl,p,o⟩:=p2.list_of;rw[jd o]at p;have i:("{":Str).length +(Str.join ", " ns).length +("}":Str).length<=40000:=by
    have:(ir (.these ns)).length=("{":Str).length +(Str.join ", " ns).length +("}":Str).length:=by
     show((("{":Str)++Str.join ", " ns)++("}":Str)).length=_;rw[ag,ag]
    omega
   have hw:=iE (z:=", ") (l:=ns) (n:=40000) (by rw[zZ];decide) (by rw[zZ];decide) Qo;refine⟨_,rfl,a,_,_,_,rfl,rfl,SqT.of d,rfl,rfl,_,rfl,fO (qy rfl) ⟨rfl,_,rfl,a,_,_,_,rfl,rfl,SqT.of d,rfl,_,b,ns,rfl,rfl,SqL.of p,Qk,af hw Qd,_,_,rfl,rfl,af (show _<=40000 by omega) Qd,_,_,rfl,rfl,?_,q⟩⟩;rw[ag];exact af i Qd
theorem nN:bD ["_law_thing_here","_law_word","_law_head","_law_both"] ["_law_thing_here"] (aU s_l_text):=⟨rfl,rfl,rfl,Qk,rfl,Qk,Qk⟩
theorem Fc{f:Addr}{fd:FuncData}(F:fg K "_law_text" "_law_text" s_l_text f fd):FnOk P w K mg base gW 2 f fd ["_law_thing_here"] (uC 0):=by
 refine F.ok nN (λvs H Q E h=>?_) (λa A outer s H vs Q E b h=>?_)
 ·obtain⟨v,k,c,rfl,_⟩:=h;rfl
 ·obtain⟨v,k,c,rfl,_,_,hd,_⟩:=h;have:=oW c;omega
theorem Hd{f:Addr}{fd:FuncData}(F:fg K "_law_text" "_law_text" s_l_text f fd)(T:dF K mg)(cs:dk P w K mg base 1 "_law_set_text" ["_law_told"] qW)(ct:dk P w K mg base (n+2) "_law_text" ["_law_thing_here"] (uC n)):FnOk P w K mg base gW (n+3) f fd ["_law_thing_here"] (uC (n+1)):=by
 have xm:List.Nodup (["_law_told"]:List Str):=Qk;refine F.ok nN (λvs H Q E h=>?_) (λxq A outer s H vs Q E hr h=>?_)
 ·obtain⟨v,k,c,rfl,_⟩:=h;rfl
 ·obtain⟨v,k,c,rfl,pd,X,hd,J,q⟩:=h;have r1:cF 1 _:=hr.mono Qo;refine⟨_,(aw (aY (i:=1) nN.nd rfl (aN rfl) (bE bB (pv 0) ai (λ_ _=>Qr)))
   (aw (bA (aI b4 (pv 1) ad (aS _)) (am (aR (d9 eJ Qr T.str mj (aa (bE bB (pv 0) ai (λ_ _=>Qr)) ac)))) aW)
   (aw (bA (PW.pt (eQ (aI b4 (pv 1) ad (aS _)) (dU (aI b4 (pv 1) ad (aS _))))) (am (aR (dW aX bg bf fQ ad (aa (aF eR (cA (aa (pv 1) ac)) (kq (N:=["_law_told"]) (xs:=1) (js:=[]) rfl (dD rfl) (xM (bM ss (pv 0) (bi ai) fj)) (λ_ _ _ _=>db (i:=0) xm rfl (aN rfl)) (λ_ _ _ _=>jI) (λ_ _ _ _=>aJ cs r1 Qr (aa (pv 0) ac)))) ac)))) aW)
   (aw (bA (aI b4 (pv 1) ad (aS _)) (am (aR (aF aM (aF aM (aF aM (aF aM (aF aM ad (bE bB (pv 0) ai (λ_ _=>Qr))) ad) (bE bB (pv 0) ai (λ_ _=>Qr))) ad) (d9 eJ Qr T.str mj (aa (bE bB (pv 0) ai (λ_ _=>Qr)) ac))))) aW)
   (aw (bA (aI b4 (pv 1) ad (aS _)) (am (aR (aF aM (aF aM (d9 eJ Qr T.str mj (aa (bE bB (pv 0) ai (λ_ _=>Qr)) ac)) ad) (aJ ct hr Qr (aa (bE bB (pv 0) ai (λ_ _=>Qr)) ac))))) aW)
   (aw (bA (aI b4 (pv 1) ad (aS _)) (am (aR (aF aM ad (aJ ct hr Qr (aa (bE bB (pv 0) ai (λ_ _=>Qr)) ac))))) aW)
   (aw (bA (PW.pt (eQ (aI b4 (pv 1) ad (aS _)) (dU (aI b4 (pv 1) ad (aS _))))) (aw (aY (i:=2) nN.nd rfl (aN rfl) (dW aX bg bf fQ ad (aa (cA (aa (pv 1) (aa (bE bB (pv 0) ai (λ_ _=>Qr)) (aa ad (aa (aJ cs r1 Qr (aa (bE bB (pv 0) ai (λ_ _=>Qr)) ac)) ac))))) ac)))
   (am (aR (aF aM (aF aM (pv 2) ad) (aJ ct hr Qr (aa (bE bB (pv 0) ai (λ_ _=>Qr)) ac)))))) aW)
   (aQ (bA (aI iD (pv 1) (@cA _ _ _ _ (@pV _ _ _ _ _ _ _ ad (@pV _ _ _ _ _ _ _ ad (@pV _ _ _ _ _ _ _ ad (@pV _ _ _ _ _ _ _ ad (@pV _ _ _ _ _ _ _ ad (@pV _ _ _ _ _ _ _ ad (@pV _ _ _ _ _ _ _ ad ac)))))))) Qw) (am (aR (dW aX bg bf jr ad (aa (pv 0) ac)))) aW)
   (aQ (aY (i:=3) nN.nd rfl (aN rfl) (cA (aa (aJ ct hr Qr (aa (bE bB (pv 0) ai (λ_ _=>Qr)) ac)) (aa (aJ ct hr Qr (aa (bE bB (pv 0) ai (λ_ _=>Qr)) ac)) ac))))
   (aw (bA (aI b4 (pv 1) ad (aS _)) (am (aR (dW aX bg bf fQ ad (aa (pv 3) ac)))) aW)
   (aQ (bA (PW.pt (eQ (aI b4 (pv 1) ad (aS _)) (dU (aI b4 (pv 1) ad (aS _))))) (am (aR (aF aM (aF aM (aF aM (pv 1) ad) (dW aX bg bf fQ ad (aa (pv 3) ac))) ad))) aW)
   (aQ (bA (aI b4 (pv 1) ad (aS _)) (am (aY (i:=1) nN.nd rfl (aN rfl) ad)) aW)
   (am (aR (aF aM (aF aM ad (dW aX bg bf fQ (aF aM (aF aM ad (pv 1)) ad) (aa (pv 3) ac))) ad))))))))))))))),?_⟩
  cases c with
  |nm x ns=>
   obtain⟨m,a,xs,rfl,rfl,g,G⟩:=pd.tup_of;have ex:=jd (ns:=x::ns) G;subst ex;have h0:nb x=some ns.length:=X.1;have hw:=iE (by rw[jv];decide) (by rw[jv];decide) (show(Str.join " " (x::ns)).length<=8000 from J);have D:∀{y:Str},nb y=none->decide (V.str x=V.str y)=false:=λh=>fh (oq h0 h);refine⟨_,rfl,a,_,_,_,rfl,rfl,SqT.of g,fE (j:=0) rfl,?_⟩;refine⟨_,rfl,rfl,_,rfl,bn (D Qk) ⟨_,rfl,rfl,_,rfl,bn (D Qk) ⟨_,rfl,rfl,_,rfl,bn (D Qk) ⟨_,rfl,rfl,_,rfl,bn (D Qk) ⟨_,rfl,rfl,_,rfl,bn (D Qk) ⟨_,rfl,rfl,_,rfl,bn (D Qk) ?_⟩⟩⟩⟩⟩⟩;refine⟨_,rfl,rfl,_,rfl,bn (D Qk) ⟨_,rfl,rfl,_,rfl,bn (D Qk) ?_⟩⟩;refine⟨λ_ _=>False,⟨_,rfl,by show 7<=sizeLine;decide,λq0 R=>?_⟩,λ_ _ z=>z.elim⟩;have s1:al H (upd H q0 (.lst (gh.map V.str))):=al.new R;refine⟨q0,gh.map V.str,rfl,.inl (SqL.of ak),rfl,em _,_,rfl,fO (by show tR (.str x) (gh.map V.str)=true;rw[im];exact aH (pZ h0)) ?_⟩;exact⟨rfl,_,rfl,_,a,x::ns,rfl,rfl,SqT.of (s1 _ _ g),Qk,af hw Qd,q _ s1⟩
  |num i=>
   obtain⟨m,a,xs,rfl,rfl,g,G⟩:=pd.tup_of;obtain⟨v1,u,rfl,M,p2⟩:=lp G;rw[M.str_is,p2.int_of]at g;exact⟨_,rfl,a,_,_,_,rfl,rfl,SqT.of g,rfl,_,rfl,rfl,_,rfl,fO (qy rfl) ⟨_,rfl,a,_,_,_,rfl,rfl,SqT.of g,rfl,i,rfl,ik X,q H (al.refl _)⟩⟩
  |size k=>
   obtain⟨m,a,xs,rfl,rfl,g,G⟩:=pd.tup_of;obtain⟨v1,u,rfl,M,p2⟩:=lp G;rw[M.str_is]at g;have Y:Paired (PD H m) [u] ([k].map datK):=(.cons p2 .nil);have xd:∀s∈ [k],tU s:=λs hs=>by
    simp only[aq,a_,or_false]at hs;rw[hs];exact X
   have hj:(Str.join " " (("size":Str):: [k].map ir)).length<=8000:=J;have xg:∀H',al H H'->Q (.str (Str.join " " (("size":Str):: [k].map ir))) H':=q;have W:([k]:List Ks).length<=2:=by show 1<=2;decide
   have S:[u].length=([k]:List Ks).length:=rfl;have xf:kQ (V.str "size":: [u]) (some 1) none=[u]:=rfl;have xe:¬(HT.sIx (V.str "size":: [u]).length 0 (some 1)=0/\HT.sIx (V.str "size":: [u]).length (V.str "size":: [u]).length none=(V.str "size":: [u]).length):=by show¬(HT.sIx 2 0 (some 1)=0/\HT.sIx 2 2 none=2);decide
   refine⟨_,rfl,a,_,_,_,rfl,rfl,SqT.of g,rfl,?_⟩;refine⟨_,rfl,rfl,_,rfl,bn (fh Qk) ?_⟩;refine⟨_,rfl,rfl,_,rfl,fO (qy rfl) (eT ?_)⟩;generalize hks:[k]=ks at Y xd hj xg W S;generalize hvs:[u]=zs at Y S g xf xe;clear hks hvs;have hw:=iE (by rw[jv];decide) (by rw[jv];decide) hj;refine⟨rfl,_,rfl,by show 1<=sizeLine;decide,λl xc=>?_⟩;have s1:al H (upd H l (.lst [.str "size"])):=al.new xc;have g1:(upd H l (.lst [.str "size"])) l=some (.lst [.str "size"]):=ak;generalize upd H l (.lst [.str "size"])=H1 at s1 g1;refine⟨_,rfl,_,rfl,a,_,rfl,SqT.of (s1 _ _ g),xe,λp hp=>?_⟩;rw[xf];have B:al H1 (upd H1 p (.tup zs)):=al.new hp;have g2:(upd H1 p (.tup zs)) p=some (.tup zs):=ak;generalize upd H1 p (.tup zs)=H2 at B g2;refine⟨p,rfl,⟨_,SqT.of g2⟩,lD (K:=K) (ys:=zs) (λi I b H'=>al H2 H'/\I=(ks.take i).map (λd=>V.str (ir d))/\∃o,b=[o])
    ⟨al.refl _,rfl,none,rfl⟩ (λi I b H' h=>?_) (by rw[S];exact af W Qd) (λi I b H' _ h=>SqT.of (h.1 _ _ g2)) (λi x I b H' hx h=>?_) (λI b H' h p2 xk=>?_)⟩
   ·rw[h.2.1,ay,bT];omega
   ·obtain⟨U,rfl,o,rfl⟩:=h;obtain⟨d,C,xh⟩:=jm Y hx;rw[cE]at C;cases e:ks[i]? with
    |none=>rw[e]at C;cases C
    |some c0=>
     rw[e]at C;cases C;refine⟨_,rfl,x,m,c0,rfl,xh.same (s1.trans (B.trans U)),xd c0 (bR e),af (k_ hj (aB _ (fZ (bR e)))) Qd,U,?_,_,rfl⟩;rw[dP,e,aT];rfl
   ·obtain⟨U,rfl,o,rfl⟩:=h;have et:ks.take zs.length=ks:=bW (by rw[S];exact ao _);rw[et];have s4:al H' (upd H' p2 (.lst (ks.map λd=>V.str (ir d)))):=al.new xk;refine⟨l,p2,_,_,rfl,rfl,s4 _ _ (U _ _ (B _ _ g1)),ak,?_,λO xi=>?_⟩
    ·rw[ay];exact af (show 1+ks.length<=3 by omega) Qd
    refine⟨_,O,("size":Str)::ks.map ir,rfl,rfl,SqL.of (by rw[ak,b7,fM];rfl),Qk,af hw Qd,?_⟩;exact xg _ (s1.trans (B.trans (U.trans (s4.upd xi))))
  |pairs k j=>
   obtain⟨m,a,xs,rfl,rfl,g,G⟩:=pd.tup_of;obtain⟨v1,u,L,rfl,M,p2,O⟩:=j0 G;rw[M.str_is]at g;have Y:Paired (PD H m) [u,L] ([k,j].map datK):=(.cons p2 (.cons O .nil));have xd:∀s∈ [k,j],tU s:=λs hs=>by
    simp only[aq,a_,or_false]at hs;rcases hs with rfl|rfl;exact X.1;exact X.2
   have hj:(Str.join " " (("pairs":Str):: [k,j].map ir)).length<=8000:=J;have xg:∀H',al H H'->Q (.str (Str.join " " (("pairs":Str):: [k,j].map ir))) H':=q;have W:([k,j]:List Ks).length<=2:=by show 2<=2;decide
   have S:[u,L].length=([k,j]:List Ks).length:=rfl;have xf:kQ (V.str "pairs":: [u,L]) (some 1) none=[u,L]:=rfl;have xe:¬(HT.sIx (V.str "pairs":: [u,L]).length 0 (some 1)=0/\HT.sIx (V.str "pairs":: [u,L]).length (V.str "pairs":: [u,L]).length none=(V.str "pairs":: [u,L]).length):=by show¬(HT.sIx 3 0 (some 1)=0/\HT.sIx 3 3 none=3);decide
   refine⟨_,rfl,a,_,_,_,rfl,rfl,SqT.of g,rfl,?_⟩;refine⟨_,rfl,rfl,_,rfl,bn (fh Qk) ?_⟩;refine⟨_,rfl,rfl,_,rfl,bn (fh Qk) ⟨_,rfl,rfl,_,rfl,fO (qy rfl) ?_⟩⟩;generalize hks:[k,j]=ks at Y xd hj xg W S;generalize hvs:[u,L]=zs at Y S g xf xe;clear hks hvs;have hw:=iE (by rw[jv];decide) (by rw[jv];decide) hj;refine⟨rfl,_,rfl,by show 1<=sizeLine;decide,λl xc=>?_⟩;have s1:al H (upd H l (.lst [.str "pairs"])):=al.new xc;have g1:(upd H l (.lst [.str "pairs"])) l=some (.lst [.str "pairs"]):=ak;generalize upd H l (.lst [.str "pairs"])=H1 at s1 g1;refine⟨_,rfl,_,rfl,a,_,rfl,SqT.of (s1 _ _ g),xe,λp hp=>?_⟩;rw[xf];have B:al H1 (upd H1 p (.tup zs)):=al.new hp;have g2:(upd H1 p (.tup zs)) p=some (.tup zs):=ak;generalize upd H1 p (.tup zs)=H2 at B g2;refine⟨p,rfl,⟨_,SqT.of g2⟩,lD (K:=K) (ys:=zs) (λi I b H'=>al H2 H'/\I=(ks.take i).map (λd=>V.str (ir d))/\∃o,b=[o])
    ⟨al.refl _,rfl,none,rfl⟩ (λi I b H' h=>?_) (by rw[S];exact af W Qd) (λi I b H' _ h=>SqT.of (h.1 _ _ g2)) (λi x I b H' hx h=>?_) (λI b H' h p2 xk=>?_)⟩
   ·rw[h.2.1,ay,bT];omega
   ·obtain⟨U,rfl,o,rfl⟩:=h;obtain⟨d,C,xh⟩:=jm Y hx;rw[cE]at C;cases e:ks[i]? with
    |none=>rw[e]at C;cases C
    |some c0=>
     rw[e]at C;cases C;refine⟨_,rfl,x,m,c0,rfl,xh.same (s1.trans (B.trans U)),xd c0 (bR e),af (k_ hj (aB _ (fZ (bR e)))) Qd,U,?_,_,rfl⟩;rw[dP,e,aT];rfl
   ·obtain⟨U,rfl,o,rfl⟩:=h;have et:ks.take zs.length=ks:=bW (by rw[S];exact ao _);rw[et];have s4:al H' (upd H' p2 (.lst (ks.map λd=>V.str (ir d)))):=al.new xk;refine⟨l,p2,_,_,rfl,rfl,s4 _ _ (U _ _ (B _ _ g1)),ak,?_,λO xi=>?_⟩
    ·rw[ay];exact af (show 1+ks.length<=3 by omega) Qd
    refine⟨_,O,("pairs":Str)::ks.map ir,rfl,rfl,SqL.of (by rw[ak,b7,fM];rfl),Qk,af hw Qd,?_⟩;exact xg _ (s1.trans (B.trans (U.trans (s4.upd xi))))
  |cost x y i=>
   obtain⟨m,a,xs,rfl,rfl,g,G⟩:=pd.tup_of;obtain⟨v1,u,L,v4,rfl,M,p2,O,p4⟩:=zO G;rw[M.str_is,p2.str_is,O.str_is,p4.int_of]at g;rw[<-Gi]at J q;rw[ag,ag,ag,ag,ag]at J;refine⟨_,rfl,a,_,_,_,rfl,rfl,SqT.of g,rfl,?_⟩;refine⟨_,rfl,rfl,_,rfl,bn (fh Qk) ⟨_,rfl,rfl,_,rfl,bn (fh Qk) ⟨_,rfl,rfl,_,rfl,bn (fh Qk) ⟨_,rfl,rfl,_,rfl,fO (qy rfl) ?_⟩⟩⟩⟩;refine⟨_,rfl,a,_,_,_,rfl,rfl,SqT.of g,rfl,_,_,rfl,rfl,af (show _<=8000 by omega) Qd,_,_,rfl,rfl,?_,_,rfl,a,_,_,_,rfl,rfl,SqT.of g,rfl,_,_,rfl,rfl,?_,_,_,rfl,rfl,?_,_,rfl,a,_,_,_,rfl,rfl,SqT.of g,rfl,i,rfl,ik X.2.2,_,_,rfl,rfl,?_,q H (al.refl _)⟩
   ·rw[ag];exact af (show _<=8000 by omega) Qd
   ·rw[ag,ag];exact af (show _<=8000 by omega) Qd
   ·rw[ag,ag,ag];exact af (show _<=8000 by omega) Qd
   ·rw[ag,ag,ag,ag];exact af J Qd
  |tim i c=>
   obtain⟨m,a,xs,rfl,rfl,g,G⟩:=pd.tup_of;obtain⟨v1,u,L,rfl,M,p2,O⟩:=j0 G;rw[M.str_is,p2.int_of]at g;have xj:(numT i).length +(" * ":Str).length +(tx c).length<=8000:=by
    have:(tx (.tim i c)).length=(numT i).length +(" * ":Str).length +(tx c).length:=by
     show((numT i++(" * ":Str))++tx c).length=_;rw[ag,ag]
    omega
   have xb:1+dep c<=n+1:=hd;refine⟨_,rfl,a,_,_,_,rfl,rfl,SqT.of g,rfl,?_⟩;refine⟨_,rfl,rfl,_,rfl,bn (fh Qk) ⟨_,rfl,rfl,_,rfl,bn (fh Qk) ⟨_,rfl,rfl,_,rfl,bn (fh Qk) ⟨_,rfl,rfl,_,rfl,bn (fh Qk) ⟨_,rfl,rfl,_,rfl,fO (qy rfl) ?_⟩⟩⟩⟩⟩;refine⟨_,rfl,a,_,_,_,rfl,rfl,SqT.of g,rfl,i,rfl,ik X.2.1,_,_,rfl,rfl,af (show(numT i).length +(" * ":Str).length<=8000 by omega) Qd,_,rfl,a,_,_,_,rfl,rfl,SqT.of g,rfl,L,_,c,rfl,O,X.2.2.2,Qo,Qo,λH1 s1=>⟨_,_,rfl,rfl,?_,q H1 s1⟩⟩;rw[ag];exact af xj Qd
  |neg c=>
   obtain⟨m,a,xs,rfl,rfl,g,G⟩:=pd.tup_of;obtain⟨v1,u,rfl,M,p2⟩:=lp G;rw[M.str_is]at g;have xj:("not ":Str).length +(tx c).length<=8000:=by
    have:(tx (.neg c)).length=("not ":Str).length +(tx c).length:=ag _ _;omega
   have xb:1+dep c<=n+1:=hd;refine⟨_,rfl,a,_,_,_,rfl,rfl,SqT.of g,rfl,?_⟩;refine⟨_,rfl,rfl,_,rfl,bn (fh Qk) ⟨_,rfl,rfl,_,rfl,bn (fh Qk) ⟨_,rfl,rfl,_,rfl,bn (fh Qk) ⟨_,rfl,rfl,_,rfl,bn (fh Qk) ⟨_,rfl,rfl,_,rfl,bn (fh Qk) ⟨_,rfl,rfl,_,rfl,fO (qy rfl) ?_⟩⟩⟩⟩⟩⟩;exact⟨_,rfl,a,_,_,_,rfl,rfl,SqT.of g,rfl,u,_,c,rfl,p2,X.2,Qo,Qo,λH1 s1=>⟨_,_,rfl,rfl,af xj Qd,q H1 s1⟩⟩
  |ov x y k c=>
   obtain⟨m,a,xs,rfl,rfl,g,G⟩:=pd.tup_of;obtain⟨v1,u,L,v4,rfl,M,p2,O,p4⟩:=zO G;rw[M.str_is,p2.str_is]at g;obtain⟨hx,hy,wk,ht,X⟩:=X;rw[<-Ki]at J q;rw[ag,ag]at J;have xn:(Str.join " " [x,y,"in",ir k]).length<=8000:=Qo;have xo:(ir k).length<=8000:=k_ xn Qs;have hw:=iE (by rw[jv];decide) (by rw[jv];decide) xn;have xb:1+dep c<=n+1:=hd;have N:∀{z:Str},z≠"each"->z≠"some"->decide (V.str x=V.str z)=false:=λh1 h2=>fh (by rcases hx with rfl|rfl;exact h1.symm;exact h2.symm);refine⟨_,rfl,a,_,_,_,rfl,rfl,SqT.of g,rfl,?_⟩;refine⟨_,rfl,rfl,_,rfl,bn (N Qk Qk) ⟨_,rfl,rfl,_,rfl,bn (N Qk Qk) ⟨_,rfl,rfl,_,rfl,bn (N Qk Qk) ⟨_,rfl,rfl,_,rfl,bn (N Qk Qk) ⟨_,rfl,rfl,_,rfl,bn (N Qk Qk) ⟨_,rfl,rfl,_,rfl,bn (N Qk Qk) ?_⟩⟩⟩⟩⟩⟩;refine⟨_,rfl,rfl,_,rfl,eG (λh=>eT ?_) (λh=>⟨_,rfl,rfl,_,rfl,fO (qy (hx.resolve_left (io h))) ?_⟩)⟩
   all_goals refine⟨rfl,_,rfl,_,rfl,a,_,_,_,rfl,rfl,SqT.of g,rfl,_,rfl,a,_,_,_,rfl,rfl,SqT.of g,rfl,L,_,k,rfl,O,wk,af xo Qd,by show 4<=sizeLine;decide,λl xc=>⟨_,l,[x,y,"in",ir k],rfl,rfl,SqL.of ak,Qk,af hw Qd,?_⟩⟩
   all_goals
    have s0:al H (upd H l (.lst (([x,y,"in",ir k]:List Str).map V.str))):=al.new xc;refine⟨_,rfl,_,_,rfl,rfl,af (show _<=8000 by omega) Qd,_,rfl,a,_,_,_,rfl,rfl,SqT.of (s0 _ _ g),rfl,v4,_,c,rfl,p4.same s0,X,Qo,Qo,λH1 s1=>⟨_,_,rfl,rfl,by rw[ag];exact af J Qd,q H1 (s0.trans s1)⟩⟩
  |atm a0 t=>
   obtain⟨m,a,xs,rfl,rfl,g,G⟩:=pd.tup_of;obtain⟨v1,u,L,rfl,M,p2,O⟩:=j0 G;rw[M.str_is]at g;obtain⟨ta,tb,wa,wb⟩:=X;have d7:("atmost":Str)∉gh:=Qk;rw[<-Im]at J q;have xb:1+max (dep a0) (dep t)<=n+1:=hd;have hj:=J;have ab:(tx a0).length +(tx t).length<=8000:=by
    rw[cC,cV,ag,ag]at hj;omega
   refine⟨_,rfl,a,_,_,_,rfl,rfl,SqT.of g,rfl,?_⟩;refine⟨_,rfl,rfl,_,rfl,bn (fh Qk) ⟨_,rfl,rfl,_,rfl,bn (fh Qk) ⟨_,rfl,rfl,_,rfl,bn (fh Qk) ⟨_,rfl,rfl,_,rfl,bn (fh Qk) ⟨_,rfl,rfl,_,rfl,bn (fh Qk) ⟨_,rfl,rfl,_,rfl,bn (fh Qk) ?_⟩⟩⟩⟩⟩⟩;refine⟨_,rfl,rfl,_,rfl,bn (fh Qk) ⟨_,rfl,rfl,_,rfl,bn (fh Qk) ?_⟩⟩;refine⟨λb H'=>al H H'/\b=[some (V.ref a),some (V.str "atmost"),none,none],?_,?_⟩
   ·refine⟨_,rfl,by show 7<=sizeLine;decide,λq0 R=>?_⟩;have s1:al H (upd H q0 (.lst (gh.map V.str))):=al.new R;exact⟨q0,gh.map V.str,rfl,.inl (SqL.of ak),rfl,em _,_,rfl,bn (by show tR (.str "atmost") (gh.map V.str)=false;rw[im];exact aP d7) ⟨s1,rfl⟩⟩
   rintro b H1⟨s1,rfl⟩;refine⟨λb H'=>al H H'/\∃l,H' l=some (.lst (([tx a0,tx t]:List Str).map V.str))/\b=[some (V.ref a),some (V.str "atmost"),none,some (V.ref l)],?_,?_⟩
   ·refine⟨_,rfl,a,_,_,_,rfl,rfl,SqT.of (s1 _ _ g),rfl,u,_,a0,rfl,p2.same s1,wa,Qo,Qo,λH2 B=>⟨_,rfl,a,_,_,_,rfl,rfl,SqT.of ((s1.trans B) _ _ g),rfl,L,_,t,rfl,O.same (s1.trans B),wb,Qo,Qo,λH3 U=>⟨by show 2<=sizeLine;decide,λl xa=>?_⟩⟩⟩;exact⟨(s1.trans B).trans (U.trans (al.new xa)),l,ak,rfl⟩
   clear s1 H1;rintro b H1⟨s1,l,gl,rfl⟩;have Z:(([tx a0,tx t]:List Str).map (·.length)).sum +([tx a0,tx t]:List Str).length<=1048576:=by
    show(tx a0).length +((tx t).length +0)+2<=1048576;omega
   exact⟨_,rfl,rfl,_,rfl,fO (qy rfl) ⟨rfl,_,rfl,_,l,[tx a0,tx t],rfl,rfl,SqL.of gl,Qk,Z,q H1 s1⟩⟩
  |two x a0 t=>
   obtain⟨m,a,xs,rfl,rfl,g,G⟩:=pd.tup_of;obtain⟨v1,u,L,rfl,M,p2,O⟩:=j0 G;rw[M.str_is]at g;obtain⟨hx,ta,tb,wa,wb⟩:=X;have N:∀{z:Str},z≠"least"->z≠"most"->x≠z:=λh1 h2=>by rcases hx with rfl|rfl;exact h1.symm;exact h2.symm
   have xl:x.length<=5:=by rcases hx with rfl|rfl<;>decide+kernel
   have d7:x∉gh:=by rcases hx with rfl|rfl<;>decide+kernel
   rw[<-Ik]at J q;have xb:1+max (dep a0) (dep t)<=n+1:=hd;have hj:(Str.join ", " [tx a0,tx t]).length<=8000:=by
    rw[ag,ag]at J;omega
   have ab:(tx a0).length +(tx t).length<=8000:=by
    rw[cC,cV,ag,ag]at hj;omega
   refine⟨_,rfl,a,_,_,_,rfl,rfl,SqT.of g,rfl,?_⟩;refine⟨_,rfl,rfl,_,rfl,bn (fh (N Qk Qk)) ⟨_,rfl,rfl,_,rfl,bn (fh (N Qk Qk)) ⟨_,rfl,rfl,_,rfl,bn (fh (N Qk Qk)) ⟨_,rfl,rfl,_,rfl,bn (fh (N Qk Qk)) ⟨_,rfl,rfl,_,rfl,bn (fh (N Qk Qk)) ⟨_,rfl,rfl,_,rfl,bn (fh (N Qk Qk)) ?_⟩⟩⟩⟩⟩⟩;refine⟨_,rfl,rfl,_,rfl,bn (fh (N Qk Qk)) ⟨_,rfl,rfl,_,rfl,bn (fh (N Qk Qk)) ?_⟩⟩;refine⟨λb H'=>al H H'/\b=[some (V.ref a),some (V.str x),none,none],?_,?_⟩
   ·refine⟨_,rfl,by show 7<=sizeLine;decide,λq0 R=>?_⟩;have s1:al H (upd H q0 (.lst (gh.map V.str))):=al.new R;exact⟨q0,gh.map V.str,rfl,.inl (SqL.of ak),rfl,em _,_,rfl,bn (by show tR (.str x) (gh.map V.str)=false;rw[im];exact aP d7) ⟨s1,rfl⟩⟩
   rintro b H1⟨s1,rfl⟩;refine⟨λb H'=>al H H'/\∃l,H' l=some (.lst (([tx a0,tx t]:List Str).map V.str))/\b=[some (V.ref a),some (V.str x),none,some (V.ref l)],?_,?_⟩
   ·refine⟨_,rfl,a,_,_,_,rfl,rfl,SqT.of (s1 _ _ g),rfl,u,_,a0,rfl,p2.same s1,wa,Qo,Qo,λH2 B=>⟨_,rfl,a,_,_,_,rfl,rfl,SqT.of ((s1.trans B) _ _ g),rfl,L,_,t,rfl,O.same (s1.trans B),wb,Qo,Qo,λH3 U=>⟨by show 2<=sizeLine;decide,λl xa=>?_⟩⟩⟩;exact⟨(s1.trans B).trans (U.trans (al.new xa)),l,ak,rfl⟩
   clear s1 H1;rintro b H1⟨s1,l,gl,rfl⟩;have Z:(([tx a0,tx t]:List Str).map (·.length)).sum +([tx a0,tx t]:List Str).length<=1048576:=by
    show(tx a0).length +((tx t).length +0)+2<=1048576;omega
   have xp:x.length+("(":Str).length<=sizeLine:=by
    have:("(":Str).length=1:=Qk;exact af (show _<=6 by omega) Qd
   refine⟨_,rfl,rfl,_,rfl,bn (fh (N Qk Qk)) ?_⟩;refine⟨λ_ _=>False,?_,λ_ _ z=>z.elim⟩;refine⟨_,rfl,rfl,_,rfl,eG (λh=>eT ?_) (λh=>⟨_,rfl,rfl,_,rfl,fO (qy (hx.resolve_left (io h))) ?_⟩)⟩
   all_goals refine⟨_,rfl,_,_,rfl,rfl,xp,rfl,_,rfl,_,l,[tx a0,tx t],rfl,rfl,SqL.of gl,Qk,Z,_,_,rfl,rfl,?_,_,_,rfl,rfl,?_,q H1 s1⟩
   all_goals rw[ag,ag,ag]at J
   all_goals first|(rw[ag,ag];exact af J Qd)|(rw[ag];exact af (show _<=8000 by omega) Qd)
  |plus a0 t=>
   obtain⟨m,a,xs,rfl,rfl,g,G⟩:=pd.tup_of;obtain⟨v1,u,L,rfl,M,p2,O⟩:=j0 G;rw[M.str_is]at g;obtain⟨ta,tb,wa,wb⟩:=X;have d7:("plus":Str)∉gh:=Qk;rw[<-Gh]at J q;have xb:1+max (dep a0) (dep t)<=n+1:=hd;have hj:(Str.join (((" ":Str)++("+":Str))++(" ":Str)) [tx a0,tx t]).length<=8000:=by
    rw[ag,ag]at J;omega
   have ab:(tx a0).length +(tx t).length<=8000:=by
    rw[cC,cV,ag,ag]at hj;omega
   refine⟨_,rfl,a,_,_,_,rfl,rfl,SqT.of g,rfl,?_⟩;refine⟨_,rfl,rfl,_,rfl,bn (fh Qk) ⟨_,rfl,rfl,_,rfl,bn (fh Qk) ⟨_,rfl,rfl,_,rfl,bn (fh Qk) ⟨_,rfl,rfl,_,rfl,bn (fh Qk) ⟨_,rfl,rfl,_,rfl,bn (fh Qk) ⟨_,rfl,rfl,_,rfl,bn (fh Qk) ?_⟩⟩⟩⟩⟩⟩;refine⟨_,rfl,rfl,_,rfl,bn (fh Qk) ⟨_,rfl,rfl,_,rfl,bn (fh Qk) ?_⟩⟩;refine⟨λb H'=>al H H'/\b=[some (V.ref a),some (V.str "plus"),none,none],?_,?_⟩
   ·refine⟨_,rfl,by show 7<=sizeLine;decide,λq0 R=>?_⟩;have s1:al H (upd H q0 (.lst (gh.map V.str))):=al.new R;exact⟨q0,gh.map V.str,rfl,.inl (SqL.of ak),rfl,em _,_,rfl,bn (by show tR (.str "plus") (gh.map V.str)=false;rw[im];exact aP d7) ⟨s1,rfl⟩⟩
   rintro b H1⟨s1,rfl⟩;refine⟨λb H'=>al H H'/\∃l,H' l=some (.lst (([tx a0,tx t]:List Str).map V.str))/\b=[some (V.ref a),some (V.str "plus"),none,some (V.ref l)],?_,?_⟩
   ·refine⟨_,rfl,a,_,_,_,rfl,rfl,SqT.of (s1 _ _ g),rfl,u,_,a0,rfl,p2.same s1,wa,Qo,Qo,λH2 B=>⟨_,rfl,a,_,_,_,rfl,rfl,SqT.of ((s1.trans B) _ _ g),rfl,L,_,t,rfl,O.same (s1.trans B),wb,Qo,Qo,λH3 U=>⟨by show 2<=sizeLine;decide,λl xa=>?_⟩⟩⟩;exact⟨(s1.trans B).trans (U.trans (al.new xa)),l,ak,rfl⟩
   clear s1 H1;rintro b H1⟨s1,l,gl,rfl⟩;have Z:(([tx a0,tx t]:List Str).map (·.length)).sum +([tx a0,tx t]:List Str).length<=1048576:=by
    show(tx a0).length +((tx t).length +0)+2<=1048576;omega
   refine⟨_,rfl,rfl,_,rfl,bn (fh Qk) ?_⟩;refine⟨λb H'=>H1=H'/\b=[some (V.ref a),some (V.str "plus"),none,some (V.ref l)],⟨_,rfl,rfl,_,rfl,bn (fh Qk) ⟨_,rfl,rfl,_,rfl,bn (fh Qk) ⟨rfl,rfl⟩⟩⟩,?_⟩;rintro b H2⟨rfl,rfl⟩;refine⟨λb H'=>H1=H'/\b=[some (V.ref a),some (V.str "+"),none,some (V.ref l)],⟨_,rfl,rfl,_,rfl,fO (qy rfl) ⟨rfl,rfl⟩⟩,?_⟩;rintro b H2⟨rfl,rfl⟩;have xl:("+":Str).length<=5:=Qk;have e1:(" ":Str).length=1:=Qk;have sp:(((" ":Str)++("+":Str))++(" ":Str)).length<=16:=by
    rw[ag,ag];omega
   refine⟨_,rfl,_,_,rfl,rfl,af (show(" ":Str).length +("+":Str).length<=16 by omega) Qd,_,_,rfl,rfl,?_,rfl,_,rfl,_,l,[tx a0,tx t],rfl,rfl,SqL.of gl,sp,Z,_,_,rfl,rfl,?_,_,_,rfl,rfl,?_,q H1 s1⟩
   all_goals rw[ag,ag]at J
   ·rw[ag];exact af (show _<=16 by omega) Qd
   ·exact af (show _<=8000 by omega) Qd
   ·rw[ag];exact af J Qd
  |bin x a0 t=>
   obtain⟨m,a,xs,rfl,rfl,g,G⟩:=pd.tup_of;obtain⟨v1,u,L,rfl,M,p2,O⟩:=j0 G;rw[M.str_is]at g;obtain⟨hx,ta,tb,wa,wb⟩:=X;have N:∀{z:Str},z≠"and"->z≠"or"->x≠z:=λh1 h2=>by rcases hx with rfl|rfl;exact h1.symm;exact h2.symm
   have xl:x.length<=5:=by rcases hx with rfl|rfl<;>decide+kernel
   have d7:x∉gh:=by rcases hx with rfl|rfl<;>decide+kernel
   rw[<-Il]at J q;have xb:1+max (dep a0) (dep t)<=n+1:=hd;have hj:(Str.join (((" ":Str)++x)++(" ":Str)) [tx a0,tx t]).length<=8000:=by
    rw[ag,ag]at J;omega
   have ab:(tx a0).length +(tx t).length<=8000:=by
    rw[cC,cV,ag,ag]at hj;omega
   refine⟨_,rfl,a,_,_,_,rfl,rfl,SqT.of g,rfl,?_⟩;refine⟨_,rfl,rfl,_,rfl,bn (fh (N Qk Qk)) ⟨_,rfl,rfl,_,rfl,bn (fh (N Qk Qk)) ⟨_,rfl,rfl,_,rfl,bn (fh (N Qk Qk)) ⟨_,rfl,rfl,_,rfl,bn (fh (N Qk Qk)) ⟨_,rfl,rfl,_,rfl,bn (fh (N Qk Qk)) ⟨_,rfl,rfl,_,rfl,bn (fh (N Qk Qk)) ?_⟩⟩⟩⟩⟩⟩;refine⟨_,rfl,rfl,_,rfl,bn (fh (N Qk Qk)) ⟨_,rfl,rfl,_,rfl,bn (fh (N Qk Qk)) ?_⟩⟩;refine⟨λb H'=>al H H'/\b=[some (V.ref a),some (V.str x),none,none],?_,?_⟩
   ·refine⟨_,rfl,by show 7<=sizeLine;decide,λq0 R=>?_⟩;have s1:al H (upd H q0 (.lst (gh.map V.str))):=al.new R;exact⟨q0,gh.map V.str,rfl,.inl (SqL.of ak),rfl,em _,_,rfl,bn (by show tR (.str x) (gh.map V.str)=false;rw[im];exact aP d7) ⟨s1,rfl⟩⟩
   rintro b H1⟨s1,rfl⟩;refine⟨λb H'=>al H H'/\∃l,H' l=some (.lst (([tx a0,tx t]:List Str).map V.str))/\b=[some (V.ref a),some (V.str x),none,some (V.ref l)],?_,?_⟩
   ·refine⟨_,rfl,a,_,_,_,rfl,rfl,SqT.of (s1 _ _ g),rfl,u,_,a0,rfl,p2.same s1,wa,Qo,Qo,λH2 B=>⟨_,rfl,a,_,_,_,rfl,rfl,SqT.of ((s1.trans B) _ _ g),rfl,L,_,t,rfl,O.same (s1.trans B),wb,Qo,Qo,λH3 U=>⟨by show 2<=sizeLine;decide,λl xa=>?_⟩⟩⟩;exact⟨(s1.trans B).trans (U.trans (al.new xa)),l,ak,rfl⟩
   clear s1 H1;rintro b H1⟨s1,l,gl,rfl⟩;have Z:(([tx a0,tx t]:List Str).map (·.length)).sum +([tx a0,tx t]:List Str).length<=1048576:=by
    show(tx a0).length +((tx t).length +0)+2<=1048576;omega
   refine⟨_,rfl,rfl,_,rfl,bn (fh (N Qk Qk)) ?_⟩;refine⟨λb H'=>H1=H'/\b=[some (V.ref a),some (V.str x),none,some (V.ref l)],⟨_,rfl,rfl,_,rfl,bn (fh (N Qk Qk)) ⟨_,rfl,rfl,_,rfl,bn (fh (N Qk Qk)) ⟨rfl,rfl⟩⟩⟩,?_⟩;rintro b H2⟨rfl,rfl⟩;refine⟨λb H'=>H1=H'/\b=[some (V.ref a),some (V.str x),none,some (V.ref l)],⟨_,rfl,rfl,_,rfl,bn (fh (N Qk Qk)) ⟨rfl,rfl⟩⟩,?_⟩;rintro b H2⟨rfl,rfl⟩;have e1:(" ":Str).length=1:=Qk;have sp:(((" ":Str)++x)++(" ":Str)).length<=16:=by
    rw[ag,ag];omega
   refine⟨_,rfl,_,_,rfl,rfl,af (show(" ":Str).length +x.length<=16 by omega) Qd,_,_,rfl,rfl,?_,rfl,_,rfl,_,l,[tx a0,tx t],rfl,rfl,SqL.of gl,sp,Z,_,_,rfl,rfl,?_,_,_,rfl,rfl,?_,q H1 s1⟩
   all_goals rw[ag,ag]at J
   ·rw[ag];exact af (show _<=16 by omega) Qd
   ·exact af (show _<=8000 by omega) Qd
   ·rw[ag];exact af J Qd
theorem An(b:∃f fd,fg K "_law_text" "_law_text" s_l_text f fd/\mg "_law_text"=some (.ref f))(T:dF K mg)(cs:dk P w K mg base 1 "_law_set_text" ["_law_told"] qW):∀n:Nat,dk P w K mg base (n+2) "_law_text" ["_law_thing_here"] (uC n)
 |0=>let⟨f,fd,F,m⟩:=b;⟨f,fd,Fc F,m,F.kp,F.binds λ_ _ _ _ _ _ us a=>match us,a with|[_],_=>rfl⟩
 |n+1=>let⟨f,fd,F,m⟩:=b;⟨f,fd,Hd F T cs (An b T cs n),m,F.kp,F.binds λ_ _ _ _ _ _ us a=>match us,a with|[_],_=>rfl⟩
end
structure FQ(K:ah)(mg:Str->Option Value)(ct cc:Addr)(cs:Nat->Addr):Prop where
 m0:mg "NoName"=some (.ref (cs 0))
 m1:mg "Twice"=some (.ref (cs 1))
 m2:mg "SamePlace"=some (.ref (cs 2))
 m3:mg "NoWidth"=some (.ref (cs 3))
 m4:mg "NoTie"=some (.ref (cs 4))
 m5:mg "TooMany"=some (.ref (cs 5))
 m7:mg "NoPlace"=some (.ref (cs 7))
 m8:mg "NoClaim"=some (.ref (cs 8))
 m9:mg "NoLine"=some (.ref (cs 9))
 mc:mg "CourtError"=some (.ref cc)
 val:mg "ValueError"=none
 kit:kA K ct
 k0:bz K (.ref ct) (.ref (cs 0))=some false
 k1:bz K (.ref ct) (.ref (cs 1))=some false
 k2:bz K (.ref ct) (.ref (cs 2))=some false
 k3:bz K (.ref ct) (.ref (cs 3))=some false
 k4:bz K (.ref ct) (.ref (cs 4))=some false
 k5:bz K (.ref ct) (.ref (cs 5))=some false
 k6:bz K (.ref ct) (.ref ct)=some true
 k7:bz K (.ref ct) (.ref (cs 7))=some false
 k8:bz K (.ref ct) (.ref (cs 8))=some false
 k9:bz K (.ref ct) (.ref (cs 9))=some false
 kv:bz K (.ref ct) (.type "ValueError")=some true
 xm:yO K (.ref ct) (.ref cc)=some true
def II(ct:Addr):Sp:=λvs H Q _=>∃(a:Addr),vs=[.ref a,.int 6]/\H a=some (tE a (.ref ct))/\∀H',al H H'->Q (.bl true) H'
theorem uR{K:ah}{H:Hp}{l:Addr}{bs:List Bool}(h:H l=some (.lst (bs.map V.bl))):wM K H 2 (.ref l) (.list (bs.map PyData.bool)):=by
 refine .inl ⟨_,_,SqL.of h,rfl,?_⟩;clear h;induction bs with
 |nil=>exact .nil
 |cons x r a=>exact .cons rfl a
theorem JO:bootBuiltins "ValueError"=some (.type "ValueError"):=Qk
theorem Jx(K:ah):bz K (.type "tuple") (.type "tuple")=some true:=by first|rfl|kernel_rfl
def Gb(ct:Addr)(x:Str)(b:Bool)(f e:V)(H:Hp):Prop:=(oA b x->e=.non/\∃c,PD H (dep c+2) f (dat c)/\wf c/\tx c=x/\dep c<=12)/\(¬oA b x->∃a,e=.ref a/\H a=some (tE a (.ref ct)))
theorem Gb.same{ct:Addr}{x:Str}{b:Bool}{f e:V}{H H':Hp}(h:Gb ct x b f e H)(s:al H H'):Gb ct x b f e H':=
 ⟨λz=>let⟨h1,c,h2,d⟩:=h.1 z;⟨h1,c,PD.same s h2,d⟩,λz=>let⟨a,h1,h2⟩:=h.2 z;⟨a,h1,s _ _ h2⟩⟩
def F1(ct:Addr):Sp:=λvs H Q _=>∃(x:Str)(b:Bool),vs=[.str x,.bl b]/\okX x/\x.length<=2660/\∀f e H' p,al H H'->Gb ct x b f e H'->H' p=some (.tup [f,e])->Q (.ref p) H'
def F0:Sp:=λvs H Q _=>∃(x:Str),vs=[.str x]/\okX x/\x.length<=2660/\wt x.cps.toList<650/\∀H',al H H'->Q (.bl true) H'
def kOf(o:Option mG):Option Bool:=match o with
 |none=>none
 |some q=>if q.2.2=[]/\q.2.1<=12 then some q.1 else none
theorem Ft{x:Str}{b:Bool}:(kOf (fullOf (thE (x.length+1)) x.cps.toList)=some (!b))↔oA b x:=by
 rw[A_ (n:=x.length+1) (f7 _)];cases h:fullOf (thE (x.length+1)) x.cps.toList with
 |none=>exact⟨(λz=>nomatch z),(λ⟨_,_,z⟩=>nomatch z)⟩
 |some q=>
  obtain⟨t,d,r⟩:=q;show(if r=[]/\d<=12 then some t else none)=some (!b)↔_;constructor
  ·intro z;by_cases a:r=[]/\d<=12
   ·rw[aO a]at z;refine⟨d,a.2,?_⟩;rw[a.1,Option.some.inj z]
   ·rw[aG a]at z;cases z
  ·rintro⟨d',hd,e⟩;cases e;rw[aO ⟨rfl,hd⟩]
section
variable{P:Program}{w:World}{K:ah}{mg:Str->Option Value}{base:Heap}{ct cc:Addr}{cs:Nat->Addr}
theorem uN:bD ["_law_caught_here","_law_at","_law_told"] ["_law_caught_here","_law_at"] (aU s_l_is):=⟨rfl,rfl,rfl,Qk,rfl,Qk,Qk⟩
theorem Jg{f:Addr}{fd:FuncData}(F:fg K "_law_is" "_law_is" s_l_is f fd)(T:dF K mg)(R:yL K mg ct)(R2:FQ K mg ct cc cs):FnOk P w K mg base gW 1 f fd ["_law_caught_here","_law_at"] (II ct):=by
 refine F.ok uN (λvs H Q E h=>?_) (λZ A outer s H vs Q E hr h=>?_)
 ·obtain⟨a,rfl,_⟩:=h;rfl
 ·obtain⟨a,rfl,d,q⟩:=h;have hu:=hr.units;have g0:fS mg "NoName" (.ref (cs 0)):=⟨_,R2.m0,rfl⟩;have g1:fS mg "Twice" (.ref (cs 1)):=⟨_,R2.m1,rfl⟩;have g2:fS mg "SamePlace" (.ref (cs 2)):=⟨_,R2.m2,rfl⟩;have g3:fS mg "NoWidth" (.ref (cs 3)):=⟨_,R2.m3,rfl⟩;have g4:fS mg "NoTie" (.ref (cs 4)):=⟨_,R2.m4,rfl⟩;have g5:fS mg "TooMany" (.ref (cs 5)):=⟨_,R2.m5,rfl⟩;have g6:fS mg "NoText" (.ref ct):=⟨_,R.mt,rfl⟩;have g7:fS mg "NoPlace" (.ref (cs 7)):=⟨_,R2.m7,rfl⟩;have g8:fS mg "NoClaim" (.ref (cs 8)):=⟨_,R2.m8,rfl⟩;have g9:fS mg "NoLine" (.ref (cs 9)):=⟨_,R2.m9,rfl⟩;refine⟨_,(aw (aY (i:=2) uN.nd rfl (aN rfl) (cA (aa (bP dS Qr T.isi jL (aa (pv 0) (aa (cN g0 Qr) ac))) (aa (bP dS Qr T.isi jL (aa (pv 0) (aa (cN g1 Qr) ac))) (aa (bP dS Qr T.isi jL (aa (pv 0) (aa (cN g2 Qr) ac))) ac)))))
   (aw (aY (i:=2) uN.nd rfl (aN rfl) (aF eR (pv 2) (cA (aa (bP dS Qr T.isi jL (aa (pv 0) (aa (cN g3 Qr) ac))) (aa (bP dS Qr T.isi jL (aa (pv 0) (aa (cN g4 Qr) ac))) (aa (bP dS Qr T.isi jL (aa (pv 0) (aa (cN g5 Qr) ac))) ac))))))
   (aw (aY (i:=2) uN.nd rfl (aN rfl) (aF eR (pv 2) (cA (aa (bP dS Qr T.isi jL (aa (pv 0) (aa (cN g6 Qr) ac))) (aa (bP dS Qr T.isi jL (aa (pv 0) (aa (cN g7 Qr) ac))) (aa (bP dS Qr T.isi jL (aa (pv 0) (aa (cN g8 Qr) ac))) ac))))))
   (aw (aY (i:=2) uN.nd rfl (aN rfl) (aF eR (pv 2) (cA (aa (bP dS Qr T.isi jL (aa (pv 0) (aa (cN g9 Qr) ac))) ac))))
   (aw (bA (aI (CC hu) (pv 2) (kq (N:=["_law_k","_law_at"]) (xs:=1) (js:=[1]) rfl (dD rfl) (iC rfl T.range (aa ai ac))
     (λ_ _ _ _=>db (i:=0) (show List.Nodup (["_law_k","_law_at"]:List Str)by decide+kernel) rfl (aN rfl)) (λ_ _ _ _=>jI) (λ_ _ _ _=>kr b4 (pv 0) (pv 1) (aS _))) (aS _))
    (am (aR i6)) aW)
   (am (aR (IX (xN (kr b4 (pv 1) ai (aS _)) (sP (GS (GU (pv 0))))) (sP (bP qA Qr T.isi jL (aa (pv 0) (aa (zL R2.val Qr JO) ac)))))))))))),?_⟩
  refine⟨_,rfl,a,_,_,_,rfl,d,R2.kit,R2.k0,_,rfl,a,_,_,_,rfl,d,R2.kit,R2.k1,_,rfl,a,_,_,_,rfl,d,R2.kit,R2.k2,(by show 3<=sizeLine;decide),λk M=>?_⟩;have s1:al H (upd H k (.lst ([false,false,false].map V.bl))):=al.new M;have W:(upd H k (.lst ([false,false,false].map V.bl))) k=some (.lst ([false,false,false].map V.bl)):=ak;change BF _ _ _ _ (upd H k (.lst ([false,false,false].map V.bl)));generalize upd H k (.lst ([false,false,false].map V.bl))=H1 at s1 W;have L:=s1 _ _ d;refine⟨_,rfl,_,rfl,a,_,_,_,rfl,L,R2.kit,R2.k3,_,rfl,a,_,_,_,rfl,L,R2.kit,R2.k4,_,rfl,a,_,_,_,rfl,L,R2.kit,R2.k5,(by show 3<=sizeLine;decide),λl m=>?_⟩;refine⟨k,l,_,_,rfl,rfl,(al.new m) _ _ W,ak,(by show 3+3<=sizeLine;decide),λe D=>?_⟩;have J:al H (upd (upd H1 l (.lst ([false,false,false].map V.bl))) e (.lst ([false,false,false,false,false,false].map V.bl))):=(s1.upd m).upd D;have U:(upd (upd H1 l (.lst ([false,false,false].map V.bl))) e (.lst ([false,false,false,false,false,false].map V.bl))) e=some (.lst ([false,false,false,false,false,false].map V.bl)):=ak;change BF _ _ _ _ (upd (upd H1 l (.lst ([false,false,false].map V.bl))) e (.lst ([false,false,false,false,false,false].map V.bl)));generalize upd (upd H1 l (.lst ([false,false,false].map V.bl))) e (.lst ([false,false,false,false,false,false].map V.bl))=H3 at J U;have C:=J _ _ d;refine⟨_,rfl,_,rfl,a,_,_,_,rfl,C,R2.kit,R2.k6,_,rfl,a,_,_,_,rfl,C,R2.kit,R2.k7,_,rfl,a,_,_,_,rfl,C,R2.kit,R2.k8,(by show 3<=sizeLine;decide),λu t=>?_⟩;refine⟨e,u,_,_,rfl,rfl,(al.new t) _ _ U,ak,(by show 6+3<=sizeLine;decide),λg z=>?_⟩;have G:al H (upd (upd H3 u (.lst ([true,false,false].map V.bl))) g (.lst ([false,false,false,false,false,false,true,false,false].map V.bl))):=(J.upd t).upd z;have S:(upd (upd H3 u (.lst ([true,false,false].map V.bl))) g (.lst ([false,false,false,false,false,false,true,false,false].map V.bl))) g=some (.lst ([false,false,false,false,false,false,true,false,false].map V.bl)):=ak;change BF _ _ _ _ (upd (upd H3 u (.lst ([true,false,false].map V.bl))) g (.lst ([false,false,false,false,false,false,true,false,false].map V.bl)));generalize upd (upd H3 u (.lst ([true,false,false].map V.bl))) g (.lst ([false,false,false,false,false,false,true,false,false].map V.bl))=H5 at G S;have a5:=G _ _ d;refine⟨_,rfl,_,rfl,a,_,_,_,rfl,a5,R2.kit,R2.k9,(by show 1<=sizeLine;decide),λx v=>?_⟩;refine⟨g,x,_,_,rfl,rfl,(al.new v) _ _ S,ak,(by show 9+1<=sizeLine;decide),λy B=>?_⟩;have I:al H (upd (upd H5 x (.lst ([false].map V.bl))) y (.lst ([false,false,false,false,false,false,true,false,false,false].map V.bl))):=(G.upd v).upd B;have Y:(upd (upd H5 x (.lst ([false].map V.bl))) y (.lst ([false,false,false,false,false,false,true,false,false,false].map V.bl))) y=some (.lst ([false,false,false,false,false,false,true,false,false,false].map V.bl)):=ak;change BF _ _ _ _ (upd (upd H5 x (.lst ([false].map V.bl))) y (.lst ([false,false,false,false,false,false,true,false,false,false].map V.bl)));generalize upd (upd H5 x (.lst ([false].map V.bl))) y (.lst ([false,false,false,false,false,false,true,false,false,false].map V.bl))=H7 at I Y;have a7:=I _ _ d;refine⟨_,rfl,10,rfl,Qd,Qd,ky (n:=(10:Int).toNat) (λi c b H'=>i<=10/\H'=H7/\c=((List.range i).map λ(j:Nat)=>decide (V.int (0+(j:Int))=V.int 6)).map V.bl/\∃o,b=[o,some (.int 6)])
   ⟨bV _,rfl,rfl,none,rfl⟩ (λi c b H' h=>?_) Qd (λi c b H' hi h=>?_) (λc b H' h p X=>?_)⟩
  ·obtain⟨_,_,rfl,_⟩:=h;simp
  ·obtain⟨h0,rfl,rfl,o,rfl⟩:=h;have O:i<10:=hi;refine⟨_,rfl,_,rfl,rfl,Qo,rfl,?_,_,rfl⟩;rw[List.range_succ,aT,aT];rfl
  obtain⟨_,rfl,rfl,o,rfl⟩:=h;have sp:=I.upd (o:=.lst (((List.range (10:Int).toNat).map λ(j:Nat)=>decide (V.int (0+(j:Int))=V.int 6)).map V.bl)) X;have ap:=sp _ _ d;refine⟨2,_,_,Qd,uR ((al.new X) _ _ Y),uR ak,_,rfl,bn Qk ?_⟩;exact⟨_,rfl,rfl,false,rfl,eZ ⟨false,rfl,eZ ⟨_,rfl,a,_,_,_,rfl,ap,R2.kit,R2.kv,q _ sp⟩⟩⟩
abbrev LM:List Str:=["_law_text_here","_law_claim_due","_law_found","_law_caught_here","e"]
theorem pM:bD LM ["_law_text_here","_law_claim_due"] (aU s_l_caught):=⟨rfl,rfl,rfl,Qk,rfl,Qk,Qk⟩
theorem Jk{f:Addr}{fd:FuncData}(F:fg K "_law_caught" "_law_caught" s_l_caught f fd)(R2:FQ K mg ct cc cs)(J:dE P w K mg base 70 "read_claim" ["text"] (si ct (i9 (bx 12))))(L:dE P w K mg base 70 "read_term" ["text"] (si ct (gx (bx 12)))):FnOk P w K mg base gW 71 f fd ["_law_text_here","_law_claim_due"] (F1 ct):=by
 refine F.ok pM (λvs H Q E h=>?_) (λG A outer s H vs Q E B h=>?_)
 ·obtain⟨x,b,rfl,_⟩:=h;rfl
 ·obtain⟨x,b,rfl,y,M,q⟩:=h;refine⟨_,(aw (aY (i:=2) pM.nd rfl (aN rfl) Cv)
   (aw (aY (i:=3) pM.nd rfl (aN rfl) Cv)
   (aw (Co (i:=4) rfl rfl pM.nd rfl rfl Qr R2.mc (GO (fe (pv 1)) (zK (i:=2) pM.nd rfl (aN rfl) (pR J B Qr (aa (pv 0) ac))) (zK (i:=2) pM.nd rfl (aN rfl) (pR L B Qr (aa (pv 0) ac)))) (λv=>(am (aY (i:=3) pM.nd rfl (aN rfl) (pv 4)))))
   (am (aR (cM (aa (pv 2) (aa (pv 3) ac)))))))),?_⟩
  have g:∀c d,rdB b (dC x)=some (c,d)->wf c/\dY c=(!b)/\dep c<=25/\okX (tx c):=λc d e=>GJ M e;have key:∀(c:Cl)(d:List Str),rdB b (dC x)=some (c,d)->tx c=x->dep c<=12->oA b x:=λc d e h1 h2=>⟨c,(g c d e).1,(g c d e).2.1,h2,h1⟩;have u:(∀c d,rdB b (dC x)=some (c,d)->¬(tx c=x/\dep c<=12))->¬oA b x:=λz=>by
   rintro⟨c,h1,h2,D,C⟩;have:=GI h1 h2 D;rw[C]at this;exact z c [] this ⟨C,D⟩
  have l:∀c d,rdB b (dC x)=some (c,d)->tx c=x->dep c<=12->∀v H',al H H'->gO (λp=>H p=none) H' v c->∀t,H' t=none->Q (.ref t) (upd H' t (.tup [v,.non])):=λc d e h1 h2 v H' s' k t j=>by
   have m:al H' (upd H' t (.tup [v,.non])):=al.new j;exact q v .non _ t (s'.trans m) ⟨λ_=>⟨rfl,c,PD.same m (PDF.pd k),(g c d e).1,h1,h2⟩,λz=>absurd (key c d e h1 h2) z⟩ ak
  have o:(∀c d,rdB b (dC x)=some (c,d)->¬(tx c=x/\dep c<=12))->∀a H',al H H'->H' a=some (tE a (.ref ct))->∀t,H' t=none->Q (.ref t) (upd H' t (.tup [.non,.ref a])):=λz a H' s' n t j=>by
   have m:al H' (upd H' t (.tup [.non,.ref a])):=al.new j;exact q .non (.ref a) _ t (s'.trans m) ⟨λI=>absurd I (u z),λ_=>⟨a,rfl,m _ _ n⟩⟩ ak
  cases b with
  |true=>
   refine⟨_,rfl,_,rfl,eT ⟨_,rfl,x,rfl,y,λc d e=>⟨(g c d e).1,(g c d e).2.2⟩,λc d e h1 h2 v H' s' k=>?_,λz H' s'=>⟨R2.xm,λa n=>?_⟩⟩⟩
   ·exact⟨_,rfl,_,rfl,(by show 2<=sizeLine;decide),λt j=>l c d e h1 h2 v H' s' k t j⟩
   ·exact⟨_,rfl,_,rfl,_,rfl,(by show 2<=sizeLine;decide),λt j=>o z a _ (s'.upd n) ak t j⟩
  |false=>
   refine⟨_,rfl,_,rfl,eZ ⟨_,rfl,x,rfl,y,λc d e=>⟨(g c d e).1,(g c d e).2.2⟩,λc d e h1 h2 v H' s' k=>?_,λz H' s'=>⟨R2.xm,λa n=>?_⟩⟩⟩
   ·exact⟨_,rfl,_,rfl,(by show 2<=sizeLine;decide),λt j=>l c d e h1 h2 v H' s' k t j⟩
   ·exact⟨_,rfl,_,rfl,_,rfl,(by show 2<=sizeLine;decide),λt j=>o z a _ (s'.upd n) ak t j⟩
abbrev LH:List Str:=["_law_text_here","_law_kind","_law_depth","_law_end","_law_claim","_law_refusal","_law_term","_law_other","_law_due","_law_found","_law_caught_here"]
theorem kJ:bD LH ["_law_text_here"] (aU s_l_judged):=⟨rfl,rfl,rfl,Qk,rfl,Qk,Qk⟩
theorem Jf{f:Addr}{fd:FuncData}(F:fg K "_law_judged" "_law_judged" s_l_judged f fd)(T:dF K mg)(cf:dk P w K mg base 655 "_law_full" ["_law_text_here","_law_at"] (jb (λn=>fullOf (thE n)) 0 650))(cu:dk P w K mg base 71 "_law_caught" ["_law_text_here","_law_claim_due"] (F1 ct))(cx:dk P w K mg base 14 "_law_text" ["_law_thing_here"] (uC 12))(ci:dk P w K mg base 1 "_law_is" ["_law_caught_here","_law_at"] (II ct)):FnOk P w K mg base gW 656 f fd ["_law_text_here"] F0:=by
 refine F.ok kJ (λvs H Q E h=>?_) (λxd A outer s H vs Q E hr h=>?_)
 ·obtain⟨x,rfl,_⟩:=h;rfl
 ·obtain⟨x,rfl,hx,hl,xb,q⟩:=h;have r1:cF 1 _:=hr.mono Qd;have xc:cF 14 _:=hr.mono Qd;have W:cF 71 _:=hr.mono Qd;refine⟨_,(aw (sN (aJ cf hr Qr (aa (pv 0) (aa ai ac))) (sO rfl (gU (db (i:=1) kJ.nd rfl (aN rfl)) (gU (db (i:=2) kJ.nd rfl (aN rfl)) (gU (db (i:=3) kJ.nd rfl (aN rfl)) oQ)))))
   (aQ (bA (PW.pt (eQ (aI fc (pv 3) (bP cP Qr T.len gc (aa (pv 0) ac)) (aS _)) (dU (aI mY (pv 2) ai (aS _))))) (am (aY (i:=1) kJ.nd rfl (aN rfl) ad)) aW)
   (aQ (sN (aJ cu W Qr (aa (pv 0) (aa i6 ac))) (sO rfl (gU (db (i:=4) kJ.nd rfl (aN rfl)) (gU (db (i:=5) kJ.nd rfl (aN rfl)) oQ))))
   (aQ (sN (aJ cu W Qr (aa (pv 0) (aa i6 ac))) (sO rfl (gU (db (i:=6) kJ.nd rfl (aN rfl)) (gU (db (i:=7) kJ.nd rfl (aN rfl)) oQ))))
   (aw (mr PassesOwn.never rfl (mW (cA (aa (cM (aa ad (aa (pv 4) (aa (pv 5) ac)))) (aa (cM (aa ad (aa (pv 6) (aa (pv 7) ac)))) ac)))) (sO rfl (gU (db (i:=8) kJ.nd rfl (aN rfl)) (gU (db (i:=9) kJ.nd rfl (aN rfl)) (gU (db (i:=10) kJ.nd rfl (aN rfl)) oQ))))
     (am (bA (aI b4 (pv 1) (pv 8) (aS _)) (am (bA (PW.pt (eQ (sL (EX (pv 10))) (eQ (ij (fe (bP lE Qr T.isi jL (aa (pv 9) (aa (zL T.tuple Qr tL) ac))))) (dU (aI fc (aJ cx xc Qr (aa (pv 9) ac)) (pv 0) (aS _)))))) (am (aR i6)) aW)) (am (bA (ij (fe (aJ ci r1 Qr (aa (pv 10) (aa ai ac))))) (am (aR i6)) aW)))))
   (am (aR i6))))))),?_⟩
  refine⟨_,rfl,x,x.cps.toList,x.length+1,by rw[EO];rfl,gw.all x,Qo,by rw[bQ];omega,xb,λH1 p s1 U=>?_⟩;have U:H1 p=some (.tup (RT x (fullOf (thE (x.length+1)) x.cps.toList))):=U;have kc:∀b,kOf (fullOf (thE (x.length+1)) x.cps.toList)=some (!b)↔oA b x:=λb=>Ft;have rest:∀r:List Nat,(∃t d,fullOf (thE (x.length+1)) x.cps.toList=some (t,d,r))->r.length<=x.length:=λr⟨t,d,e⟩=>by
   obtain⟨pr,j⟩:=nY e;have u:=bL List.length j;rw[ae,bQ]at u;have u:x.length=pr.length+r.length:=u;omega
  generalize fullOf (thE (x.length+1)) x.cps.toList=o at U kc rest;obtain⟨kd,dd,I,eo,hk⟩:∃(kd:Option Bool)(dd I:Int),RT x o=[.str (jQ kd),.int dd,.int I]/\kOf o=(if(!decide (V.int I=V.int x.length)||decide (12<dd))=true then none else kd):=by
   cases o with
   |none=>exact⟨none,0,0,rfl,by split<;>rfl⟩
   |some o=>
    obtain⟨t,d,r⟩:=o;have xf:=rest r ⟨t,d,rfl⟩;refine⟨some t,d,pos x r,rfl,?_⟩;show(if r=[]/\d<=12 then some t else none)=_;have j:decide (V.int (pos x r)=V.int x.length)=decide (r=[]):=by
     rw[be,aD,aD];constructor
     ·intro z;injection z with z
      unfold pos at z;exact f8.mp Qo
     ·intro z;rw[z];unfold pos;simp
    have u:decide ((12:Int)<(d:Int))=decide (12<d):=by
     rw[be,aD,aD];omega
    rw[j,u];by_cases h1:r=[]
    ·by_cases h2:d<=12
     ·rw[aO ⟨h1,h2⟩,aH h1,aP (by omega:¬12<d)];rfl
     ·rw[aG (λz=>h2 z.2),aH (by omega:12<d),iX,aO rfl]
    ·rw[aG (λz=>h1 z.1),aP h1];rfl
  rw[eo]at U;refine⟨p,_,rfl,SqT.of U,rfl,_,_,rfl,_,_,rfl,_,_,rfl,rfl,?_⟩;refine⟨λg H'=>al H H'/\g=[some (.str x),some (.str (jQ (kOf o))),some (.int dd),some (.int I),none,none,none,none,none,none,none],?_,?_⟩
  ·refine ck (b:=!decide (V.int I=V.int x.length)||decide (12<dd)) (Ev.or (λQ k=>⟨_,rfl,_,rfl,x,rfl,cY Qo,rfl,_,rfl,k _ (al.refl _)⟩) (λ_ H3 s3=>λQ k=>⟨_,rfl,_,_,rfl,rfl,_,rfl,k _ (al.refl _)⟩)) (λhb H2 X=>?_) (λhb H2 X=>?_)
   ·rw[hb,aO rfl]at hk;rw[hk];exact⟨s1.trans X,rfl⟩
   ·rw[hb,aG ba]at hk;rw[hk];exact⟨s1.trans X,rfl⟩
  rintro _ H2⟨X,rfl⟩;refine⟨λg H'=>al H H'/\∃B j,Gb ct x true B j H'/\g=[some (.str x),some (.str (jQ (kOf o))),some (.int dd),some (.int I),some B,some j,none,none,none,none,none],?_,?_⟩
  ·exact⟨_,rfl,x,true,rfl,hx,hl,λB j H3 p3 s3 c3 h3=>⟨p3,_,rfl,SqT.of h3,rfl,_,_,rfl,_,_,rfl,rfl,X.trans s3,B,j,c3,rfl⟩⟩
  rintro _ H3⟨s3,B,j,R,rfl⟩;refine⟨λg H'=>al H H'/\∃C u,Gb ct x true B j H'/\Gb ct x false C u H'/\g=[some (.str x),some (.str (jQ (kOf o))),some (.int dd),some (.int I),some B,some j,some C,some u,none,none,none],?_,?_⟩
  ·exact⟨_,rfl,x,false,rfl,hx,hl,λC u O p4 s4 c4 h4=>⟨p4,_,rfl,SqT.of h4,rfl,_,_,rfl,_,_,rfl,rfl,s3.trans s4,C,u,R.same s4,c4,rfl⟩⟩
  rintro _ O⟨s4,C,u,R,c2,rfl⟩;refine⟨_,rfl,_,rfl,(by show 3<=sizeLine;decide),λD xa=>⟨_,rfl,_,rfl,(by show 3<=sizeLine;decide),λG Y=>⟨(by show 2<=sizeLine;decide),λl L=>?_⟩⟩⟩;have u1:al O (upd O D (.tup [.str "c",B,j])):=al.new xa;have g1:(upd O D (.tup [.str "c",B,j])) D=some (.tup [.str "c",B,j]):=ak;generalize upd O D (.tup [.str "c",B,j])=H5 at u1 g1 Y L;have S:al H5 (upd H5 G (.tup [.str "t",C,u])):=al.new Y;have g2:(upd H5 G (.tup [.str "t",C,u])) G=some (.tup [.str "t",C,u]):=ak;generalize upd H5 G (.tup [.str "t",C,u])=H6 at S g2 L;have M:al H6 (upd H6 l (.lst [.ref D,.ref G])):=al.new L;have g3:(upd H6 l (.lst [.ref D,.ref G])) l=some (.lst [.ref D,.ref G]):=ak;generalize upd H6 l (.lst [.ref D,.ref G])=H7 at M g3;have s7:al H H7:=s4.trans (u1.trans (S.trans M));have R:=R.same (u1.trans (S.trans M));have c2:=c2.same (u1.trans (S.trans M));have g1:=M _ _ (S _ _ g1);have g2:=M _ _ g2;refine⟨l,rfl,⟨_,SqL.of g3⟩,qg (K:=K) (xs:=[.ref D,.ref G]) (λi g H'=>al H7 H'/\∃o8 o9 J,g=[some (.str x),some (.str (jQ (kOf o))),some (.int dd),some (.int I),some B,some j,some C,some u,o8,o9,J]) ⟨al.refl _,_,_,_,rfl⟩ (λi g H' _ h=>SqL.of (h.1 _ _ g3)) (λi v g H' N h=>?_) (λg H' h=>?_)⟩
  ·obtain⟨s',o8,o9,J,rfl⟩:=h;obtain⟨t,b,f,e,rfl,ht,Z⟩:∃t b f e,v=.ref t/\H7 t=some (.tup [.str (jQ (some (!b))),f,e])/\Gb ct x b f e H7:=by
    match i,N with
    |0,N=>cases N;exact⟨D,true,B,j,rfl,g1,R⟩
    |1,N=>cases N;exact⟨G,false,C,u,rfl,g2,c2⟩
   have Z:=Z.same s';refine⟨t,_,rfl,SqT.of (s' _ _ ht),rfl,_,_,rfl,_,_,rfl,_,_,rfl,rfl,?_⟩;refine⟨_,rfl,_,rfl,rfl,_,rfl,?_⟩;rw[lu];by_cases y:oA b x
   ·rw[aH ((kc b).mpr y)];obtain⟨rfl,c,pd,wc,et,hd⟩:=Z.1 y;obtain⟨a4,xe,e4,h4⟩:∃a xs,f=.ref a/\H' a=some (.tup xs):=by
     have p4:=pd;rw[Ak]at p4;obtain⟨m,a,xs,_,e,ha,_⟩:=p4.tup_of;exact⟨a,xs,e,ha⟩
    have xg:=et;refine eT ⟨_,rfl,_,rfl,bn Qr ⟨_,rfl,_,"tuple",_,true,rfl,?_,Jx K,_,rfl,eZ ⟨_,rfl,f,_,c,rfl,pd,wc,hd,by rw[et];omega,λH8 s8=>⟨_,rfl,rfl,_,rfl,?_⟩⟩⟩⟩
    ·rw[e4];exact .tup h4
    ·rw[et];exact bn Qs ⟨s'.trans s8,_,_,_,rfl⟩
   ·rw[aP (λz=>y ((kc b).mp z))];obtain⟨a,rfl,ha⟩:=Z.2 y;exact eZ ⟨_,rfl,a,rfl,ha,λH8 s8=>⟨_,rfl,eZ ⟨s'.trans s8,_,_,_,rfl⟩⟩⟩
  ·obtain⟨s',o8,o9,J,rfl⟩:=h;exact q H' (s7.trans s')
end
end Net
namespace L2
open PySem PySem.Spec PyProof.Rows
theorem b9{X:Cx}{c:Const}{k:Nat}{pos:Pos}{es:List Expr}{te:TE}{t:TA}(a:PE X (.Constant c k pos) te)(b:PA X es t):PA X (.Constant c k pos::es) (uA te t):=aa a b
end L2
namespace Net
open PySem L2 L2.Tx
structure Tx8(x:Str)(L a b:Nat):Prop where
 len:x.length<=L
 asc:∀c∈x.cps.toList,c<128
 one:w1 x.cps.toList<=a
 two:w2 x.cps.toList<=b
def Hn(x:Str):Prop:=¬qb x.cps.toList
def Hs(x:Str):Prop:=∃c r,x.cps.toList=c::r/\c≠32/\c≠116
theorem Hs.hn{x:Str}(h:Hs x):Hn x:=by
 obtain⟨c,r,e,a,hd⟩:=h;unfold Hn;rw[e];rintro(z|z)
 ·exact a (by injection z)
 ·have:=bL List.head? z;have this:some c=some 116:=by simpa using this
  exact hd (by injection this)
theorem Hs.app{x:Str}(h:Hs x)(y:Str):Hs (x++y):=by
 obtain⟨c,r,e,a⟩:=h;exact⟨c,r++y.cps.toList,by rw[bC,e];rfl,a⟩
theorem gE{x:Str}{c:Nat}(h:x.cps.toList.head?=some c)(a:c≠32/\c≠116):Hs x:=by
 cases e:x.cps.toList with
 |nil=>rw[e]at h;cases h
 |cons d r=>
  rw[e]at h;have h:some d=some c:=h;have h:d=c:=by injection h
  exact⟨d,r,e,Qo,Qo⟩
def Gn(x:Str)(L a b:Nat):Bool:=decide (x.length<=L)&&(x.cps.toList.all λc=>decide (c<128))&&decide (w1 x.cps.toList<=a)&&decide (w2 x.cps.toList<=b)
theorem tx8_of{x:Str}{L a b:Nat}(h:Gn x L a b=true):Tx8 x L a b:=by
 unfold Gn at h;simp only[bc,aD,bw]at h;exact⟨h.1.1.1,h.1.1.2,h.1.2,h.2⟩
theorem Tx8.mono{x:Str}{L a b c d e:Nat}(h:Tx8 x L a b)(h1:L<=c)(h2:a<=d)(f:b<=e):Tx8 x c d e:=⟨af h.len h1,h.asc,af h.one h2,af h.two f⟩
theorem Tx8.any{x y:Str}{L a b e f g k:Nat}(h:Tx8 x L a b)(h':Tx8 y e f g)(i:(if qb y.cps.toList then 1 else 0)<=k):Tx8 (x++y) (L+e) (a+f) (b+g+k):=by
 refine⟨?_,λc d=>?_,?_,?_⟩
 ·rw[ag];have:=h.len;have:=h'.len;omega
 ·rw[bC]at d;rcases bY.mp d with d|d
  ·exact h.asc c d
  ·exact h'.asc c d
 ·rw[bC,kh];have:=h.one;have:=h'.one;omega
 ·rw[bC];have:=wU x.cps.toList y.cps.toList;have:=h.two;have:=h'.two;omega
theorem Tx8.app{x y:Str}{L a b c d e:Nat}(h:Tx8 x L a b)(h':Tx8 y c d e):Tx8 (x++y) (L+c) (a+d) (b+e+1):=h.any h' (by split<;>decide)
theorem Tx8.appN{x y:Str}{L a b c d e:Nat}(h:Tx8 x L a b)(h':Tx8 y c d e)(n:Hn y):Tx8 (x++y) (L+c) (a+d) (b+e):=h.any (k:=0) h' (by rw[aG n];exact ao _)
theorem Tx8.appE{x y:Str}{L a b c d e:Nat}(h:Tx8 x L a b)(h':Tx8 y c d e)(n:Hu x.cps.toList=true):Tx8 (x++y) (L+c) (a+d) (b+e):=by
 have:=h.app h';refine⟨this.len,this.asc,this.one,?_⟩;rw[bC,By n];have:=h.two;have:=h'.two;omega
theorem Hn.app{x y:Str}(h:Hn x)(h':Hn y):Hn (x++y):=by
 unfold Hn qb at*;rw[bC];cases e:x.cps.toList with
 |nil=>exact h'
 |cons c r=>
  rw[e]at h;rintro(z|z)
  ·exact h (.inl z)
  ·cases r with
   |nil=>
    apply h';refine .inl ?_;cases e2:y.cps.toList with
    |nil=>rw[e2]at z;simp at z
    |cons d a=>
     rw[e2]at z;simp at z;show some d=some 32;rw[z.2]
   |cons d r=>exact h (.inr z)
theorem Hn.lit{x:Str}{c:Nat}(h:x.cps.toList.head?=some c)(a:c≠32/\c≠116)(y:Str):Hn (x++y):=((gE h a).app y).hn
theorem FW{l:List Nat}(h:∀c∈l,c≠32):w2 l=0:=by
 induction l with
 |nil=>rfl
 |cons a r b=>
  show(if a=111/\r.take 2=[116,32]then 1 else 0)+w2 r=0;rw[b λc d=>h c (aB _ d),aG];rintro⟨_,z⟩;have e:32∈r.take 2:=by rw[z];simp
  exact h 32 (aB _ (g_ e)) rfl
theorem Cs{x:Str}(h:∀c∈x.cps.toList,wS c=0/\c≠32/\c<128):Tx8 x x.length 0 0/\Hn x:=by
 refine⟨⟨ao _,λc a=>(h c a).2.2,?_,gv (FW λc a=>(h c a).2.1)⟩,?_⟩
 ·unfold w1;generalize x.cps.toList=l at h;induction l with
  |nil=>exact ao _
  |cons c r b=>
   rw[b7,gF,(h c aA).1];have:=b λc a=>h c (aB _ a);omega
 ·unfold Hn;rintro(z|z)
  ·exact(h 32 (List.mem_of_mem_head? z)).2.1 rfl
  ·have d:32∈x.cps.toList.take 2:=by rw[z];simp
   exact(h 32 (g_ d)).2.1 rfl
theorem vD{x:Str}(h:okN x=true)(d:x.length<=12):Tx8 x 12 0 0/\Hn x:=by
 obtain⟨a,b⟩:=Cs (x:=x) λc e=>by
  have:=sU h c e;unfold gY cO bS at this;simp only[eV,bc,aD]at this;unfold wS;rw[aG Qo,aG Qo,aG Qo];omega
 exact⟨a.mono d (ao _) (ao _),b⟩
theorem Hk{n:Int}(h:qP n):Tx8 (numT n) 61 0 0/\Hs (numT n):=by
 have d:=sW h.1;obtain⟨a,b⟩:=Cs (x:=numT n) λc g=>by
  have:=d c g;unfold fW at this;simp only[eV,bc,aD]at this;unfold wS;rw[aG Qo,aG Qo,aG Qo];omega
 refine⟨a.mono ?_ (ao _) (ao _),?_⟩
 ·rw[<-bQ];exact(sV h.1).2
 ·clear b;cases e:(numT n).cps.toList with
  |nil=>
   have:=h.1;rw[e]at this;exact absurd this Qd
  |cons c r=>
   have f:=d c (by rw[e];exact aA);unfold fW at f;simp only[eV,bc,aD]at f;exact⟨c,r,e,Qo,Qo⟩
theorem JA{ns:List Str}(h:∀x∈ns,okN x=true/\x.length<=12):Tx8 (Str.join ", " ns) (14*ns.length-2) 0 0/\Hn (Str.join ", " ns):=by
 induction ns with
 |nil=>exact⟨tx8_of Qk,by unfold Hn;decide+kernel⟩
 |cons x r c=>
  obtain⟨h1,h2⟩:=vD (h x aA).1 (h x aA).2;cases r with
  |nil=>
   rw[cV];exact⟨h1.mono (by show 12<=14*1-2;decide) (ao _) (ao _),h2⟩
  |cons y r=>
   obtain⟨d,a⟩:=c λz f=>h z (aB _ f);have e:Tx8 ", " 2 0 0:=tx8_of Qk;have b:Hn ", ":=by unfold Hn;decide+kernel
   rw[cC];refine⟨(h1.appN (e.appN d a) (b.app a)).mono ?_ Qo Qo,h2.app (b.app a)⟩;simp only[aK];omega
structure Ig(ws:List Str):Prop where
 len:ws.length=4
 ok:∀x∈ws,hJ x=true
def iZ:List Str:=["all","from","to","in","and","or","not","ring","size","each","X","Y"]
def oF:List Str:=["QQ","ABD","Z"]
theorem Ck:∀x∈iZ,okN x=true/\x.length<=12:=Qk
theorem EL:∀x∈oF,okN x=true/\x.length<=12:=Qk
theorem Hj{i:Int}(h1:-(10^60)<i)(h2:i<10^60):gn (numT i).cps.toList=true/\i_ (numT i).cps.toList=i:=by
 have hn:i.natAbs<10^60:=Qo;cases i with
 |ofNat m=>
  show gn (numT (m:Int)).cps.toList=true/\i_ (numT (m:Int)).cps.toList=(m:Int);rw[m6];have d:=Dz (m:=m) (k:=60) Qd (by simpa using hn);have b:=Ah m;have dd:=n0 m;have f:(dg m)[0]? ≠some 45:=λz=>by
   have:=dd 45 (bR z);omega
  have a:figsOf (dg m)=dg m:=by
   cases e:dg m with
   |nil=>exact absurd e b
   |cons c r=>
    show(if c=45 then r else c::r)=_;rw[aG];intro z;rw[e,z]at f;exact f rfl
  refine⟨?_,?_⟩
  ·rw[iK,a,aH d,aH (p:=1<=(dg m).length) (e_.mpr b),wC dd];show(true&& !(_&&_))=true;by_cases z:(dg m)[0]?=some 48
   ·have g:=Ag z;have e:dg m=[48]:=by rw[g];exact yF Qd
    rw[aP (p:=dg m≠ [48]) (λy=>y e),Bool.and_false];rfl
   ·rw[aP z];rfl
  ·unfold i_;rw[aG f,a,pe]
 |negSucc m=>
  rw[u_];have d:=Dz (m:=m+1) (k:=60) Qd (by simpa using hn);have b:=Ah (m+1);have dd:=n0 (m+1);have a:figsOf (45::dg (m+1))=dg (m+1):=by show(if(45:Nat)=45 then dg (m+1)else 45::dg (m+1))=_;rw[aO rfl]
  refine⟨?_,?_⟩
  ·rw[iK,a,aH d,aH (p:=1<=(dg (m+1)).length) (e_.mpr b),wC dd];have z:¬(dg (m+1))[0]?=some 48:=λz=>by
    have:=Ag z;omega
   rw[aP z];rfl
  ·unfold i_;rw[aO (show(45::dg (m+1))[0]?=some 45 from rfl),a,pe];rfl
theorem wR{n:Int}(h1:-(10^60)<n)(h2:n<10^60):qP n:=Hj h1 h2
def sj:Sp:=λvs H Q _=>∃(n:Int)(l:Addr)(ws:List Str),vs=[.int n,.ref l]/\0<=n/\H l=some (.lst (ws.map V.str))/\Ig ws/\∀x H',okN x=true->x.length<=12->al H H'->Q (.str x) H'
def xA:Sp:=λvs H Q _=>∃(n:Int)(l:Addr)(ws:List Str),vs=[.int n,.ref l]/\0<=n/\H l=some (.lst (ws.map V.str))/\Ig ws/\∀x H',Tx8 x 42 0 0->Hn x->al H H'->Q (.str x) H'
def BS:Sp:=λvs H Q _=>∃(c n:Int),vs=[.int c,.int n]/\0<=n/\∀x,Tx8 x 61 0 0->Hs x->Q (.str x) H
theorem oo{xs:List Str}{n:Int}(h0:0<=n)(h1:n<(xs.length:Int)):∃x,x∈xs/\yI (xs.map V.str) n=some (V.str x):=by
 obtain⟨j,rfl⟩:∃j:Nat,n=(j:Int):=⟨n.toNat,Qo⟩;have a:j<xs.length:=Qo;refine⟨xs[j],l_ a,?_⟩;exact fE (by rw[cE,eI a];rfl)
section
variable{P:Program}{w:World}{K:ah}{mg:Str->Option Value}{base:Heap}
theorem pK:bD ["_law_number","_law_words_here","_law_some"] ["_law_number","_law_words_here"] (aU s_l_point):=⟨rfl,rfl,rfl,Qk,rfl,Qk,Qk⟩
theorem CK{f:Addr}{fd:FuncData}(F:fg K "_law_point" "_law_point" s_l_point f fd)(T:dF K mg):FnOk P w K mg base gW 1 f fd ["_law_number","_law_words_here"] sj:=by
 refine F.ok pK (λvs H Q E h=>?_) (λB A outer s H vs Q E L h=>?_)
 ·obtain⟨n,l,ws,rfl,_⟩:=h;rfl
 ·obtain⟨n,l,ws,rfl,hn,J,hw,q⟩:=h;refine⟨_,(aQ (@aY _ _ 2 _ _ _ _ pK.nd rfl (aN rfl) (@aF _ _ _ _ _ _ _ _ eR (pv 1) (@cA _ _ _ _ (@b9 _ _ _ _ _ _ _ ad (@b9 _ _ _ _ _ _ _ ad (@b9 _ _ _ _ _ _ _ ad (@b9 _ _ _ _ _ _ _ ad (@b9 _ _ _ _ _ _ _ ad (@b9 _ _ _ _ _ _ _ ad (@b9 _ _ _ _ _ _ _ ad (@b9 _ _ _ _ _ _ _ ad (@b9 _ _ _ _ _ _ _ ad (@b9 _ _ _ _ _ _ _ ad (@b9 _ _ _ _ _ _ _ ad (@b9 _ _ _ _ _ _ _ ad ac)))))))))))))) rfl (aN rfl))
   (aQ (@aY _ _ 2 _ _ _ _ pK.nd rfl (aN rfl) (@aF _ _ _ _ _ _ _ _ eR (pv 2) (@cA _ _ _ _ (@b9 _ _ _ _ _ _ _ ad (@b9 _ _ _ _ _ _ _ ad (@b9 _ _ _ _ _ _ _ ad ac))))) rfl (aN rfl))
   (am (aR (bE d_ (pv 2) (aF dv (pv 0) (bP eL Qr T.len gc (aa (pv 2) ac))) (λ_ _=>Qr)))))),?_⟩
  have g:=hw.len;refine⟨λb H'=>al H H'/\∃p2,H' p2=some (.lst ((ws++iZ).map V.str))/\b=[some (V.int n),some (V.ref l),some (V.ref p2)],?_,?_⟩
  ·refine⟨_,rfl,by show 12<=sizeLine;decide,λp I=>?_⟩;have s1:al H (upd H p (.lst (iZ.map V.str))):=al.new I;refine⟨l,p,_,iZ.map V.str,rfl,rfl,s1 _ _ J,ak,?_,λp2 y=>?_⟩
   ·rw[ay,g];decide+kernel
   have v:al H (upd (upd H p (.lst (iZ.map V.str))) p2 (.lst (ws.map V.str++iZ.map V.str))):=s1.upd y;have o:(upd (upd H p (.lst (iZ.map V.str))) p2 (.lst (ws.map V.str++iZ.map V.str))) p2=some (.lst ((ws++iZ).map V.str)):=by rw[ak,aT]
   exact⟨v,p2,o,rfl⟩
  rintro b H2⟨v,p2,o,rfl⟩;refine⟨λb H'=>al H2 H'/\∃c,H' c=some (.lst (((ws++iZ)++oF).map V.str))/\b=[some (V.int n),some (V.ref l),some (V.ref c)],?_,?_⟩
  ·refine⟨_,rfl,by show 3<=sizeLine;decide,λj t=>?_⟩;have z:al H2 (upd H2 j (.lst (oF.map V.str))):=al.new t;refine⟨p2,j,_,oF.map V.str,rfl,rfl,z _ _ o,ak,?_,λc u=>?_⟩
   ·rw[ay,ae,g];decide+kernel
   have k:al H2 (upd (upd H2 j (.lst (oF.map V.str))) c (.lst ((ws++iZ).map V.str++oF.map V.str))):=z.upd u;have i:(upd (upd H2 j (.lst (oF.map V.str))) c (.lst ((ws++iZ).map V.str++oF.map V.str))) c=some (.lst (((ws++iZ)++oF).map V.str)):=by rw[ak,<-aT]
   exact⟨k,c,i,rfl⟩
  rintro b C⟨k,c,i,rfl⟩;have a:((ws++iZ)++oF).length=19:=by
   rw[ae,ae,g];rfl
  have e:∀x∈(ws++iZ)++oF,okN x=true/\x.length<=12:=λx d=>by
   rcases bY.mp d with d|d
   ·rcases bY.mp d with d|d
    ·have:=hw.ok x d;exact⟨by unfold okN;rw[this];rfl,(vC this).2⟩
    ·exact Ck x d
   ·exact EL x d
  generalize(ws++iZ)++oF=ys at i a e;have G:0<=n%19:=Qo;have D:n%19<19:=Qo;have m:(n%19).toNat <ys.length:=Qo;refine⟨_,rfl,_,rfl,_,rfl,c,_,rfl,.inl (SqL.of i),_,_,rfl,rfl,?_,c,_,_,V.str ys[(n%19).toNat],rfl,rfl,SqL.of i,?_,q _ C (e _ (l_ m)).1 (e _ (l_ m)).2 (v.trans k)⟩
  ·show(0:Int)<((ys.map V.str).length:Int);rw[ay,a];decide
  ·show yI (ys.map V.str) (n%((ys.map V.str).length:Int))=_;rw[ay,a,show n%((19:Nat):Int)=(((n%19).toNat:Nat):Int)by omega];exact fE (by rw[cE,eI m];rfl)
theorem sA:bD ["_law_number","_law_words_here","_law_points","_law_one"] ["_law_number","_law_words_here"] (aU s_l_set_word):=⟨rfl,rfl,rfl,Qk,rfl,Qk,Qk⟩
theorem E6{f:Addr}{fd:FuncData}(F:fg K "_law_set_word" "_law_set_word" s_l_set_word f fd)(T:dF K mg)(R:dk P w K mg base 1 "_law_point" ["_law_number","_law_words_here"] sj):FnOk P w K mg base gW 2 f fd ["_law_number","_law_words_here"] xA:=by
 have B:List.Nodup (["_law_k","_law_number","_law_words_here"]:List Str):=Qk;refine F.ok sA (λvs H Q E h=>?_) (λxa A outer s H vs Q E W h=>?_)
 ·obtain⟨n,l,ws,rfl,_⟩:=h;rfl
 ·obtain⟨n,l,ws,rfl,hn,X,hw,q⟩:=h;refine⟨_,(aQ (sM (j:=2) (N:=["_law_k","_law_number","_law_words_here"]) (xs:=1) (js:=[0,1]) rfl sA.nd rfl rfl (dD rfl) (iC rfl T.range (aa (aF dv (aF fP (pv 0) ai) ai) ac)) (λ_ _ _ _=>db (i:=0) B rfl (aN rfl)) (λ_ _ _ _=>jI) (λ_ _ _ _=>aJ R W Qr (aa (aF fP (pv 1) (aF bK ai (aF mw ai (pv 0)))) (aa (pv 2) ac))) rfl)
   (aQ (aY (i:=3) sA.nd rfl (aN rfl) (aJ R W Qr (aa (aF fP (pv 0) ai) (aa (pv 1) ac))))
   (am (aR (bE d_ (cA (aa ad (aa (aF aM ad (pv 3)) (aa (aF aM ad (pv 3)) (aa (aF aM (aF aM ad (dW aX bg bf fQ ad (aa (pv 2) ac))) ad) ac))))) (aF dv (pv 0) ai) (λ_ _=>Qr)))))),?_⟩
  refine⟨λd H'=>al H H'/\∃(p:Addr)(ns:List Str),H' p=some (.lst (ns.map V.str))/\ns.length<=3/\(∀x∈ns,okN x=true/\x.length<=12)/\d=[some (.int n),some (.ref l),some (.ref p),none],?_,?_⟩
  ·have h4:0<=n/4%4/\n/4%4<4:=Qo;refine⟨_,rfl,_,_,rfl,rfl,⟨Qd,Qd⟩,_,_,rfl,rfl,(by show(0:Int)<4;decide),_,rfl,Qo,Qo,ky (n:=(n/4%4).toNat) (λi g d H'=>al H H'/\∃(ns:List Str)(o:Option V),g=ns.map V.str/\ns.length=i/\(∀x∈ns,okN x=true/\x.length<=12)/\d=[o,some (.int n),some (.ref l)]) ⟨al.refl _,[],none,rfl,rfl,(λ_ z=>nomatch z),rfl⟩ (λi g d H' h=>?_) (by show(n/4%4).toNat<=sizeLine;exact af (show _<=4 by omega) Qd) (λi g d H' hi h=>?_) (λg d H' h p J=>?_)⟩
   ·obtain⟨_,ns,o,rfl,e,_⟩:=h;rw[ay,e];exact ao _
   ·obtain⟨s1,ns,o,rfl,e,k,rfl⟩:=h;have xb:i<4:=Qo;refine⟨_,rfl,_,rfl,_,_,rfl,rfl,.inl ⟨Qd,Qd⟩,_,_,rfl,rfl,_,_,rfl,rfl,?_,_,rfl,_,l,ws,rfl,?_,s1 _ _ X,hw,λy H2 M C v=>⟨s1.trans v,ns++[y],_,by rw[aT];rfl,by rw[ae,e];rfl,λz m=>?_,rfl⟩⟩
    ·show 0<4+9*(0+(i:Int))/\4+9*(0+(i:Int))<1073741824;omega
    ·exact fJ hn Qo
    ·rcases bY.mp m with m|m
     ·exact k z m
     ·have:z=y:=by simpa using m
      rw[this];exact⟨M,C⟩
   ·obtain⟨s1,ns,o,rfl,e,k,rfl⟩:=h;exact⟨s1.upd J,p,ns,ak,Qo,k,rfl⟩
  rintro _ H1⟨s1,p,ns,J,k,hok,rfl⟩;refine⟨λd H'=>al H H'/\∃x:Str,okN x=true/\x.length<=12/\H' p=some (.lst (ns.map V.str))/\d=[some (.int n),some (.ref l),some (.ref p),some (.str x)],?_,?_⟩
  ·exact⟨_,rfl,_,_,rfl,rfl,⟨Qd,Qd⟩,_,rfl,n/16,l,ws,rfl,fJ hn Qd,s1 _ _ X,hw,λx H2 G u v=>⟨s1.trans v,x,G,u,v _ _ J,rfl⟩⟩
  rintro _ H2⟨v,x,G,u,L,rfl⟩;obtain⟨S,I⟩:=vD G u;obtain⟨Y,j2⟩:=JA hok;have lj:=Y.len;have l1:("from ":Str).length=5:=Qk;have l2:("to ":Str).length=3:=Qk;have l3:("{":Str).length=1:=Qk;have l4:("}":Str).length=1:=Qk;have D:(ns.map (·.length)).sum +ns.length<=1048576:=by
   have:∀l:List Str,(∀x∈l,okN x=true/\x.length<=12)->(l.map (·.length)).sum<=12*l.length:=λl O=>by
    induction l with
    |nil=>exact ao _
    |cons a b Z=>
     rw[b7,gF,aK];have:=(O a aA).2;have:=Z λz m=>O z (aB _ m);omega
   have:=this ns hok;omega
  refine⟨_,rfl,_,_,rfl,rfl,af (show("from ":Str).length +x.length<=100 by omega) Qd,_,rfl,_,_,rfl,rfl,af (show("to ":Str).length +x.length<=100 by omega) Qd,rfl,_,rfl,_,p,ns,rfl,rfl,SqL.of L,Qk,D,_,_,rfl,rfl,af (show("{":Str).length +(Str.join ", " ns).length<=100 by omega) Qd,_,_,rfl,rfl,by rw[ag];exact af (show _<=100 by omega) Qd,by show 4<=sizeLine;decide,λt ht=>?_⟩;obtain⟨y,U,ey⟩:=oo (xs:=["all",("from ":Str)++x,("to ":Str)++x,(("{":Str)++Str.join ", " ns)++("}":Str)]) (n:=n%4) Qo (by show n%4<4;omega);have key:Tx8 y 42 0 0/\Hn y:=by
   simp only[aq,a_,or_false]at U;rcases U with rfl|rfl|rfl|rfl
   ·exact⟨tx8_of Qk,by unfold Hn;decide+kernel⟩
   ·exact⟨((tx8_of Qk:Tx8 "from " 5 0 0).appN S I).mono Qd Qd Qd,Hn.lit (c:=102) Qk Qd _⟩
   ·exact⟨((tx8_of Qk:Tx8 "to " 3 0 0).appN S I).mono Qd Qd Qd,Hn.app (by unfold Hn;decide+kernel) I⟩
   ·refine⟨(((tx8_of Qk:Tx8 "{" 1 0 0).appN Y j2).appN (tx8_of Qk:Tx8 "}" 1 0 0) (by unfold Hn;decide+kernel)).mono Qo Qd Qd,Hn.app (Hn.lit (c:=123) Qk Qd _) (by unfold Hn;decide+kernel)⟩
  exact⟨_,rfl,_,_,rfl,rfl,(by show(0:Int)<4;decide),t,_,_,.str y,rfl,rfl,SqL.of ak,ey,q y _ key.1 key.2 (v.trans (al.new ht))⟩
theorem Eu:bD ["_law_cell","_law_number"] ["_law_cell","_law_number"] (aU s_l_number_word):=⟨rfl,rfl,rfl,Qk,rfl,Qk,Qk⟩
theorem E_{f:Addr}{fd:FuncData}(F:fg K "_law_number_word" "_law_number_word" s_l_number_word f fd)(T:dF K mg):FnOk P w K mg base gW 1 f fd ["_law_cell","_law_number"] BS:=by
 refine F.ok Eu (λvs H Q E h=>?_) (λd A outer s H vs Q E g h=>?_)
 ·obtain⟨c,n,rfl,_⟩:=h;rfl
 ·obtain⟨c,n,rfl,hn,q⟩:=h;have q:∀m,qP m->Q (.str (numT m)) H:=λm a=>q _ (Hk a).1 (Hk a).2;refine⟨_,(aw (bA (aI b4 (aF dv (pv 1) ai) ai (aS _)) (am (aR (d9 eJ Qr T.str mj (aa (aF bK (aF gX (aF dv (pv 0) (aF gX (aF mw ai (aF sS ai ai)) ai)) (aF sS ai ai)) ai) ac)))) aW)
   (am (aR (d9 eJ Qr T.str mj (aa (aF gX (aF dv (aF fP (pv 1) ai) ai) ai) ac))))),?_⟩
  refine⟨_,rfl,_,_,rfl,rfl,(by show(0:Int)<4;decide),rfl,_,rfl,eG (λ_=>?_) (λ_=>?_)⟩
  ·have e:(10:Int)^(60:Int).toNat=10^60:=rfl;have wf:qP (c%(2*10^(60:Int).toNat -1)-10^(60:Int).toNat +1):=by
    refine wR ?_ ?_
    ·rw[e];have:=cX c (b:=2*10^60-1) Qd;omega
    ·rw[e];have:=df c (b:=2*10^60-1) Qd;omega
   exact⟨_,rfl,_,_,rfl,rfl,⟨Qd,Qd,Qd⟩,_,_,rfl,rfl,.inl ⟨Qd,Qd⟩,_,_,rfl,rfl,_,_,rfl,rfl,(by show(0:Int)<2*10^(60:Int).toNat -1;decide),_,_,rfl,rfl,⟨Qd,Qd,Qd⟩,_,_,rfl,rfl,_,_,rfl,rfl,_,rfl,ik wf,q _ wf⟩
  ·have wf:qP (n/4%41-20):=wR Qo Qo;exact⟨_,rfl,_,_,rfl,rfl,⟨Qd,Qd⟩,_,_,rfl,rfl,(by show(0:Int)<41;decide),_,_,rfl,rfl,_,rfl,ik wf,q _ wf⟩
end
abbrev Hy(b:Bool):Nat:=if b=true then 2 else 1
abbrev Ly(b:Bool):Nat:=if b=true then 4 else 3
def zA:Sp:=λvs H Q _=>∃(c:Int)(l:Addr)(ws:List Str)(b:Bool),vs=[.int c,.ref l,.bl b]/\H l=some (.lst (ws.map V.str))/\Ig ws/\∀x H',Tx8 x 95 0 (Hy b)->Hs x->al H H'->Q (.str x) H'
def BQ:Sp:=λvs H Q _=>∃(c:Int)(l:Addr)(ws:List Str)(one d:Str)(b:Bool)(a k:Nat),vs=[.int c,.ref l,.str one,.str d,.bl b]/\H l=some (.lst (ws.map V.str))/\Ig ws/\Tx8 one 600 a k/\Hs one/\Tx8 d 95 0 (Hy b)/\Hs d/\∀x H',Tx8 x 704 (a+Ly b) (k+Hy b+1)->Hs x->al H H'->Q (.str x) H'
theorem iy{n:Nat}(h:n<=5000):n<=sizeLine:=af h Qd
theorem F6{u v a:Str}{g f h c e b d i bs:Nat}(l:Tx8 u g f h)(j:Tx8 v c e b)(m:Hs v)(k:Tx8 a d i bs):Tx8 (Str.join a [u,v]) (g+(d+c)) (f+(i+e)) (h+(bs+b)+1):=by
 rw[cC,cV];exact l.app (k.appN j m.hn)
theorem Dj{u v a:Str}{g f h c e b d i bs:Nat}(m:Tx8 u g f h)(k:Tx8 v c e b)(j:Hs v)(l:Tx8 a d i bs)(ns:Hn a):Tx8 (Str.join a [u,v]) (g+(d+c)) (f+(i+e)) (h+(bs+b)):=by
 rw[cC,cV];exact m.appN (l.appN k j.hn) (ns.app j.hn)
theorem oU{u v a:Str}(b:Hs u):Hs (Str.join a [u,v]):=by
 rw[cC];exact b.app _
section
variable{P:Program}{w:World}{K:ah}{mg:Str->Option Value}{base:Heap}
theorem pL:bD ["_law_cell","_law_words_here","_law_claim_due","_law_number","_law_two_here","_law_one","_law_figures","_law_some"] ["_law_cell","_law_words_here","_law_claim_due"] (aU s_l_leaf):=⟨rfl,rfl,rfl,Qk,rfl,Qk,Qk⟩
theorem Je{f:Addr}{fd:FuncData}(F:fg K "_law_leaf" "_law_leaf" s_l_leaf f fd)(cm:dk P w K mg base 1 "_law_mixed" ["_law_cell","_law_k"] ki)(cp:dk P w K mg base 1 "_law_point" ["_law_number","_law_words_here"] sj)(cs:dk P w K mg base 2 "_law_set_word" ["_law_number","_law_words_here"] xA)(cu:dk P w K mg base 1 "_law_number_word" ["_law_cell","_law_number"] BS):FnOk P w K mg base gW 3 f fd ["_law_cell","_law_words_here","_law_claim_due"] zA:=by
 refine F.ok pL (λvs H Q E h=>?_) (λxd A outer s H vs Q E hr h=>?_)
 ·obtain⟨c,l,ws,b,rfl,_⟩:=h;rfl
 ·obtain⟨c,l,ws,b,rfl,J,hw,q⟩:=h;have k:cF 1 _:=hr.mono Qd;refine⟨_,(aQ (aY (i:=3) pL.nd rfl (aN rfl) (aJ cm k Qr (aa (pv 0) (aa ai ac))))
   (aQ (aY (i:=4) pL.nd rfl (aN rfl) (aF aM (aF aM (aF aM ad (aJ cp k Qr (aa (aF fP (pv 3) ai) (aa (pv 1) ac)))) ad) (aJ cp k Qr (aa (aJ cm k Qr (aa (pv 0) (aa ai ac))) (aa (pv 1) ac)))))
   (aQ (aY (i:=5) pL.nd rfl (aN rfl) (aJ cs hr Qr (aa (aJ cm k Qr (aa (pv 0) (aa ai ac))) (aa (pv 1) ac))))
   (aQ (aY (i:=6) pL.nd rfl (aN rfl) (aJ cu k Qr (aa (pv 0) (aa (aF fP (pv 3) ai) ac))))
   (aQ (bA (fe (pv 2)) (aQ (aY (i:=7) pL.nd rfl (aN rfl) (cA (aa (aF aM ad (pv 4)) (aa (aF aM (aF aM (aF aM ad (pv 4)) ad) (pv 6)) (aa ad (aa ad ac))))))
   (am (aR (bE d_ (aF eR (pv 7) (cA (aa (aF aM (aF aM (aF aM ad (pv 4)) ad) (aJ cp k Qr (aa (aJ cm k Qr (aa (pv 0) (aa ai ac))) (aa (pv 1) ac)))) ac))) (aF dv (pv 3) ai) (λ_ _=>Qr))))) aW)
   (aQ (aY (i:=7) pL.nd rfl (aN rfl) (cA (aa (pv 6) (aa (aF aM ad (pv 5)) (aa (aF aM ad (pv 4)) (aa (aF aM ad (pv 4)) (aa (aF aM ad (pv 4)) ac)))))))
   (am (aR (bE d_ (aF eR (pv 7) (cA (aa (aF aM (aF aM (aF aM ad (pv 5)) ad) (aJ cs hr Qr (aa (aF fP (pv 3) ai) (aa (pv 1) ac)))) ac))) (aF dv (pv 3) ai) (λ_ _=>Qr)))))))))),?_⟩
  have xe:(" ":Str).length=1:=Qk;refine⟨λa H'=>H=H'/\∃n:Int,0<=n/\a=[some (.int c),some (.ref l),some (.bl b),some (.int n),none,none,none,none],⟨_,rfl,c,1,rfl,Qd,Qd,λn hn=>⟨rfl,n,hn,rfl⟩⟩,?_⟩;rintro _ _⟨rfl,n,hn,rfl⟩;refine⟨λa H'=>al H H'/\∃t:Str,Tx8 t 26 0 1/\a=[some (.int c),some (.ref l),some (.bl b),some (.int n),some (.str t),none,none,none],?_,?_⟩
  ·refine⟨_,rfl,_,_,rfl,rfl,⟨Qd,Qd⟩,_,rfl,n/30,l,ws,rfl,fJ hn Qd,J,hw,λx H1 hx Z s1=>?_⟩;refine⟨_,_,rfl,rfl,iy Qo,_,_,rfl,rfl,by rw[ag];exact iy Qo,_,rfl,c,2,rfl,Qd,Qd,λn2 v=>⟨_,rfl,n2,l,ws,rfl,v,s1 _ _ J,hw,λy H2 C o j=>⟨_,_,rfl,rfl,by rw[ag,ag];exact iy Qo,s1.trans j,_,?_,rfl⟩⟩⟩;obtain⟨x1,x2⟩:=vD hx Z;obtain⟨y1,y2⟩:=vD C o;have sp:Tx8 " " 1 0 0:=tx8_of Qk;exact(((sp.appN x1 x2).app sp).appN y1 y2).mono Qd Qd Qd
  rintro _ H1⟨s1,t,B,rfl⟩;refine⟨λa H'=>al H H'/\∃z:Str,Tx8 z 42 0 0/\Hn z/\a=[some (.int c),some (.ref l),some (.bl b),some (.int n),some (.str t),some (.str z),none,none],⟨_,rfl,c,4,rfl,Qd,Qd,λn2 v=>⟨_,rfl,n2,l,ws,rfl,v,s1 _ _ J,hw,λz H2 I hn j=>⟨s1.trans j,z,I,hn,rfl⟩⟩⟩,?_⟩;clear s1 H1;rintro _ H1⟨s1,z,I,nz,rfl⟩;refine⟨λa H'=>al H H'/\∃g:Str,Tx8 g 61 0 0/\Hs g/\a=[some (.int c),some (.ref l),some (.bl b),some (.int n),some (.str t),some (.str z),some (.str g),none],⟨_,rfl,_,rfl,_,_,rfl,rfl,⟨Qd,Qd⟩,c,n/30,rfl,fJ hn Qd,λg D L=>⟨s1,g,D,L,rfl⟩⟩,?_⟩;clear s1 H1;rintro _ H1⟨s1,g,D,L,rfl⟩;have lt:=B.len;have lz:=I.len;have lg:=D.len;have xc:("way":Str).length=3:=Qk;have S:("cost":Str).length=4:=Qk;have xf:(" <= ":Str).length=4:=Qk;have U:("must":Str).length=4:=Qk;have xb:("size ":Str).length=5:=Qk;have X:("flow":Str).length=4:=Qk;have N:("apart":Str).length=5:=Qk;have Y:("bare":Str).length=4:=Qk;have M:("pairs ":Str).length=6:=Qk;have d:∀(y:Str)(h:Gn y y.length 0 0=true),Tx8 y y.length 0 0:=λy h=>tx8_of h;cases b with
  |true=>
   refine⟨λ_ _=>False,⟨_,rfl,_,rfl,eT ?_⟩,λ_ _ z=>z.elim⟩;refine⟨λa H'=>al H H'/\∃p:Addr,H' p=some (.lst (([("way":Str)++t,((("cost":Str)++t)++(" <= ":Str))++g,"ring","round"]:List Str).map V.str))/\a=[some (.int c),some (.ref l),some (.bl true),some (.int n),some (.str t),some (.str z),some (.str g),some (.ref p)],?_,?_⟩
   ·exact⟨_,rfl,_,_,rfl,rfl,iy Qo,_,rfl,_,_,rfl,rfl,iy Qo,_,_,rfl,rfl,by rw[ag];exact iy Qo,_,rfl,_,_,rfl,rfl,by rw[ag,ag];exact iy Qo,by show 4<=sizeLine;decide,λp W=>⟨s1.upd W,p,ak,rfl⟩⟩
   clear s1 H1;rintro _ H1⟨s1,p,O,rfl⟩;refine⟨_,rfl,_,rfl,_,_,rfl,rfl,iy Qo,_,_,rfl,rfl,by rw[ag];exact iy Qo,_,rfl,c,3,rfl,Qd,Qd,λn3 xa=>⟨_,rfl,n3,l,ws,rfl,xa,s1 _ _ J,hw,λy H2 C o j=>⟨_,_,rfl,rfl,by rw[ag,ag];exact iy Qo,by show 1<=sizeLine;decide,λp2 e=>⟨p,p2,_,_,rfl,rfl,(j.upd e) _ _ O,ak,by show 4+1<=sizeLine;decide,λR m=>?_⟩⟩⟩⟩;obtain⟨y1,y2⟩:=vD C o;obtain⟨u,G,T⟩:=oo (xs:=[("way":Str)++t,((("cost":Str)++t)++(" <= ":Str))++g,"ring","round",((("must":Str)++t)++(" ":Str))++y]) (n:=n%5) Qo (by show n%5<5;omega);have key:Tx8 u 95 0 2/\Hs u:=by
    simp only[aq,a_,or_false]at G;rcases G with rfl|rfl|rfl|rfl|rfl
    ·exact⟨((d "way" Qk).appE B Qk).mono Qo Qd Qd,Hs.app (gE (c:=119) Qk Qd) _⟩
    ·exact⟨((((d "cost" Qk).appE B Qk).app (d " <= " Qk)).appN D L.hn).mono Qo Qd Qd,Hs.app (Hs.app (Hs.app (gE (c:=99) Qk Qd) _) _) _⟩
    ·exact⟨tx8_of Qk,gE (c:=114) Qk Qd⟩
    ·exact⟨tx8_of Qk,gE (c:=114) Qk Qd⟩
    ·exact⟨((((d "must" Qk).appE B Qk).app (d " " Qk)).appN y1 y2).mono Qo Qd Qd,Hs.app (Hs.app (Hs.app (gE (c:=109) Qk Qd) _) _) _⟩
   refine⟨_,rfl,_,_,rfl,rfl,(by show(0:Int)<5;decide),R,_,_,.str u,rfl,rfl,SqL.of ak,T,q u _ key.1 key.2 (s1.trans (j.trans ((al.new e).trans (al.new m))))⟩
  |false=>
   refine⟨λa H'=>H1=H'/\a=[some (.int c),some (.ref l),some (.bl false),some (.int n),some (.str t),some (.str z),some (.str g),none],⟨_,rfl,_,rfl,eZ ⟨rfl,rfl⟩⟩,?_⟩;rintro _ _⟨rfl,rfl⟩;refine⟨λa H'=>al H H'/\∃p:Addr,H' p=some (.lst (([g,("size ":Str)++z,("flow":Str)++t,("apart":Str)++t,("bare":Str)++t]:List Str).map V.str))/\a=[some (.int c),some (.ref l),some (.bl false),some (.int n),some (.str t),some (.str z),some (.str g),some (.ref p)],?_,?_⟩
   ·exact⟨_,rfl,_,rfl,_,_,rfl,rfl,iy Qo,_,rfl,_,_,rfl,rfl,iy Qo,_,rfl,_,_,rfl,rfl,iy Qo,_,rfl,_,_,rfl,rfl,iy Qo,by show 5<=sizeLine;decide,λp W=>⟨s1.upd W,p,ak,rfl⟩⟩
   clear s1;rintro _ H2⟨s1,p,O,rfl⟩;refine⟨_,rfl,_,rfl,_,_,rfl,rfl,iy Qo,_,_,rfl,rfl,by rw[ag];exact iy Qo,_,rfl,_,_,rfl,rfl,⟨Qd,Qd⟩,_,rfl,n/6,l,ws,rfl,fJ hn Qd,s1 _ _ J,hw,λy H3 C ny j=>⟨_,_,rfl,rfl,by rw[ag,ag];exact iy (by have:=C.len;omega),by show 1<=sizeLine;decide,λp2 e=>⟨p,p2,_,_,rfl,rfl,(j.upd e) _ _ O,ak,by show 5+1<=sizeLine;decide,λR m=>?_⟩⟩⟩;obtain⟨u,G,T⟩:=oo (xs:=[g,("size ":Str)++z,("flow":Str)++t,("apart":Str)++t,("bare":Str)++t,((("pairs ":Str)++z)++(" ":Str))++y]) (n:=n%6) Qo (by show n%6<6;omega);have key:Tx8 u 95 0 1/\Hs u:=by
    simp only[aq,a_,or_false]at G;rcases G with rfl|rfl|rfl|rfl|rfl|rfl
    ·exact⟨D.mono Qd Qd Qd,L⟩
    ·exact⟨((d "size " Qk).appN I nz).mono Qo Qd Qd,Hs.app (gE (c:=115) Qk Qd) _⟩
    ·exact⟨((d "flow" Qk).appE B Qk).mono Qo Qd Qd,Hs.app (gE (c:=102) Qk Qd) _⟩
    ·exact⟨((d "apart" Qk).appE B Qk).mono Qo Qd Qd,Hs.app (gE (c:=97) Qk Qd) _⟩
    ·exact⟨((d "bare" Qk).appE B Qk).mono Qo Qd Qd,Hs.app (gE (c:=98) Qk Qd) _⟩
    ·exact⟨((((d "pairs " Qk).appN I nz).app (d " " Qk)).appN C ny).mono Qo Qd Qd,Hs.app (Hs.app (Hs.app (gE (c:=112) Qk Qd) _) _) _⟩
   refine⟨_,rfl,_,_,rfl,rfl,(by show(0:Int)<6;decide),R,_,_,.str u,rfl,rfl,SqL.of ak,T,q u _ key.1 key.2 (s1.trans (j.trans ((al.new e).trans (al.new m))))⟩
abbrev LD:List Str:=["_law_cell","_law_words_here","_law_one","_law_other","_law_claim_due","_law_number","_law_way","_law_both","_law_some","_law_told"]
theorem lh:bD LD ["_law_cell","_law_words_here","_law_one","_law_other","_law_claim_due"] (aU s_l_round):=⟨rfl,rfl,rfl,Qk,rfl,Qk,Qk⟩
theorem Ha{f:Addr}{fd:FuncData}(F:fg K "_law_round" "_law_round" s_l_round f fd)(T:dF K mg)(cm:dk P w K mg base 1 "_law_mixed" ["_law_cell","_law_k"] ki)(cs:dk P w K mg base 2 "_law_set_word" ["_law_number","_law_words_here"] xA):FnOk P w K mg base gW 3 f fd ["_law_cell","_law_words_here","_law_one","_law_other","_law_claim_due"] BQ:=by
 refine F.ok lh (λvs H Q E h=>?_) (λxf A outer s H vs Q E hr h=>?_)
 ·obtain⟨c,l,ws,one,d,b,a,k,rfl,_⟩:=h;rfl
 ·obtain⟨c,l,ws,one,d,b,a,k,rfl,hl,hw,h1,I,h2,n2,q⟩:=h;have r1:cF 1 _:=hr.mono Qd;refine⟨_,(aQ (aY (i:=5) lh.nd rfl (aN rfl) (aJ cm r1 Qr (aa (pv 0) (aa ai ac))))
   (aQ (aY (i:=6) lh.nd rfl (aN rfl) (aF dv (pv 5) ai))
   (aQ (aY (i:=7) lh.nd rfl (aN rfl) (AH (cA (aa (pv 2) (aa (pv 3) ac))) (aF gX ai (aF mw ai (aF dv (aF fP (pv 5) ai) ai)))))
   (aQ (bA (fe (pv 4)) (aQ (aY (i:=8) lh.nd rfl (aN rfl) (cA (aa (aF aM ad (pv 2)) (aa (aF aM (aF aM ad (dW aX bg bf fQ ad (aa (pv 7) ac))) ad) (aa (aF aM (aF aM ad (dW aX bg bf fQ ad (aa (pv 7) ac))) ad) ac)))))
   (aQ (aY (i:=9) lh.nd rfl (aN rfl) (aJ cs hr Qr (aa (aF fP (pv 5) ai) (aa (pv 1) ac))))
   (am (aR (bE d_ (aF eR (pv 8) (cA (aa (aF aM (aF aM (aF aM ad (pv 9)) ad) (pv 2)) (aa (aF aM (aF aM (aF aM ad (pv 9)) ad) (pv 2)) ac)))) (pv 6) (λ_ _=>Qr)))))) aW)
   (aQ (aY (i:=8) lh.nd rfl (aN rfl) (cA (aa (aF aM (aF aM ad (dW aX bg bf fQ ad (aa (pv 7) ac))) ad) (aa (aF aM (aF aM ad (dW aX bg bf fQ ad (aa (pv 7) ac))) ad) ac))))
   (aQ (aY (i:=8) lh.nd rfl (aN rfl) (aF eR (pv 8) (cA (aa (aF aM (aF aM ad (dW aX bg bf fQ ad (aa (pv 7) ac))) ad) ac))))
   (am (aR (bE d_ (aF eR (pv 8) (cA (aa (aF aM ad (pv 2)) (aa (aF aM (aF aM (d9 eJ Qr T.str mj (aa (aF dv (pv 0) (aF sS ai ai)) ac)) ad) (pv 2)) ac)))) (pv 6) (λ_ _=>Qr)))))))))),?_⟩
  refine⟨λg H'=>H=H'/\∃n:Int,0<=n/\g=[some (.int c),some (.ref l),some (.str one),some (.str d),some (.bl b),some (.int n),none,none,none,none],⟨_,rfl,c,5,rfl,Qd,Qd,λn hn=>⟨rfl,n,hn,rfl⟩⟩,?_⟩;rintro _ _⟨rfl,n,hn,rfl⟩;refine⟨λg H'=>H=H'/\g=[some (.int c),some (.ref l),some (.str one),some (.str d),some (.bl b),some (.int n),some (.int (n%5)),none,none,none],⟨_,rfl,_,_,rfl,rfl,(by show(0:Int)<5;decide),rfl,rfl⟩,?_⟩;rintro _ _⟨rfl,rfl⟩;have m0:0<=n%5:=Qo;have m1:n%5<5:=Qo;generalize n%5=wy at m0 m1;refine⟨λg H'=>al H H'/\∃(p:Addr)(u v:Str),H' p=some (.lst (([u,v]:List Str).map V.str))/\((u=one/\v=d)\/(u=d/\v=one))/\g=[some (.int c),some (.ref l),some (.str one),some (.str d),some (.bl b),some (.int n),some (.int wy),some (.ref p),none,none],?_,?_⟩
  ·refine⟨_,rfl,_,rfl,by show 2<=sizeLine;decide,λt ht=>⟨_,rfl,_,_,rfl,rfl,⟨Qd,Qd⟩,_,_,rfl,rfl,(by show(0:Int)<2;decide),_,_,rfl,rfl,.inl ⟨Qd,Qd⟩,_,_,rfl,rfl,t,.str one,.str d,_,rfl,rfl,SqL.of ak,?_,λp hp=>?_⟩⟩
   ·show 1-2*(n/5%2)=1\/1-2*(n/5%2)=-1;omega
   ·have R:al H (upd (upd H t (.lst [.str one,.str d])) p (.lst (if 1-2*(n/5%2)=1 then [.str one,.str d]else [.str d,.str one]))):=(al.new ht).trans (al.new hp);by_cases X:1-2*(n/5%2)=1
    ·rw[aO X]at R;refine⟨?_,p,one,d,?_,.inl ⟨rfl,rfl⟩,rfl⟩
     ·show al H (upd (upd H t (.lst [.str one,.str d])) p (.lst (if 1-2*(n/5%2)=1 then [.str one,.str d]else [.str d,.str one])));rw[aO X];exact R
     ·show upd (upd H t (.lst [.str one,.str d])) p (.lst (if 1-2*(n/5%2)=1 then [.str one,.str d]else [.str d,.str one])) p=_;rw[aO X];exact ak
    ·rw[aG X]at R;refine⟨?_,p,d,one,?_,.inr ⟨rfl,rfl⟩,rfl⟩
     ·show al H (upd (upd H t (.lst [.str one,.str d])) p (.lst (if 1-2*(n/5%2)=1 then [.str one,.str d]else [.str d,.str one])));rw[aG X];exact R
     ·show upd (upd H t (.lst [.str one,.str d])) p (.lst (if 1-2*(n/5%2)=1 then [.str one,.str d]else [.str d,.str one])) p=_;rw[aG X];exact ak
  rintro _ H1⟨s1,p,u,v,m,N,rfl⟩;have lo:=h1.len;have lt:=h2.len;have J:∀{j:Str}{S O bs:Nat},Tx8 j S O bs->Tx8 (Str.join j [u,v]) (695+S) (a+O) (k+Hy b+bs+1)/\Hs (Str.join j [u,v]):=λ{j S O bs}Y=>by
   rcases N with⟨rfl,rfl⟩|⟨rfl,rfl⟩
   ·exact⟨(F6 h1 h2 n2 Y).mono Qo Qo Qo,oU I⟩
   ·exact⟨(F6 h2 h1 I Y).mono Qo Qo Qo,oU n2⟩
  have JN:∀{j:Str}{S O bs:Nat},Tx8 j S O bs->Hn j->Tx8 (Str.join j [u,v]) (695+S) (a+O) (k+Hy b+bs)/\Hs (Str.join j [u,v]):=λ{j S O bs}Y ns=>by
   rcases N with⟨rfl,rfl⟩|⟨rfl,rfl⟩
   ·exact⟨(Dj h1 h2 n2 Y ns).mono Qo Qo Qo,oU I⟩
   ·exact⟨(Dj h2 h1 I Y ns).mono Qo Qo Qo,oU n2⟩
  have B:(([u,v]:List Str).map (·.length)).sum +([u,v]:List Str).length<=1048576:=by
   show u.length+(v.length+0)+2<=1048576;rcases N with⟨rfl,rfl⟩|⟨rfl,rfl⟩<;>omega
  have xg:("(":Str).length=1:=Qk;have xj:(")":Str).length=1:=Qk;have top:Tx8 "(" 1 3 0:=tx8_of Qk;have C:Tx8 ")" 1 0 0:=tx8_of Qk;have D:Hn ")":=by unfold Hn;decide+kernel
  have U:Hs "(":=gE (c:=40) Qk Qd;cases b with
  |true=>
   obtain⟨W,na⟩:=J (tx8_of Qk:Tx8 " and " 5 0 0);obtain⟨M,no⟩:=J (tx8_of Qk:Tx8 " or " 4 0 0);have la:=W.len;have xc:=M.len;have xe:("not ":Str).length=4:=Qk;refine⟨λ_ _=>False,⟨_,rfl,_,rfl,eT ?_⟩,λ_ _ z=>z.elim⟩;refine⟨λg H'=>al H H'/\∃p2:Addr,H' p2=some (.lst (([("not ":Str)++one,(("(":Str)++Str.join " and " [u,v])++(")":Str),(("(":Str)++Str.join " or " [u,v])++(")":Str)]:List Str).map V.str))/\g=[some (.int c),some (.ref l),some (.str one),some (.str d),some (.bl true),some (.int n),some (.int wy),some (.ref p),some (.ref p2),none],?_,?_⟩
   ·exact⟨_,rfl,_,_,rfl,rfl,iy Qo,rfl,_,rfl,_,p,[u,v],rfl,rfl,SqL.of m,Qk,B,_,_,rfl,rfl,iy Qo,_,_,rfl,rfl,by rw[ag];exact iy Qo,rfl,_,rfl,_,p,[u,v],rfl,rfl,SqL.of m,Qk,B,_,_,rfl,rfl,iy Qo,_,_,rfl,rfl,by rw[ag];exact iy Qo,by show 3<=sizeLine;decide,λp2 G=>⟨s1.upd G,p2,ak,rfl⟩⟩
   clear s1 m H1;rintro _ H1⟨s1,p2,m,rfl⟩;refine⟨λg H'=>al H H'/\∃z:Str,Tx8 z 42 0 0/\Hn z/\H' p2=some (.lst (([("not ":Str)++one,(("(":Str)++Str.join " and " [u,v])++(")":Str),(("(":Str)++Str.join " or " [u,v])++(")":Str)]:List Str).map V.str))/\g=[some (.int c),some (.ref l),some (.str one),some (.str d),some (.bl true),some (.int n),some (.int wy),some (.ref p),some (.ref p2),some (.str z)],⟨_,rfl,_,_,rfl,rfl,⟨Qd,Qd⟩,_,rfl,n/10,l,ws,rfl,fJ hn Qd,s1 _ _ hl,hw,λz H2 hz nz R=>⟨s1.trans R,z,hz,nz,R _ _ m,rfl⟩⟩,?_⟩;clear s1 m H1;rintro _ H1⟨s1,z,hz,nz,m,rfl⟩;have lz:=hz.len;have xk:("each X in ":Str).length=10:=Qk;have xm:("some QQ in ":Str).length=11:=Qk;have xi:(": ":Str).length=2:=Qk;refine⟨_,rfl,_,rfl,_,_,rfl,rfl,iy Qo,_,_,rfl,rfl,by rw[ag];exact iy Qo,_,rfl,_,_,rfl,rfl,by rw[ag,ag];exact iy Qo,_,rfl,_,_,rfl,rfl,iy Qo,_,_,rfl,rfl,by rw[ag];exact iy Qo,_,rfl,_,_,rfl,rfl,by rw[ag,ag];exact iy Qo,by show 2<=sizeLine;decide,λL x=>⟨p2,L,_,_,rfl,rfl,(al.new x) _ _ m,ak,by show 3+2<=sizeLine;decide,λp4 o=>?_⟩⟩;obtain⟨y,hy,ey⟩:=oo (xs:=[("not ":Str)++one,(("(":Str)++Str.join " and " [u,v])++(")":Str),(("(":Str)++Str.join " or " [u,v])++(")":Str),((("each X in ":Str)++z)++(": ":Str))++one,((("some QQ in ":Str)++z)++(": ":Str))++one]) (n:=wy) m0 (by show wy<5;exact m1);have key:Tx8 y 704 (a+4) (k+2+1)/\Hs y:=by
    have lf:Hy true=2:=rfl;rw[lf]at W M;simp only[aq,a_,or_false]at hy;have Z:Tx8 ": " 2 4 0:=tx8_of Qk;have xb:Hn ": ":=by unfold Hn;decide+kernel
    rcases hy with rfl|rfl|rfl|rfl|rfl
    ·exact⟨((tx8_of Qk:Tx8 "not " 4 0 1).appN h1 I.hn).mono Qo Qo Qo,Hs.app (gE (c:=110) Qk Qd) _⟩
    ·exact⟨((top.appN W na.hn).appN C D).mono Qo Qo Qo,(U.app _).app _⟩
    ·exact⟨((top.appN M no.hn).appN C D).mono Qo Qo Qo,(U.app _).app _⟩
    ·exact⟨((((tx8_of Qk:Tx8 "each X in " 10 0 0).appN hz nz).appN Z xb).appN h1 I.hn).mono Qo Qo Qo,Hs.app (Hs.app (Hs.app (gE (c:=101) Qk Qd) _) _) _⟩
    ·exact⟨((((tx8_of Qk:Tx8 "some QQ in " 11 0 0).appN hz nz).appN Z xb).appN h1 I.hn).mono Qo Qo Qo,Hs.app (Hs.app (Hs.app (gE (c:=115) Qk Qd) _) _) _⟩
   exact⟨_,rfl,p4,_,_,.str y,rfl,rfl,SqL.of ak,ey,q y _ key.1 key.2 (s1.trans ((al.new x).trans (al.new o)))⟩
  |false=>
   obtain⟨W,na⟩:=J (tx8_of Qk:Tx8 " + " 3 0 0);obtain⟨M,no⟩:=JN (tx8_of Qk:Tx8 ", " 2 0 0) (by unfold Hn;decide+kernel);have la:=W.len;have xc:=M.len;have xh:("least(":Str).length=6:=Qk;have xl:("most(":Str).length=5:=Qk;refine⟨λg H'=>H1=H'/\g=[some (.int c),some (.ref l),some (.str one),some (.str d),some (.bl false),some (.int n),some (.int wy),some (.ref p),none,none],⟨_,rfl,_,rfl,eZ ⟨rfl,rfl⟩⟩,?_⟩;rintro _ _⟨rfl,rfl⟩;refine⟨λg H'=>al H H'/\H' p=some (.lst (([u,v]:List Str).map V.str))/\∃p2:Addr,H' p2=some (.lst (([(("(":Str)++Str.join " + " [u,v])++(")":Str),(("least(":Str)++Str.join ", " [u,v])++(")":Str)]:List Str).map V.str))/\g=[some (.int c),some (.ref l),some (.str one),some (.str d),some (.bl false),some (.int n),some (.int wy),some (.ref p),some (.ref p2),none],?_,?_⟩
   ·exact⟨rfl,_,rfl,_,p,[u,v],rfl,rfl,SqL.of m,Qk,B,_,_,rfl,rfl,iy Qo,_,_,rfl,rfl,by rw[ag];exact iy Qo,rfl,_,rfl,_,p,[u,v],rfl,rfl,SqL.of m,Qk,B,_,_,rfl,rfl,iy Qo,_,_,rfl,rfl,by rw[ag];exact iy Qo,by show 2<=sizeLine;decide,λp2 G=>⟨s1.upd G,(al.new G) _ _ m,p2,ak,rfl⟩⟩
   clear s1 m;rintro _ H2⟨s1,m,p2,xa,rfl⟩;refine⟨λg H'=>al H H'/\∃L:Addr,H' L=some (.lst (([(("(":Str)++Str.join " + " [u,v])++(")":Str),(("least(":Str)++Str.join ", " [u,v])++(")":Str),(("most(":Str)++Str.join ", " [u,v])++(")":Str)]:List Str).map V.str))/\g=[some (.int c),some (.ref l),some (.str one),some (.str d),some (.bl false),some (.int n),some (.int wy),some (.ref p),some (.ref L),none],?_,?_⟩
   ·exact⟨_,rfl,rfl,_,rfl,_,p,[u,v],rfl,rfl,SqL.of m,Qk,B,_,_,rfl,rfl,iy Qo,_,_,rfl,rfl,by rw[ag];exact iy Qo,by show 1<=sizeLine;decide,λL x=>⟨p2,L,_,_,rfl,rfl,(al.new x) _ _ xa,ak,by show 2+1<=sizeLine;decide,λp4 o=>⟨(s1.upd x).upd o,p4,ak,rfl⟩⟩⟩
   clear s1 m xa;rintro _ H3⟨s1,L,m,rfl⟩;have l2:("2 * ":Str).length=4:=Qk;have l3:(" * ":Str).length=3:=Qk;have wf:qP (c%10^(60:Int).toNat):=by
    have e:(10:Int)^(60:Int).toNat=10^60:=rfl;refine wR ?_ ?_
    ·rw[e];have:=cX c (b:=10^60) Qd;omega
    ·rw[e];exact df c Qd
   obtain⟨g1,g2⟩:=Hk wf;have lg:(Str.ofString (toString (c%10^(60:Int).toNat))).length<=61:=g1.len;refine⟨_,rfl,_,rfl,_,_,rfl,rfl,iy Qo,_,rfl,_,_,rfl,rfl,⟨Qd,Qd,Qd⟩,_,_,rfl,rfl,(by show(0:Int)<10^(60:Int).toNat;decide),_,rfl,ik wf,_,_,rfl,rfl,iy Qo,_,rfl,_,_,rfl,rfl,by rw[ag];exact iy Qo,by show 2<=sizeLine;decide,λp4 o=>⟨L,p4,_,_,rfl,rfl,(al.new o) _ _ m,ak,by show 3+2<=sizeLine;decide,λp5 xd=>?_⟩⟩;obtain⟨y,hy,ey⟩:=oo (xs:=[(("(":Str)++Str.join " + " [u,v])++(")":Str),(("least(":Str)++Str.join ", " [u,v])++(")":Str),(("most(":Str)++Str.join ", " [u,v])++(")":Str),("2 * ":Str)++one,(numT (c%10^(60:Int).toNat)++(" * ":Str))++one]) (n:=wy) m0 (by show wy<5;exact m1);have key:Tx8 y 704 (a+3) (k+1+1)/\Hs y:=by
    have lf:Hy false=1:=rfl;rw[lf]at W M;simp only[aq,a_,or_false]at hy;rcases hy with rfl|rfl|rfl|rfl|rfl
    ·exact⟨((top.appN W na.hn).appN C D).mono Qo Qo Qo,(U.app _).app _⟩
    ·exact⟨(((tx8_of Qk:Tx8 "least(" 6 3 0).appN M no.hn).appN C D).mono Qo Qo Qo,Hs.app (Hs.app (gE (c:=108) Qk Qd) _) _⟩
    ·exact⟨(((tx8_of Qk:Tx8 "most(" 5 3 0).appN M no.hn).appN C D).mono Qo Qo Qo,Hs.app (Hs.app (gE (c:=109) Qk Qd) _) _⟩
    ·exact⟨((tx8_of Qk:Tx8 "2 * " 4 2 0).appN h1 I.hn).mono Qo Qo Qo,Hs.app (gE (c:=50) Qk Qd) _⟩
    ·exact⟨((g1.app (tx8_of Qk:Tx8 " * " 3 2 0)).appN h1 I.hn).mono Qo Qo Qo,(g2.app _).app _⟩
   exact⟨_,rfl,p5,_,_,.str y,rfl,rfl,SqL.of ak,ey,q y _ key.1 key.2 (s1.trans ((al.new o).trans (al.new xd)))⟩
end
theorem jk{a H:Hp}{p:Addr}{o:HO}(s:al a H)(h:a p=none):al a (upd H p o):=λb u e=>by
 rw[b5 λz=>by rw[z,h]at e;cases e];exact s b u e
structure CT(cs ts:List Str)(i:Nat):Prop where
 cl:∀x∈cs,Tx8 x 1308 (6*i) (4*i+1)/\Hs x
 tl:∀x∈ts,Tx8 x 704 (3*i) (2*i)/\Hs x
 cn:cs.length<=1+2*i
 tn:ts.length<=1+2*i
structure CU(cs ts:List Str)(c t:Str)(i:Nat):Prop where
 cl:∀x∈cs++[c],Tx8 x 1308 (6*i) (4*i+1)/\Hs x
 tl:∀x∈ts++[t],Tx8 x 704 (3*i) (2*i)/\Hs x
 cn:cs.length<=1+2*i
 tn:ts.length<=1+2*i
 ch:c.length<=600
 th:t.length<=600
def BO:Sp:=λvs H Q _=>∃(a l:Addr)(b:List Int)(ws:List Str),vs=[.ref a,.ref l]/\H a=some (.lst (b.map V.int))/\b.length<=24/\H l=some (.lst (ws.map V.str))/\Ig ws/\∀(p:Addr)(xs:List Str)H',al H H'->H' p=some (.lst (xs.map V.str))->1<=xs.length->xs.length<=100->(∀x∈xs,Tx8 x 1308 144 97)->Q (.ref p) H'
theorem zB{xs:List Str}(h:xs≠ []):∃ys y,xs=ys++[y]:=⟨xs.dropLast,xs.getLast h,(List.dropLast_concat_getLast h).symm⟩
theorem il(xs:List Str)(y:Str):(xs++[y]).map V.str=xs.map V.str++[V.str y]:=by rw[aT];rfl
theorem ng{a:Type}{x y:a}{xs:List a}(h:x∈xs++[y]):x∈xs\/x=y:=by
 rcases bY.mp h with h|h
 ·exact .inl h
 ·exact .inr (cy.mp h)
section
variable{P:Program}{w:World}{K:ah}{mg:Str->Option Value}{base:Heap}
abbrev LA:List Str:=["_law_cells","_law_words_here","_law_claims","_law_terms","_law_cell","_law_way"]
theorem pF:bD LA ["_law_cells","_law_words_here"] (aU s_l_texts):=⟨rfl,rfl,rfl,Qk,rfl,Qk,Qk⟩
theorem GY{f:Addr}{fd:FuncData}(F:fg K "_law_texts" "_law_texts" s_l_texts f fd)(T:dF K mg)(cm:dk P w K mg base 1 "_law_mixed" ["_law_cell","_law_k"] ki)(cl:dk P w K mg base 3 "_law_leaf" ["_law_cell","_law_words_here","_law_claim_due"] zA)(cr:dk P w K mg base 3 "_law_round" ["_law_cell","_law_words_here","_law_one","_law_other","_law_claim_due"] BQ):FnOk P w K mg base gW 4 f fd ["_law_cells","_law_words_here"] BO:=by
 refine F.ok pF (λvs H Q E h=>?_) (λxh A outer s H vs Q E hr h=>?_)
 ·obtain⟨a,l,ms,ws,rfl,_⟩:=h;rfl
 ·obtain⟨a,l,ms,ws,rfl,ha,hm,hl,hw,q⟩:=h;have r1:cF 1 _:=hr.mono Qd;refine⟨_,(aw (aY (i:=2) pF.nd rfl (aN rfl) (cA (aa ad ac)))
   (aw (aY (i:=3) pF.nd rfl (aN rfl) (cA (aa ad ac)))
   (aQ (mr PassesOwn.never rfl (mW (pv 0)) (db (i:=4) pF.nd rfl (aN rfl))
     (aQ (aY (i:=5) pF.nd rfl (aN rfl) (aF dv (aJ cm r1 Qr (aa (pv 4) (aa ai ac))) ai))
   (aQ (bA (aI mY (bP cP Qr T.len gc (aa (bE d_ (pv 2) (kM iN ai) (λ_ _=>Qr)) ac)) ai (aS _)) (am (dJ (dW cQ cI cH gA (pv 2) (aa ad ac)))) aW)
   (aQ (bA (aI mY (bP cP Qr T.len gc (aa (bE d_ (pv 3) (kM iN ai) (λ_ _=>Qr)) ac)) ai (aS _)) (am (dJ (dW cQ cI cH gA (pv 3) (aa ad ac)))) aW)
   (am (bA (aI jn (pv 5) ai (aS _)) (am (dJ (dW cQ cI cH gA (pv 2) (aa (aJ cl hr Qr (aa (pv 4) (aa (pv 1) (aa i6 ac)))) ac)))) (am (bA (aI jn (pv 5) ai (aS _)) (am (dJ (dW cQ cI cH gA (pv 3) (aa (aJ cl hr Qr (aa (pv 4) (aa (pv 1) (aa i6 ac)))) ac)))) (am (bA (aI b4 (pv 5) ai (aS _)) (am (dJ (dW cQ cI cH gA (pv 2) (aa (aF aM (aF aM (bE d_ (pv 3) (kM iN ai) (λ_ _=>Qr)) ad) (bE d_ (pv 3) (aF dv (aJ cm r1 Qr (aa (pv 4) (aa ai ac))) (bP eL Qr T.len gc (aa (pv 3) ac))) (λ_ _=>Qr))) ac)))) (am (bA (aI jn (pv 5) ai (aS _)) (am (dJ (dW cQ cI cH gA (pv 2) (aa (aJ cr hr Qr (aa (pv 4) (aa (pv 1) (aa (bE d_ (pv 2) (kM iN ai) (λ_ _=>Qr)) (aa (aJ cl hr Qr (aa (pv 4) (aa (pv 1) (aa i6 ac)))) (aa i6 ac)))))) ac)))) (am (dJ (dW cQ cI cH gA (pv 3) (aa (aJ cr hr Qr (aa (pv 4) (aa (pv 1) (aa (bE d_ (pv 3) (kM iN ai) (λ_ _=>Qr)) (aa (aJ cl hr Qr (aa (pv 4) (aa (pv 1) (aa i6 ac)))) (aa i6 ac)))))) ac))))))))))))))))
   (am (aR (aF eR (pv 2) (pv 3))))))),?_⟩
  refine⟨(by show 1<=sizeLine;decide),λk xe=>⟨(by show 1<=sizeLine;decide),λj Y=>?_⟩⟩;have J:j≠k:=λz=>by
   rw[z,ak]at Y;cases Y
  have W:H j=none:=by rw[b5 J]at Y;exact Y
  have s0:al H (upd (upd H k (.lst [.str "round"])) j (.lst [.str "-7"])):=jk (jk (al.refl _) xe) W;have c0:(upd (upd H k (.lst [.str "round"])) j (.lst [.str "-7"])) k=some (.lst [.str "round"]):=by rw[b5 (Ne.symm J)];exact ak
  have t0:(upd (upd H k (.lst [.str "round"])) j (.lst [.str "-7"])) j=some (.lst [.str "-7"]):=ak;refine⟨λm H'=>al H H'/\∃cs ts,CT cs ts 24/\cs≠ []/\ts≠ []/\H' k=some (.lst (cs.map V.str))/\H' j=some (.lst (ts.map V.str))/\∃X O,m=[some (.ref a),some (.ref l),some (.ref k),some (.ref j),X,O],?_,?_⟩
  ·generalize upd (upd H k (.lst [.str "round"])) j (.lst [.str "-7"])=H1 at s0 c0 t0;refine⟨_,rfl,a,rfl,⟨_,SqL.of (s0 _ _ ha)⟩,qg (K:=K) (xs:=ms.map V.int) (λi m H'=>al H H'/\∃cs ts,CT cs ts i/\cs≠ []/\ts≠ []/\H' k=some (.lst (cs.map V.str))/\H' j=some (.lst (ts.map V.str))/\∃X O,m=[some (.ref a),some (.ref l),some (.ref k),some (.ref j),X,O]) ⟨s0,(["round"]:List Str),(["-7"]:List Str),⟨?_,?_,Qd,Qd⟩,b_ _ _,b_ _ _,c0,t0,_,_,rfl⟩ (λi m H' _ h=>SqL.of (h.1 _ _ ha)) (λi v m H' hv h=>?_) (λm H' h=>?_)⟩
   ·intro x g;rw[cy.mp g];exact⟨tx8_of Qk,gE (c:=114) Qk Qd⟩
   ·intro x g;rw[cy.mp g];exact⟨tx8_of Qk,gE (c:=45) Qk Qd⟩
   ·obtain⟨s1,cs,ts,ct,I,N,B,G,X,O,rfl⟩:=h;clear s0 c0 t0;have hi:i<24:=by
     have:=(b8.mp hv).1;rw[ay]at this;omega
    obtain⟨cell,rfl⟩:∃c:Int,v=.int c:=by
     rw[cE]at hv;cases e:ms[i]? with
     |none=>rw[e]at hv;cases hv
     |some c=>rw[e]at hv;cases hv;exact⟨c,rfl⟩
    refine⟨λm H2=>H'=H2/\∃wy:Int,m=[some (.ref a),some (.ref l),some (.ref k),some (.ref j),some (.int cell),some (.int wy)],⟨_,rfl,cell,0,rfl,Qd,Qd,λn hn=>⟨_,_,rfl,rfl,(by show(0:Int)<9;decide),rfl,_,rfl⟩⟩,?_⟩;rintro _ _⟨rfl,wy,rfl⟩;refine⟨λm H2=>al H H2/\(∃d c,(∀x∈d++[c],Tx8 x 1308 (6*i) (4*i+1)/\Hs x)/\d.length<=1+2*i/\c.length<=600/\H2 k=some (.lst ((d++[c]).map V.str)))/\H2 j=some (.lst (ts.map V.str))/\m=[some (.ref a),some (.ref l),some (.ref k),some (.ref j),some (.int cell),some (.int wy)],?_,?_⟩
    ·obtain⟨d,c,rfl⟩:=zB I;have cc:=ct.cl c (aZ _ aA);have lc:=cc.1.len;have o:=ct.cn;rw[ae]at o;have o:d.length+1<=1+2*i:=o;refine⟨_,rfl,_,rfl,k,_,_,.str c,rfl,rfl,SqL.of B,by rw[il];exact lF _ _,c,rfl,iy Qo,_,_,rfl,rfl,_,rfl,eG (λh=>?_) (λh=>?_)⟩
     ·refine⟨_,rfl,.inl ⟨rfl,_,SqL.of B⟩,k,_,.str "ring",rfl,rfl,B,?_,jk s1 xe,⟨d++[c],"ring",λx g=>?_,by rw[ae];exact o,Qk,by rw[ak,il (d++[c])]⟩,by rw[b5 J];exact G,rfl⟩
      ·rw[ay,ae];exact iG (show _<=100 by show d.length+1<=100;omega) Qd
      ·rcases ng g with g|rfl
       ·exact ct.cl x g
       ·exact⟨(tx8_of Qk:Tx8 "ring" 1308 0 0).mono Qo Qo Qo,gE (c:=114) Qk Qd⟩
     ·have h:¬(600:Int)<(c.length:Int):=λz=>h (aH z);exact⟨s1,⟨d,c,ct.cl,Qo,Qo,B⟩,G,rfl⟩
    rintro _ H2⟨s2,⟨d,c,xc,o,xa,xb⟩,U,rfl⟩;refine⟨λm H3=>al H H3/\(∃b t,CU d b c t i/\H3 j=some (.lst ((b++[t]).map V.str)))/\H3 k=some (.lst ((d++[c]).map V.str))/\m=[some (.ref a),some (.ref l),some (.ref k),some (.ref j),some (.int cell),some (.int wy)],?_,?_⟩
    ·obtain⟨b,t,rfl⟩:=zB N;have tt:=ct.tl t (aZ _ aA);have lt:=tt.1.len;have M:=ct.tn;rw[ae]at M;have M:b.length+1<=1+2*i:=M;refine⟨_,rfl,_,rfl,j,_,_,.str t,rfl,rfl,SqL.of U,by rw[il];exact lF _ _,t,rfl,iy Qo,_,_,rfl,rfl,_,rfl,eG (λh=>?_) (λh=>?_)⟩
     ·refine⟨_,rfl,.inl ⟨rfl,_,SqL.of U⟩,j,_,.str "5",rfl,rfl,U,?_,jk s2 W,⟨b++[t],"5",⟨xc,λx g=>?_,o,by rw[ae];exact M,xa,Qk⟩,by rw[ak,il (b++[t])]⟩,by rw[b5 (Ne.symm J)];exact xb,rfl⟩
      ·rw[ay,ae];exact iG (show _<=100 by show b.length+1<=100;omega) Qd
      ·rcases ng g with g|rfl
       ·exact ct.tl x g
       ·exact⟨(tx8_of Qk:Tx8 "5" 704 0 0).mono Qo Qo Qo,gE (c:=53) Qk Qd⟩
     ·have h:¬(600:Int)<(t.length:Int):=λz=>h (aH z);exact⟨s2,⟨b,t,⟨xc,ct.tl,o,Qo,xa,Qo⟩,U⟩,xb,rfl⟩
    clear B G xb U s1 s2 I N ct cs ts xc o xa;rintro _ H3⟨s3,⟨b,t,C,G⟩,B,rfl⟩;have tc:=C.cl c (aZ _ aA);have tt:=C.tl t (aZ _ aA);have c6:Tx8 c 600 (6*i) (4*i+1):=⟨C.ch,tc.1.asc,tc.1.one,tc.1.two⟩;have t6:Tx8 t 600 (3*i) (2*i):=⟨C.th,tt.1.asc,tt.1.one,tt.1.two⟩;have o:=C.cn;have M:=C.tn;have xd:((d++[c]).map V.str).length <sizeLine:=by
     rw[ay,ae];exact iG (show _<=100 by show d.length+1<=100;omega) Qd
    have xf:((b++[t]).map V.str).length <sizeLine:=by
     rw[ay,ae];exact iG (show _<=100 by show b.length+1<=100;omega) Qd
    have S:∀(y:Str)(D:Hp),al H3 D->Tx8 y 1308 (6*(i+1)) (4*(i+1)+1)->Hs y->al H (upd D k (.lst ((d++[c]).map V.str++[.str y])))/\∃cs ts,CT cs ts (i+1)/\cs≠ []/\ts≠ []/\(upd D k (.lst ((d++[c]).map V.str++[.str y]))) k=some (.lst (cs.map V.str))/\(upd D k (.lst ((d++[c]).map V.str++[.str y]))) j=some (.lst (ts.map V.str))/\∃X O,[some (V.ref a),some (.ref l),some (.ref k),some (.ref j),some (.int cell),some (.int wy)]=[some (.ref a),some (.ref l),some (.ref k),some (.ref j),X,O]:=λy D u L R=>by
     refine⟨jk (s3.trans u) xe,(d++[c])++[y],b++[t],⟨λx g=>?_,λx g=>?_,?_,?_⟩,Qs,Qs,by rw[ak,il (d++[c])],by rw[b5 J];exact u _ _ G,_,_,rfl⟩
     ·rcases ng g with g|rfl
      ·exact⟨(C.cl x g).1.mono Qo Qo Qo,(C.cl x g).2⟩
      ·exact⟨L,R⟩
     ·exact⟨(C.tl x g).1.mono Qo Qo Qo,(C.tl x g).2⟩
     ·simp only[ae,aK,bZ];omega
     ·simp only[ae,aK,bZ];omega
    have Z:∀(y:Str)(D:Hp),al H3 D->Tx8 y 704 (3*(i+1)) (2*(i+1))->Hs y->al H (upd D j (.lst ((b++[t]).map V.str++[.str y])))/\∃cs ts,CT cs ts (i+1)/\cs≠ []/\ts≠ []/\(upd D j (.lst ((b++[t]).map V.str++[.str y]))) k=some (.lst (cs.map V.str))/\(upd D j (.lst ((b++[t]).map V.str++[.str y]))) j=some (.lst (ts.map V.str))/\∃X O,[some (V.ref a),some (.ref l),some (.ref k),some (.ref j),some (.int cell),some (.int wy)]=[some (.ref a),some (.ref l),some (.ref k),some (.ref j),X,O]:=λy D u L R=>by
     refine⟨jk (s3.trans u) W,d++[c],(b++[t])++[y],⟨λx g=>?_,λx g=>?_,?_,?_⟩,Qs,Qs,by rw[b5 (Ne.symm J)];exact u _ _ B,by rw[ak,il (b++[t])],_,_,rfl⟩
     ·exact⟨(C.cl x g).1.mono Qo Qo Qo,(C.cl x g).2⟩
     ·rcases ng g with g|rfl
      ·exact⟨(C.tl x g).1.mono Qo Qo Qo,(C.tl x g).2⟩
      ·exact⟨L,R⟩
     ·simp only[ae,aK,bZ];omega
     ·simp only[ae,aK,bZ];omega
    refine⟨_,rfl,_,_,rfl,rfl,_,rfl,eG (λ_=>?_) (λ_=>⟨_,rfl,_,_,rfl,rfl,_,rfl,eG (λ_=>?_) (λ_=>⟨_,rfl,rfl,_,rfl,eG (λ_=>?_) (λ_=>⟨_,rfl,_,_,rfl,rfl,_,rfl,eG (λ_=>?_) (λ_=>?_)⟩)⟩)⟩)⟩
    ·exact⟨_,rfl,.inl ⟨rfl,_,SqL.of B⟩,_,rfl,_,rfl,cell,l,ws,true,rfl,s3 _ _ hl,hw,λy D L R u=>⟨k,_,_,rfl,rfl,u _ _ B,xd,S y D u (L.mono Qo Qo (by show 2<=_;omega)) R⟩⟩
    ·exact⟨_,rfl,.inl ⟨rfl,_,SqL.of G⟩,_,rfl,_,rfl,cell,l,ws,false,rfl,s3 _ _ hl,hw,λy D L R u=>⟨j,_,_,rfl,rfl,u _ _ G,xf,Z y D u (L.mono Qo Qo (by show 1<=_;omega)) R⟩⟩
    ·have xj:(" <= ":Str).length=4:=Qk;refine⟨_,rfl,.inl ⟨rfl,_,SqL.of B⟩,_,rfl,_,rfl,j,_,_,.str t,rfl,rfl,SqL.of G,by rw[il];exact lF _ _,_,_,rfl,rfl,iy (by have:=C.th;omega),_,rfl,_,rfl,cell,6,rfl,Qd,Qd,λn6 xi=>⟨_,rfl,j,_,rfl,.inl (SqL.of G),_,_,rfl,rfl,?_,?_⟩⟩
     ·show(0:Int)<(((b++[t]).map V.str).length:Int);rw[ay,ae];show(0:Int)<((b.length+1:Nat):Int);omega
     ·have xg:(0:Int)<((b++[t]).length:Int):=by
       rw[ae];show(0:Int)<((b.length+1:Nat):Int);omega
      obtain⟨y,L,ey⟩:=oo (xs:=b++[t]) (n:=n6%(((b++[t]).map V.str).length:Int)) (by rw[ay];exact cX _ Qo) (by rw[ay];exact df _ xg);have ty:=C.tl y L;refine⟨j,_,_,.str y,rfl,rfl,SqL.of G,ey,_,_,rfl,rfl,?_,k,_,_,rfl,rfl,B,xd,S _ H3 (al.refl _) ?_ ((tt.2.app _).app _)⟩
      ·rw[ag];exact iy (by have:=C.th;have:=ty.1.len;omega)
      ·exact((t6.app (tx8_of Qk:Tx8 " <= " 4 0 0)).appN ty.1 ty.2.hn).mono Qo Qo Qo
    ·exact⟨_,rfl,.inl ⟨rfl,_,SqL.of B⟩,_,rfl,_,rfl,_,rfl,_,rfl,k,_,_,.str c,rfl,rfl,SqL.of B,by rw[il];exact lF _ _,_,rfl,_,rfl,cell,l,ws,true,rfl,s3 _ _ hl,hw,λy D L R u=>⟨cell,l,ws,c,y,true,_,_,rfl,u _ _ (s3 _ _ hl),hw,c6,tc.2,L,R,λz H5 hz sz s5=>⟨k,_,_,rfl,rfl,(u.trans s5) _ _ B,xd,S z H5 (u.trans s5) (hz.mono Qo (by show 6*i+4<=_;omega) (by show 4*i+1+2+1<=_;omega)) sz⟩⟩⟩
    ·exact⟨_,rfl,.inl ⟨rfl,_,SqL.of G⟩,_,rfl,_,rfl,_,rfl,_,rfl,j,_,_,.str t,rfl,rfl,SqL.of G,by rw[il];exact lF _ _,_,rfl,_,rfl,cell,l,ws,false,rfl,s3 _ _ hl,hw,λy D L R u=>⟨cell,l,ws,t,y,false,_,_,rfl,u _ _ (s3 _ _ hl),hw,t6,tt.2,L,R,λz H5 hz sz s5=>⟨j,_,_,rfl,rfl,(u.trans s5) _ _ G,xf,Z z H5 (u.trans s5) (hz.mono Qo (by show 3*i+3<=_;omega) (by show 2*i+1+1<=_;omega)) sz⟩⟩⟩
   ·obtain⟨s1,cs,ts,ct,I,N,B,G,X,O,rfl⟩:=h;have lm:(ms.map V.int).length<=24:=by rw[ay];exact hm
    refine⟨s1,cs,ts,⟨λx g=>⟨(ct.cl x g).1.mono Qo Qo Qo,(ct.cl x g).2⟩,λx g=>⟨(ct.tl x g).1.mono Qo Qo Qo,(ct.tl x g).2⟩,?_,?_⟩,I,N,B,G,X,O,rfl⟩
    ·have:=ct.cn;omega
    ·have:=ct.tn;omega
  ·rintro _ H1⟨s1,cs,ts,ct,I,N,B,G,X,O,rfl⟩;have l1:=ct.cn;have l2:=ct.tn;refine⟨_,rfl,_,rfl,k,j,_,_,rfl,rfl,B,G,?_,λp hp=>?_⟩
   ·rw[ay,ay];exact af (show _<=200 by omega) Qd
   refine q p (cs++ts) _ (s1.trans (al.new hp)) (by rw[aT];exact ak) ?_ ?_ λx g=>?_
   ·rw[ae];have:=e_.mpr I;omega
   ·rw[ae];omega
   ·rcases bY.mp g with g|g
    ·exact(ct.cl x g).1.mono Qd Qd Qd
    ·exact(ct.tl x g).1.mono Qd Qd Qd
end
end Net
namespace L2
open PySem PySem.Spec PyProof.Rows
section
variable{X:Cx}
theorem sT:ml X (binaryOp .Mult) (λx y H Q=>∃z n,x=.str z/\y=.int n/\MulOk z n/\Q (.str (PySem.Txt.mul z n)) H):=by
 intro pins s σ H x y v u Q I b a h;obtain⟨z,n,rfl,rfl,hok,q⟩:=h;obtain⟨t,rfl⟩:=b;obtain⟨t',rfl⟩:=a;exact PySem.SB.mul hok λt' k=>⟨.str _,H,I.tok _,⟨t',rfl⟩,q⟩
theorem CB{a b:Expr}{c:Operator}{pos:Pos}{es:List Expr}{te:TE}{t:TA}(d:PE X (.BinOp a c b pos) te)(e:PA X es t):PA X (.BinOp a c b pos::es) (uA te t):=aa d e
end
end L2
namespace Net
open PySem L2 L2.Tx
def Ga(y:Str):Prop:=y.length<=2660/\(∀c∈y.cps.toList,c<128)/\wt y.cps.toList<650
theorem Ga.okX{y:Str}(h:Ga y):okX y:=⟨by have:=h.1;omega,λc a=>mE (h.2.1 c a) Qd⟩
theorem Tx8.ok{x:Str}{L a b:Nat}(h:Tx8 x L a b)(h1:L<=2660)(h2:a+3*b<650):Ga x:=by
 refine⟨af h.len h1,h.asc,?_⟩;have:=h.one;have:=h.two;unfold wt;omega
theorem tV(a b:List Nat):w2 a+w2 b<=w2 (a++b):=by
 induction a with
 |nil=>show 0+w2 b<=w2 b;omega
 |cons c r f=>
  show(if c=111/\r.take 2=[116,32]then 1 else 0)+w2 r+w2 b<=(if c=111/\(r++b).take 2=[116,32]then 1 else 0)+w2 (r++b);by_cases h:c=111/\r.take 2=[116,32]
  ·have h2:c=111/\(r++b).take 2=[116,32]:=by
    refine⟨h.1,?_⟩
    match r,h.2 with
    |d::e::r,z=>exact z
    |[d],z=>exact absurd (bL List.length z) Qs
    |[],z=>exact absurd (bL List.length z) Qs
   rw[aO h,aO h2];omega
  ·rw[aG h];omega
theorem Ir(c:Nat):wS c<=4:=by
 unfold wS;split
 ·decide
 ·split
  ·decide
  ·split<;>decide
theorem EI{x y:Str}{L a b:Nat}{A D B m:List Nat}{k:Nat}(h:Tx8 x L a b)(ex:x.cps.toList=A++(D++B))(e:y.cps.toList=A++(m++B))(j:∀c∈m,c<128)(h1:w1 m<=k)(h2:w2 m=0):Tx8 y (L+m.length) (a+k) (b+2):=by
 have f:=h.len;rw[<-bQ,ex]at f;simp only[ae]at f;have g:=h.one;have i:=h.two;rw[ex,kh,kh]at g;rw[ex]at i;have s1:=tV A (D++B);have q:=tV D B;refine⟨?_,λc d=>?_,?_,?_⟩
 ·rw[<-bQ,e];simp only[ae];omega
 ·rw[e]at d;rcases bY.mp d with d|d
  ·exact h.asc c (by rw[ex];exact jE _ d)
  ·rcases bY.mp d with d|d
   ·exact j c d
   ·exact h.asc c (by rw[ex];exact aZ _ (aZ _ d))
 ·rw[e,kh,kh];omega
 ·rw[e];have l:=wU A (m++B);have s:=wU m B;have:∀{p:Prop}[Decidable p],(if p then 1 else 0)<=1:=λ{p}_=>by split<;>decide
  have n:=this (p:=qb (m++B));have o:=this (p:=qb B);omega
theorem vJ(z v:List Nat):∀(ws:List (List Nat))(j:Nat),j<ws.length->∃A o B,glueL z ws=A++(o++B)/\glueL z (ws.set j v)=A++(v++B)
 |[],j,h=>nomatch h
 |[p],0,h=>⟨[],p,[],by simp[glueL],by simp[glueL]⟩
 |p::q::r,0,h=>⟨[],p,z++glueL z (q::r),rfl,rfl⟩
 |p::q::r,j+1,h=>by
  obtain⟨A,o,B,h1,h2⟩:=vJ z v (q::r) j (by simpa using h);refine⟨p++(z++A),o,B,?_,?_⟩
  ·show p++(z++glueL z (q::r))=_;rw[h1];simp only[ax]
  ·show glueL z (p::(q::r).set j v)=_;rw[qc z p (by intro e;have:=bL List.length e;simp at this),h2];simp only[ax]
 |[p],j+1,h=>by simp at h
theorem vK(z:List Nat):∀(ws:List (List Nat))(v:List Nat),v∈ws->∃A B,glueL z ws=A++(v++B)
 |[p],v,h=>⟨[],[],by rw[cy.mp h];simp[glueL]⟩
 |p::q::r,v,h=>by
  rcases aq.mp h with rfl|h
  ·exact⟨[],z++glueL z (q::r),rfl⟩
  ·obtain⟨A,B,e⟩:=vK z (q::r) v h;refine⟨p++(z++A),B,?_⟩;show p++(z++glueL z (q::r))=_;rw[e];simp only[ax]
theorem vI(z:List Nat):∀ws:List (List Nat),(ws.map List.length).sum<=(glueL z ws).length
 |[]=>ao _
 |[p]=>by simp[glueL]
 |p::q::r=>by
  have:=vI z (q::r);show p.length+((q::r).map List.length).sum<=(p++(z++glueL z (q::r))).length;simp only[ae];omega
theorem DD(l:List Nat):glueL [32] (gg 32 [] l)=l:=by
 rw[lv];show []++jl 32 [32] l=l;rw[nP];rfl
theorem HH{n j:Nat}(h:j<n):Dk n (j:Int)=some j:=by
 unfold Dk;rw[aO Qo,aO Qo];rfl
theorem qi:(" ":Str)=⟨#[32]⟩:=Qk
theorem Io{x:Str}{L a b:Nat}(h:Tx8 x L a b){j i:Nat}(n:j<(gg 32 [] x.cps.toList).length){v:List Nat}(f:v∈gg 32 [] x.cps.toList):Tx8 (Str.join " " (((gg 32 [] x.cps.toList).set j v).map mkS)) (L+L) (a+a) (b+2):=by
 have p:32∉v:=lT 32 _ [] Qs v f;obtain⟨A,o,B,g,s⟩:=vJ [32] v _ j n;obtain⟨t,u,d⟩:=vK [32] _ v f;rw[DD]at g d;have l:=h.len;rw[<-bQ,d]at l;simp only[ae]at l;have q:=h.one;rw[d,kh,kh]at q;have:=EI (y:=Str.join " " (((gg 32 [] x.cps.toList).set j v).map mkS)) (m:=v) (k:=a) h g (by rw[qi,iF];exact s) (λc e=>h.asc c (by rw[d];exact aZ _ (jE _ e))) Qo (FW λc e z=>p (by rw[<-z];exact e));exact this.mono Qo (ao _) (ao _)
def BU:Sp:=λvs H Q _=>∃(x:Str)(a b:Int),vs=[.str x,.int a,.int b]/\Tx8 x 1308 144 97/\∀y H',Ga y->al H H'->Q (.str y) H'
def sg40:Str:="0123456789-+*<=():{},. abefnotXYZr_&|!>/"
theorem Ep:(∀c∈sg40.cps.toList,c<128)/\sg40.length=40:=Qk
theorem Dl(a n:Nat)(h:n<=a):Builtin.Str.strSliceIndices (some (a:Int)) none 1 n=Builtin.Str.strSliceIndices (some (n:Int)) none 1 n:=by
 unfold Builtin.Str.strSliceIndices;have b:¬((a:Int)<0):=Qo;have c:¬((n:Int)<0):=Qo;have d:min (a:Int) (n:Int)=n:=Qo;simp[b,c,d]
theorem mR(z:Str)(a:Nat):(PySem.Txt.slice z (some (a:Int)) none).cps.toList=z.cps.toList.drop a:=by
 by_cases h:a<=z.length
 ·exact iz z h
 ·have e:PySem.Txt.slice z (some (a:Int)) none=PySem.Txt.slice z (some (z.length:Int)) none:=by
   unfold PySem.Txt.slice;rw[Dl a z.length Qo]
  rw[e,iz z (ao _),DY (by rw[bQ];exact ao _),DY (by rw[bQ];omega)]
def j7:List Str:=[("":Str),(" ":Str),("ring ":Str),(" ring":Str),("way a":Str),("way a b c":Str),("way a  b":Str),("Way a b":Str),("way aB b":Str)]
def j6:List Str:=[("way abcd XYZA":Str),("cost a b <= x":Str),("cost a b<=3":Str),("cost a b <= -0":Str),("must a b":Str)]
def kP:List Str:=[("1 <= 2 <= 3":Str),("(1 <= 2)":Str),("(ring and round":Str),("ring and round":Str),("(1 + ring)":Str)]
def lV:List Str:=[("not 3":Str),("not(ring)":Str),("-1 * 2 <= 3":Str),("+1 <= 2":Str),("1* 2":Str),("(1 + 2 + 3)":Str),("(1 - 2)":Str)]
def mZ:List Str:=[("least(1,2)":Str),("least(1, 2":Str),("most (1, 2)":Str),("least(1, ring)":Str),("size {a,b}":Str)]
def oG:List Str:=[("size {a, }":Str),("size {}":Str),("size { }":Str),("size a":Str),("each x in all: ring":Str),("()":Str)]
def qw:List Str:=[("each XYZW in all: ring":Str),("each X in all ring":Str),("each X in all:ring":Str),("size from":Str)]
def uY:List Str:=[("each X in {}: ring":Str),("some X in from X: way X X":Str),("pairs all":Str),("pairs to to to to":Str)]
def AS:List Str:=[("((1 + 2) <= 3 and (ring or not round))":Str),("(1 + (2 + 3))":Str),("2 * 3 * 4 <= 5":Str)]
def Fh:List Str:=[("((1 + 2))":Str),PySem.Txt.mul "9" 60,PySem.Txt.mul "9" 61,("cost a b <= ":Str)++PySem.Txt.mul "9" 61,("0 * 1":Str),("00 * 1":Str),("1_0":Str)]
def CV:List Str:=j7++j6++kP++lV++mZ++oG++qw++uY++AS++Fh
instance(x:Str):Decidable (Ga x):=by unfold Ga;infer_instance
theorem Fg:∀x∈CV,Ga x:=Qk
theorem CS:CV.length<=100:=Qk
def FZ:Sp:=λvs H Q _=>vs=[]/\∀l H',al H H'->H' l=some (.lst (CV.map V.str))->Q (.ref l) H'
section
variable{P:Program}{w:World}{K:ah}{mg:Str->Option Value}{base:Heap}
theorem jj:bD ["_law_some"] [] (aU s_l_odd):=⟨rfl,rfl,rfl,Qk,rfl,Qk,Qk⟩
theorem Hc{f:Addr}{fd:FuncData}(F:fg K "_law_odd" "_law_odd" s_l_odd f fd):FnOk P w K mg base gW 1 f fd [] FZ:=by
 refine F.ok jj (λvs H Q E h=>?_) (λG A outer s H vs Q E hr h=>?_)
 ·obtain⟨rfl,_⟩:=h;rfl
 ·obtain⟨rfl,q⟩:=h;refine⟨_,(aQ (@aY _ _ 0 _ _ _ _ jj.nd rfl (aN rfl) (@cA _ _ _ _ (@b9 _ _ _ _ _ _ _ ad (@b9 _ _ _ _ _ _ _ ad (@b9 _ _ _ _ _ _ _ ad (@b9 _ _ _ _ _ _ _ ad (@b9 _ _ _ _ _ _ _ ad (@b9 _ _ _ _ _ _ _ ad (@b9 _ _ _ _ _ _ _ ad (@b9 _ _ _ _ _ _ _ ad (@b9 _ _ _ _ _ _ _ ad ac)))))))))) rfl (aN rfl))
   (aQ (@aY _ _ 0 _ _ _ _ jj.nd rfl (aN rfl) (@aF _ _ _ _ _ _ _ _ eR (pv 0) (@cA _ _ _ _ (@b9 _ _ _ _ _ _ _ ad (@b9 _ _ _ _ _ _ _ ad (@b9 _ _ _ _ _ _ _ ad (@b9 _ _ _ _ _ _ _ ad (@b9 _ _ _ _ _ _ _ ad ac))))))) rfl (aN rfl))
   (aQ (@aY _ _ 0 _ _ _ _ jj.nd rfl (aN rfl) (@aF _ _ _ _ _ _ _ _ eR (pv 0) (@cA _ _ _ _ (@b9 _ _ _ _ _ _ _ ad (@b9 _ _ _ _ _ _ _ ad (@b9 _ _ _ _ _ _ _ ad (@b9 _ _ _ _ _ _ _ ad (@b9 _ _ _ _ _ _ _ ad ac))))))) rfl (aN rfl))
   (aQ (@aY _ _ 0 _ _ _ _ jj.nd rfl (aN rfl) (@aF _ _ _ _ _ _ _ _ eR (pv 0) (@cA _ _ _ _ (@b9 _ _ _ _ _ _ _ ad (@b9 _ _ _ _ _ _ _ ad (@b9 _ _ _ _ _ _ _ ad (@b9 _ _ _ _ _ _ _ ad (@b9 _ _ _ _ _ _ _ ad (@b9 _ _ _ _ _ _ _ ad (@b9 _ _ _ _ _ _ _ ad ac))))))))) rfl (aN rfl))
   (aQ (@aY _ _ 0 _ _ _ _ jj.nd rfl (aN rfl) (@aF _ _ _ _ _ _ _ _ eR (pv 0) (@cA _ _ _ _ (@b9 _ _ _ _ _ _ _ ad (@b9 _ _ _ _ _ _ _ ad (@b9 _ _ _ _ _ _ _ ad (@b9 _ _ _ _ _ _ _ ad (@b9 _ _ _ _ _ _ _ ad ac))))))) rfl (aN rfl))
   (aQ (@aY _ _ 0 _ _ _ _ jj.nd rfl (aN rfl) (@aF _ _ _ _ _ _ _ _ eR (pv 0) (@cA _ _ _ _ (@b9 _ _ _ _ _ _ _ ad (@b9 _ _ _ _ _ _ _ ad (@b9 _ _ _ _ _ _ _ ad (@b9 _ _ _ _ _ _ _ ad (@b9 _ _ _ _ _ _ _ ad (@b9 _ _ _ _ _ _ _ ad ac)))))))) rfl (aN rfl))
   (aQ (@aY _ _ 0 _ _ _ _ jj.nd rfl (aN rfl) (@aF _ _ _ _ _ _ _ _ eR (pv 0) (@cA _ _ _ _ (@b9 _ _ _ _ _ _ _ ad (@b9 _ _ _ _ _ _ _ ad (@b9 _ _ _ _ _ _ _ ad (@b9 _ _ _ _ _ _ _ ad ac)))))) rfl (aN rfl))
   (aQ (@aY _ _ 0 _ _ _ _ jj.nd rfl (aN rfl) (@aF _ _ _ _ _ _ _ _ eR (pv 0) (@cA _ _ _ _ (@b9 _ _ _ _ _ _ _ ad (@b9 _ _ _ _ _ _ _ ad (@b9 _ _ _ _ _ _ _ ad (@b9 _ _ _ _ _ _ _ ad ac)))))) rfl (aN rfl))
   (aQ (@aY _ _ 0 _ _ _ _ jj.nd rfl (aN rfl) (@aF _ _ _ _ _ _ _ _ eR (pv 0) (@cA _ _ _ _ (@b9 _ _ _ _ _ _ _ ad (@b9 _ _ _ _ _ _ _ ad (@b9 _ _ _ _ _ _ _ ad ac))))) rfl (aN rfl))
   (aQ (@aY _ _ 0 _ _ _ _ jj.nd rfl (aN rfl) (@aF _ _ _ _ _ _ _ _ eR (pv 0) (@cA _ _ _ _ (@b9 _ _ _ _ _ _ _ ad (@CB _ _ _ _ _ _ _ _ (@aF _ _ _ _ _ _ _ _ sT ad ai) (@CB _ _ _ _ _ _ _ _ (@aF _ _ _ _ _ _ _ _ sT ad ai) (@CB _ _ _ _ _ _ _ _ (@aF _ _ _ _ _ _ _ _ aM ad (@aF _ _ _ _ _ _ _ _ sT ad ai)) (@b9 _ _ _ _ _ _ _ ad (@b9 _ _ _ _ _ _ _ ad (@b9 _ _ _ _ _ _ _ ad ac))))))))) rfl (aN rfl))
   (am (aR (pv 0))))))))))))),?_⟩
  refine⟨λb H'=>al H H'/\∃p,H' p=some (.lst ((j7).map V.str))/\b=[some (V.ref p)],?_,?_⟩
  ·exact⟨(by show 9<=sizeLine;decide),λp R=>⟨al.new R,p,ak,rfl⟩⟩
  rintro _ H0⟨u,S,j,rfl⟩;refine⟨λb H'=>al H H'/\∃p,H' p=some (.lst ((j7++j6).map V.str))/\b=[some (V.ref p)],?_,?_⟩
  ·refine⟨_,rfl,(by show 5<=sizeLine;decide),λe a=>⟨S,e,_,j6.map V.str,rfl,rfl,(al.new a) _ _ j,ak,by show((j7).map V.str).length +(j6.map V.str).length<=sizeLine;decide+kernel,λd c=>⟨(u.upd a).upd c,d,?_,rfl⟩⟩⟩;rw[aT];exact ak
  clear j u;rintro _ H1⟨s1,d,t,rfl⟩;refine⟨λb H'=>al H H'/\∃p,H' p=some (.lst ((j7++j6++kP).map V.str))/\b=[some (V.ref p)],?_,?_⟩
  ·refine⟨_,rfl,(by show 5<=sizeLine;decide),λe a=>⟨d,e,_,kP.map V.str,rfl,rfl,(al.new a) _ _ t,ak,by show((j7++j6).map V.str).length +(kP.map V.str).length<=sizeLine;decide+kernel,λd c=>⟨(s1.upd a).upd c,d,?_,rfl⟩⟩⟩;rw[aT];exact ak
  clear t s1;rintro _ H2⟨x,p2,D,rfl⟩;refine⟨λb H'=>al H H'/\∃p,H' p=some (.lst ((j7++j6++kP++lV).map V.str))/\b=[some (V.ref p)],?_,?_⟩
  ·refine⟨_,rfl,(by show 7<=sizeLine;decide),λe a=>⟨p2,e,_,lV.map V.str,rfl,rfl,(al.new a) _ _ D,ak,by show((j7++j6++kP).map V.str).length +(lV.map V.str).length<=sizeLine;decide+kernel,λd c=>⟨(x.upd a).upd c,d,?_,rfl⟩⟩⟩;rw[aT];exact ak
  clear D x;rintro _ X⟨C,L,m,rfl⟩;refine⟨λb H'=>al H H'/\∃p,H' p=some (.lst ((j7++j6++kP++lV++mZ).map V.str))/\b=[some (V.ref p)],?_,?_⟩
  ·refine⟨_,rfl,(by show 5<=sizeLine;decide),λe a=>⟨L,e,_,mZ.map V.str,rfl,rfl,(al.new a) _ _ m,ak,by show((j7++j6++kP++lV).map V.str).length +(mZ.map V.str).length<=sizeLine;decide+kernel,λd c=>⟨(C.upd a).upd c,d,?_,rfl⟩⟩⟩;rw[aT];exact ak
  clear m C;rintro _ Y⟨g,T,k,rfl⟩;refine⟨λb H'=>al H H'/\∃p,H' p=some (.lst ((j7++j6++kP++lV++mZ++oG).map V.str))/\b=[some (V.ref p)],?_,?_⟩
  ·refine⟨_,rfl,(by show 6<=sizeLine;decide),λe a=>⟨T,e,_,oG.map V.str,rfl,rfl,(al.new a) _ _ k,ak,by show((j7++j6++kP++lV++mZ).map V.str).length +(oG.map V.str).length<=sizeLine;decide+kernel,λd c=>⟨(g.upd a).upd c,d,?_,rfl⟩⟩⟩;rw[aT];exact ak
  clear k g;rintro _ Z⟨v,O,i,rfl⟩;refine⟨λb H'=>al H H'/\∃p,H' p=some (.lst ((j7++j6++kP++lV++mZ++oG++qw).map V.str))/\b=[some (V.ref p)],?_,?_⟩
  ·refine⟨_,rfl,(by show 4<=sizeLine;decide),λe a=>⟨O,e,_,qw.map V.str,rfl,rfl,(al.new a) _ _ i,ak,by show((j7++j6++kP++lV++mZ++oG).map V.str).length +(qw.map V.str).length<=sizeLine;decide+kernel,λd c=>⟨(v.upd a).upd c,d,?_,rfl⟩⟩⟩;rw[aT];exact ak
  clear i v;rintro _ H6⟨l,J,o,rfl⟩;refine⟨λb H'=>al H H'/\∃p,H' p=some (.lst ((j7++j6++kP++lV++mZ++oG++qw++uY).map V.str))/\b=[some (V.ref p)],?_,?_⟩
  ·refine⟨_,rfl,(by show 4<=sizeLine;decide),λe a=>⟨J,e,_,uY.map V.str,rfl,rfl,(al.new a) _ _ o,ak,by show((j7++j6++kP++lV++mZ++oG++qw).map V.str).length +(uY.map V.str).length<=sizeLine;decide+kernel,λd c=>⟨(l.upd a).upd c,d,?_,rfl⟩⟩⟩;rw[aT];exact ak
  clear o l;rintro _ H7⟨y,U,B,rfl⟩;refine⟨λb H'=>al H H'/\∃p,H' p=some (.lst ((j7++j6++kP++lV++mZ++oG++qw++uY++AS).map V.str))/\b=[some (V.ref p)],?_,?_⟩
  ·refine⟨_,rfl,(by show 3<=sizeLine;decide),λe a=>⟨U,e,_,AS.map V.str,rfl,rfl,(al.new a) _ _ B,ak,by show((j7++j6++kP++lV++mZ++oG++qw++uY).map V.str).length +(AS.map V.str).length<=sizeLine;decide+kernel,λd c=>⟨(y.upd a).upd c,d,?_,rfl⟩⟩⟩;rw[aT];exact ak
  clear B y;rintro _ H8⟨z,M,n,rfl⟩;refine⟨λb H'=>al H H'/\∃p,H' p=some (.lst ((j7++j6++kP++lV++mZ++oG++qw++uY++AS++Fh).map V.str))/\b=[some (V.ref p)],?_,?_⟩
  ·refine⟨_,rfl,_,_,rfl,rfl,(by unfold MulOk;decide+kernel),_,_,rfl,rfl,(by unfold MulOk;decide+kernel),_,_,rfl,rfl,(by unfold MulOk;decide+kernel),_,_,rfl,rfl,Qk,(by show 7<=sizeLine;decide),λe a=>⟨M,e,_,Fh.map V.str,rfl,rfl,(al.new a) _ _ n,ak,by show((j7++j6++kP++lV++mZ++oG++qw++uY++AS).map V.str).length +(Fh.map V.str).length<=sizeLine;decide+kernel,λd c=>⟨(z.upd a).upd c,d,?_,rfl⟩⟩⟩;rw[aT];exact ak
  clear n z;rintro _ H9⟨I,W,N,rfl⟩;exact⟨_,rfl,q W _ I N⟩
abbrev LK:List Str:=["_law_text_here","_law_one","_law_other","_law_signs","_law_number","_law_words_here","_law_a","_law_k","_law_at","_law_sign"]
theorem kK:bD LK ["_law_text_here","_law_one","_law_other"] (aU s_l_changed):=⟨rfl,rfl,rfl,Qk,rfl,Qk,Qk⟩
theorem Jj{f:Addr}{fd:FuncData}(F:fg K "_law_changed" "_law_changed" s_l_changed f fd)(T:dF K mg)(cm:dk P w K mg base 1 "_law_mixed" ["_law_cell","_law_k"] ki):FnOk P w K mg base gW 2 f fd ["_law_text_here","_law_one","_law_other"] BU:=by
 refine F.ok kK (λvs H Q E h=>?_) (λxk A outer s H vs Q E W h=>?_)
 ·obtain⟨x,a,b,rfl,_⟩:=h;rfl
 ·obtain⟨x,a,b,rfl,hx,q⟩:=h;refine⟨_,(aw (aY (i:=3) kK.nd rfl (aN rfl) ad)
   (aQ (aY (i:=4) kK.nd rfl (aN rfl) (aJ cm W Qr (aa (pv 1) (aa ai ac))))
   (aQ (bA (aI b4 (aF dv (pv 4) ai) ai (aS _)) (aQ (aY (i:=5) kK.nd rfl (aN rfl) (dW aX gu DV vE (pv 0) (aa ad ac)))
   (aQ (aY (i:=6) kK.nd rfl (aN rfl) (aF dv (aF fP (pv 4) ai) (bP eL Qr T.len gc (aa (pv 5) ac))))
   (aQ (sN (bE d_ (pv 5) (aF dv (aJ cm W Qr (aa (pv 2) (aa ai ac))) (bP eL Qr T.len gc (aa (pv 5) ac))) (λ_ _=>Qr)) (GQ (pv 5) (pv 6) BY))
   (am (aR (dW aX bg bf fQ ad (aa (pv 5) ac))))))) aW)
   (aQ (mr PassesOwn.never rfl (iC rfl T.range (aa (aF bK ai (aF dv (aF fP (pv 4) ai) ai)) ac)) (db (i:=7) kK.nd rfl (aN rfl))
     (aw (aY (i:=4) kK.nd rfl (aN rfl) (aJ cm W Qr (aa (pv 1) (aa (aF bK ai (pv 7)) ac))))
   (aw (aY (i:=8) kK.nd rfl (aN rfl) (aF dv (aF fP (pv 4) ai) (aF bK (bP cP Qr T.len gc (aa (pv 0) ac)) ai)))
   (aw (aY (i:=9) kK.nd rfl (aN rfl) (bE qa (pv 3) (aF dv (aJ cm W Qr (aa (pv 2) (aa (aF bK ai (pv 7)) ac))) ai) (λ_ _=>Qr)))
   (am (bA (aI b4 (aF dv (pv 4) ai) ai (aS _)) (am (aY (i:=0) kK.nd rfl (aN rfl) (aF aM (aF aM (bM cK (pv 0) fj (bi (pv 8))) (pv 9)) (bM cK (pv 0) (bi (pv 8)) fj)))) (am (bA (aI b4 (aF dv (pv 4) ai) ai (aS _)) (am (aY (i:=0) kK.nd rfl (aN rfl) (aF aM (bM cK (pv 0) fj (bi (pv 8))) (bM cK (pv 0) (bi (aF bK (pv 8) ai)) fj)))) (am (aY (i:=0) kK.nd rfl (aN rfl) (aF aM (aF aM (bM cK (pv 0) fj (bi (pv 8))) (pv 9)) (bM cK (pv 0) (bi (aF bK (pv 8) ai)) fj))))))))))))
   (am (aR (pv 0))))))),?_⟩
  obtain⟨xa,M⟩:=Ep;have lx:=hx.len;refine⟨λd H'=>H=H'/\∃n:Int,0<=n/\d=[some (.str x),some (.int a),some (.int b),some (.str sg40),some (.int n),none,none,none,none,none],⟨_,rfl,a,0,rfl,Qd,Qd,λn hn=>⟨rfl,n,hn,rfl⟩⟩,?_⟩;rintro _ _⟨rfl,n,hn,rfl⟩;refine⟨λd H'=>H=H'/\d=[some (.str x),some (.int a),some (.int b),some (.str sg40),some (.int n),none,none,none,none,none],⟨_,rfl,_,_,rfl,rfl,(by show(0:Int)<5;decide),rfl,_,rfl,eG (λ_=>?_) (λ_=>⟨rfl,rfl⟩)⟩,?_⟩
  ·obtain⟨e,ew,u,xp⟩:∃e,PySem.Txt.split x " "=e.map mkS/\e=gg 32 [] x.cps.toList/\e.length<=1309:=by
    refine⟨_,by rw[qi];exact nK x 32 Qk,rfl,?_⟩;have:=lC 32 x.cps.toList [];rw[bQ]at this;omega
   have xm:0<e.length:=by
    rw[u];exact e_.mpr (oX 32 _ _)
   refine⟨λd H'=>al H H'/\∃p,H p=none/\H' p=some (.lst ((e.map mkS).map V.str))/\d=[some (.str x),some (.int a),some (.int b),some (.str sg40),some (.int n),some (.ref p),none,none,none,none],?_,?_⟩
   ·refine⟨_,rfl,rfl,x," ",rfl,rfl,Qk,iy Qo,λp t=>⟨al.new t,p,t,?_,rfl⟩⟩;rw[ak,ew]
   rintro _ H1⟨s1,p,xe,t,rfl⟩;have l:(((e.map mkS).map V.str).length:Int)=(e.length:Int):=by rw[ay,ay]
   obtain⟨j,R,ej⟩:∃j:Nat,j<e.length/\n/5%(e.length:Int)=(j:Int):=⟨(n/5%(e.length:Int)).toNat,by
    have h1:=cX (n/5) (b:=(e.length:Int)) Qo;have h2:=df (n/5) (b:=(e.length:Int)) Qo;omega,by
    have h1:=cX (n/5) (b:=(e.length:Int)) Qo;omega⟩
   refine⟨λd H'=>H1=H'/\d=[some (.str x),some (.int a),some (.int b),some (.str sg40),some (.int n),some (.ref p),some (.int j),none,none,none],?_,?_⟩
   ·refine⟨_,rfl,_,_,rfl,rfl,⟨Qd,Qd⟩,_,rfl,p,_,rfl,.inl (SqL.of t),_,_,rfl,rfl,?_,rfl,?_⟩
    ·show(0:Int)<(((e.map mkS).map V.str).length:Int);rw[l];omega
    ·show _=_;rw[<-ej,<-l];rfl
   rintro _ _⟨rfl,rfl⟩;refine⟨λd H'=>al H H'/\∃v,v∈e/\H' p=some (.lst (((e.set j v).map mkS).map V.str))/\d=[some (.str x),some (.int a),some (.int b),some (.str sg40),some (.int n),some (.ref p),some (.int j),none,none,none],?_,?_⟩
   ·refine⟨_,rfl,_,rfl,b,1,rfl,Qd,Qd,λY xd=>⟨_,rfl,p,_,rfl,.inl (SqL.of t),_,_,rfl,rfl,?_,?_⟩⟩
    ·show(0:Int)<(((e.map mkS).map V.str).length:Int);rw[l];omega
    ·obtain⟨y,o,ey⟩:=oo (xs:=e.map mkS) (n:=Y%(((e.map mkS).map V.str).length:Int)) (by rw[l];exact cX _ Qo) (by rw[l,ay];exact df _ Qo);obtain⟨v,U,rfl⟩:=cU.mp o;refine⟨p,_,_,.str (mkS v),rfl,rfl,SqL.of t,ey,_,rfl,_,rfl,p,_,_,j,rfl,rfl,t,HH (by rw[ay,ay];exact R),jk s1 xe,v,U,?_,rfl⟩;rw[ak,List.map_set,List.map_set]
   rintro _ H2⟨s2,v,U,xi,rfl⟩;rw[u]at U R;have h8:=Io (i:=0) hx R U;rw[<-u]at h8;have xb:(((e.set j v).map mkS).map (·.length)).sum +((e.set j v).map mkS).length<=1048576:=by
    have g1:=vI [32] (e.set j v);have g2:(((e.set j v).map mkS).map (·.length))=(e.set j v).map List.length:=by
     rw[fM];rfl
    have g3:=h8.len;rw[<-bQ,qi,iF]at g3;rw[g2,ay,List.length_set];have g3:(glueL [32] (e.set j v)).length<=1308+1308:=g3;omega
   exact⟨rfl,_,rfl,_,p,(e.set j v).map mkS,rfl,rfl,SqL.of xi,Qk,xb,q _ H2 (h8.ok Qd Qd) s2⟩
  rintro _ _⟨rfl,rfl⟩;refine⟨λd H'=>H=H'/\∃(y:Str)(I o5 o6 D C G:Option V),d=[some (.str y),some (.int a),some (.int b),some (.str sg40),I,o5,o6,D,C,G]/\Tx8 y 1310 152 101,?_,?_⟩
  ·refine⟨_,rfl,_,_,rfl,rfl,⟨Qd,Qd⟩,_,_,rfl,rfl,(by show(0:Int)<2;decide),_,_,rfl,rfl,_,rfl,Qo,Qo,?_⟩;have xj:(1+n/5%2).toNat<=2:=Qo;refine nZ (n:=(1+n/5%2).toNat) (λi d H'=>H=H'/\∃(y:Str)(I:Option V)(D C G:Option V),d=[some (.str y),some (.int a),some (.int b),some (.str sg40),I,none,none,D,C,G]/\Tx8 y (1308+i) (144+4*i) (97+2*i)) ⟨rfl,x,_,none,none,none,rfl,hx⟩ (λi d H' hi h=>?_) (λd H' h=>?_)
   ·obtain⟨rfl,y,I,D,C,G,rfl,o⟩:=h;have xn:i<2:=Qo;have ly:=o.len;refine⟨_,rfl,_,rfl,_,_,rfl,rfl,a,_,rfl,Qo,Qo,λS xr=>?_⟩;refine⟨_,rfl,_,_,rfl,rfl,⟨Qd,Qd⟩,_,rfl,y,rfl,iy Qo,_,_,rfl,rfl,_,_,rfl,rfl,(by show(0:Int)<(y.length:Int)+1;omega),?_⟩;refine⟨_,rfl,_,rfl,_,rfl,_,_,rfl,rfl,b,_,rfl,Qo,Qo,λY xd=>⟨_,_,rfl,rfl,(by show(0:Int)<40;decide),?_⟩⟩;obtain⟨j,R,ej⟩:∃j:Nat,j<40/\Y%40=(j:Int):=⟨(Y%40).toNat,Qo,Qo⟩;obtain⟨c,hc⟩:∃c,sg40.cps.toList[j]?=some c:=⟨sg40.cps.toList[j]'(by rw[bQ,M];exact R),eI _⟩;have xf:=xa c (bR hc);refine⟨sg40,_,c,rfl,rfl,by rw[M];exact iy Qd,by rw[ej];exact fE hc,?_⟩;obtain⟨g,xt,xh⟩:∃g:Nat,g<=y.length/\S/3%((y.length:Int)+1)=(g:Int):=⟨(S/3%((y.length:Int)+1)).toNat,by
     have h1:=cX (S/3) (b:=(y.length:Int)+1) Qo;have h2:=df (S/3) (b:=(y.length:Int)+1) Qo;omega,by
     have h1:=cX (S/3) (b:=(y.length:Int)+1) Qo;omega⟩
    dsimp only;rw[xh];have B:=mQ y g;have Z:=mR y g;have xc:(g:Int)+1=((g+1:Nat):Int):=Qo;have L:(PySem.Txt.slice y (some ((g:Int)+1)) none).cps.toList=y.cps.toList.drop (g+1):=by rw[xc,mR]
    have xl:(PySem.Txt.slice y none (some (g:Int))).length<=y.length:=qr y _ _;have xo:(PySem.Txt.slice y (some (g:Int)) none).length<=y.length:=qr y _ _;have xq:(PySem.Txt.slice y (some ((g:Int)+1)) none).length<=y.length:=qr y _ _;have X:(⟨#[c]⟩:Str).length=1:=rfl;have J:w1 [c]<=4:=by
     show wS c+0<=4;have:=Ir c;omega
    have O:w2 [c]=0:=by
     show(if c=111/\[]=[116,32]then 1 else 0)+0=0;rw[aG (λz=>nomatch z.2)]
    have mc:∀z∈ [c],z<128:=λz hz=>by rw[cy.mp hz];exact xf
    have xg:y.cps.toList=y.cps.toList.take g++([]++y.cps.toList.drop g):=by
     rw[ix,gQ]
    have N:y.cps.toList=y.cps.toList.take g++((y.cps.toList.drop g).take 1++y.cps.toList.drop (g+1)):=by
     rw[<-List.drop_drop,gQ,gQ]
    refine⟨_,rfl,_,_,rfl,rfl,(by show(0:Int)<3;decide),rfl,_,rfl,eG (λ_=>?_) (λ_=>?_)⟩
    ·refine⟨_,rfl,_,rfl,_,rfl,y,rfl,iy Qo,_,rfl,_,_,rfl,rfl,by rw[X];exact iy Qo,_,rfl,_,rfl,_,rfl,y,rfl,iy Qo,_,_,rfl,rfl,by rw[ag,X];exact iy Qo,rfl,_,_,_,_,_,rfl,?_⟩;exact(EI (m:=[c]) (k:=4) o xg (by rw[bC,bC,B,Z,ax]) mc J O).mono (by show 1308+i+1<=_;omega) Qo Qo
    ·refine⟨_,rfl,_,_,rfl,rfl,(by show(0:Int)<3;decide),rfl,_,rfl,eG (λ_=>?_) (λ_=>?_)⟩
     ·refine⟨_,rfl,_,rfl,_,rfl,y,rfl,iy Qo,_,rfl,_,rfl,_,_,rfl,rfl,_,rfl,y,rfl,iy Qo,_,_,rfl,rfl,iy Qo,rfl,_,_,_,_,_,rfl,?_⟩;exact(EI (m:=[]) (k:=4) o N (by rw[bC,B,L];rfl) (λ_ z=>nomatch z) Qd rfl).mono (by show 1308+i+0<=_;omega) Qo Qo
     ·refine⟨_,rfl,_,rfl,_,rfl,y,rfl,iy Qo,_,rfl,_,_,rfl,rfl,by rw[X];exact iy Qo,_,rfl,_,rfl,_,_,rfl,rfl,_,rfl,y,rfl,iy Qo,_,_,rfl,rfl,by rw[ag,X];exact iy Qo,rfl,_,_,_,_,_,rfl,?_⟩;exact(EI (m:=[c]) (k:=4) o N (by rw[bC,bC,B,L,ax]) mc J O).mono (by show 1308+i+1<=_;omega) Qo Qo
   ·obtain⟨rfl,y,I,D,C,G,rfl,o⟩:=h;exact⟨rfl,y,_,_,_,_,_,_,rfl,o.mono Qo Qo Qo⟩
  rintro _ _⟨rfl,y,I,o5,o6,D,C,G,rfl,o⟩;exact⟨_,rfl,q y H (o.ok Qd Qd) (al.refl _)⟩
end
end Net
namespace L2
open PySem PySem.Spec PyProof.Rows
theorem AI{X:Cx}{k:Nat}{x:Str}{ps:List Str}{sp:Sp}{p pos:Pos}(c:dk X.prog X.w X.K X.mg X.base k x ps sp)(b:cF k X.A)(h:Gl X x)(a:(x==("__debug__":Str))=false:=by decide):PE X (.Call (.Name x p) [] [] pos) (qT sp [] E0 Av):=by
 obtain⟨f,fd,F,g,d,e⟩:=c.ex;exact Cz F b h g d e .nil zN a
end L2
namespace Net
open PySem L2 L2.Tx
theorem HW:bootBuiltins "min"=some (.builtin "min"):=Qk
def uF(K:ah):Sp:=λvs H Q _=>∃(a:Addr)(ns:List Int),vs=[.ref a]/\SqL K H a (ns.map V.int)/\ns.length<=63/\∀H',Q (.bl true) H'
theorem En{a b:Int}{n i:Nat}(h:Builtin.Range.rangeSize a b 2=(n:Int))(hi:i<n):a+i*2<b:=by
 unfold Builtin.Range.rangeSize at h;simp only[show(2:Int)>0 by decide,if_true]at h;split at h<;>omega
theorem DC(xs:List V){a b:Nat}(h:a<=b):(kQ xs (some (a:Int)) (some (b:Int))).length<=b-a:=by
 unfold kQ;rw[HT.sE,HT.sE,bT];omega
theorem A9{ns:List Int}{a b:Option Int}:∀v∈kQ (ns.map V.int) a b,∃i,v=V.int i:=λv c=>by
 unfold kQ at c;have:=jD (g_ c);obtain⟨i,_,rfl⟩:=cU.mp this;exact⟨i,rfl⟩
theorem vH:∀{l:List V},(∀v∈l,∃i,v=V.int i)->∃ns:List Int,l=ns.map V.int
 |[],_=>⟨[],rfl⟩
 |v::l,h=>by
  obtain⟨i,rfl⟩:=h v aA;obtain⟨ns,rfl⟩:=vH λv a=>h v (aB _ a);exact⟨i::ns,rfl⟩
section
variable{P:Program}{w:World}{K:ah}{mg:Str->Option Value}{base:Heap}
abbrev Ld:List Str:=["_law_script","_law_words_here","_law_texts_here","_law_text_here","_law_k"]
theorem jV:bD Ld ["_law_script"] (aU s_law):=⟨rfl,rfl,rfl,Qk,rfl,Qk,Qk⟩
theorem CN{f:Addr}{fd:FuncData}(F:fg K "law" "law" s_law f fd)(T:dF K mg)(L:mg "min"=none)(cw:dk P w K mg base 2 "_law_words" ["_law_cell","_law_many","_law_k"] yZ)(ce:dk P w K mg base 1 "_law_cell_at" ["_law_script","_law_k"] (BV K))(cm:dk P w K mg base 1 "_law_mixed" ["_law_cell","_law_k"] ki)(ct:dk P w K mg base 4 "_law_texts" ["_law_cells","_law_words_here"] BO)(co:dk P w K mg base 1 "_law_odd" [] FZ)(cj:dk P w K mg base 656 "_law_judged" ["_law_text_here"] F0)(xc:dk P w K mg base 2 "_law_changed" ["_law_text_here","_law_one","_law_other"] BU):FnOk P w K mg base gW 657 f fd ["_law_script"] (uF K):=by
 refine F.ok jV (λvs H Q E h=>?_) (λxi A outer s H vs Q E J h=>?_)
 ·obtain⟨a,ns,rfl,_⟩:=h;rfl
 ·obtain⟨a,ns,rfl,W,xh,q⟩:=h;have r1:cF 1 _:=J.mono Qd;have r2:cF 2 _:=J.mono Qd;have r4:cF 4 _:=J.mono Qd;refine⟨_,(aw (aY (i:=1) jV.nd rfl (aN rfl) (aJ cw r2 Qr (aa (aJ ce r1 Qr (aa (pv 0) (aa ai ac))) (aa ai (aa ai ac)))))
   (aQ (aY (i:=2) jV.nd rfl (aN rfl) (aJ ct r4 Qr (aa (bM Em (pv 0) (bi ai) (bi ai)) (aa (pv 1) ac))))
   (aQ (mr PassesOwn.never rfl (mW (aF eR (pv 2) (AI co r1 Qr))) (db (i:=3) jV.nd rfl (aN rfl))
     (am (bA (ij (fe (aJ cj J Qr (aa (pv 3) ac)))) (am (aR i6)) aW)))
   (aQ (mr PassesOwn.never rfl (AG rfl T.range (aa ai (aa (aF gX (bP (Ba rfl) Qr L HW (aa (bP eL Qr T.len gc (aa (pv 0) ac)) (aa ai ac))) ai) (aa ai ac)))) (db (i:=4) jV.nd rfl (aN rfl))
     (aQ (aY (i:=3) jV.nd rfl (aN rfl) (bE d_ (pv 2) (aF dv (aJ cm r1 Qr (aa (bE d_ (pv 0) (pv 4) (λ_ _=>Qr)) (aa ai ac))) (bP eL Qr T.len gc (aa (pv 2) ac))) (λ_ _=>Qr)))
   (am (bA (ij (fe (aJ cj J Qr (aa (aJ xc r2 Qr (aa (pv 3) (aa (bE d_ (pv 0) (pv 4) (λ_ _=>Qr)) (aa (bE d_ (pv 0) (aF bK (pv 4) ai) (λ_ _=>Qr)) ac)))) ac)))) (am (aR i6)) aW))))
   (am (aR i6)))))),?_⟩
  refine⟨_,rfl,a,ns,0,rfl,W,Qd,λc0=>?_⟩;refine⟨c0,4,0,rfl,Qd,Qd,Qd,Qd,λg ws Z wl xe _=>?_⟩;have s1:al H (upd H g (.lst (ws.map V.str))):=al.new Z;have e1:(upd H g (.lst (ws.map V.str))) g=some (.lst (ws.map V.str)):=ak;generalize upd H g (.lst (ws.map V.str))=H1 at s1 e1;have xa:Ig ws:=⟨wl,λx d=>(xe x d).1⟩;refine⟨λc H'=>al H H'/\∃(p:Addr)(xs:List Str),H' p=some (.lst (xs.map V.str))/\1<=xs.length/\xs.length<=100/\(∀x∈xs,Tx8 x 1308 144 97)/\c=[some (.ref a),some (.ref g),some (.ref p),none,none],?_,?_⟩
  ·refine⟨_,rfl,_,rfl,_,rfl,a,_,rfl,s1.seq W,λO h1=>?_⟩;have e:(kQ (ns.map V.int) (some 1) (some 25)).length<=25-1:=DC (ns.map V.int) (a:=1) (b:=25) Qd;have m:=A9 (ns:=ns) (a:=some 1) (b:=some 25);generalize kQ (ns.map V.int) (some 1) (some 25)=cells at e m;obtain⟨D,rfl⟩:=vH m;rw[ay]at e;have j:al H1 (upd H1 O (.lst (D.map V.int))):=al.new h1;have e2:(upd H1 O (.lst (D.map V.int))) O=some (.lst (D.map V.int)):=ak;generalize upd H1 O (.lst (D.map V.int))=H2 at j e2;exact⟨_,rfl,O,g,D,ws,rfl,e2,e,j _ _ e1,xa,λp xs X s3 U l1 l2 d=>⟨s1.trans (j.trans s3),p,xs,U,l1,l2,d,rfl⟩⟩
  clear s1 e1 H1;rintro _ H1⟨s1,p,xs,U,xl,xk,R,rfl⟩;refine⟨λc H'=>al H1 H'/\∃t,c=[some (.ref a),some (.ref g),some (.ref p),t,none],?_,?_⟩
  ·refine⟨_,rfl,rfl,λl H2 j hl=>⟨p,l,_,_,rfl,rfl,j _ _ U,hl,?_,λC N=>?_⟩⟩
   ·rw[ay,ay];have:=CS;exact af (show _<=200 by omega) Qd
   have o:∀v∈xs.map V.str++CV.map V.str,∃x,v=V.str x/\Ga x:=λv u=>by
    rcases bY.mp u with u|u
    ·obtain⟨x,d,rfl⟩:=cU.mp u;exact⟨x,rfl,(R x d).ok Qd Qd⟩
    ·obtain⟨x,d,rfl⟩:=cU.mp u;exact⟨x,rfl,Fg x d⟩
   generalize xs.map V.str++CV.map V.str=all at o N;have a8:al H2 (upd H2 C (.lst all)):=al.new N;have Y:(upd H2 C (.lst all)) C=some (.lst all):=ak;generalize upd H2 C (.lst all)=X at a8 Y;refine⟨C,rfl,⟨_,SqL.of Y⟩,qg (K:=K) (xs:=all) (λi c H'=>al X H'/\∃t,c=[some (.ref a),some (.ref g),some (.ref p),t,none]) ⟨al.refl _,_,rfl⟩ (λi c H' _ h=>SqL.of (h.1 _ _ Y)) (λi v c H' u h=>?_) (λc H' h=>⟨(j.trans a8).trans h.1,h.2⟩)⟩;obtain⟨s9,t,rfl⟩:=h;obtain⟨x,rfl,d⟩:=o v (bR u);exact⟨_,rfl,x,rfl,d.okX,d.1,d.2.2,λxj xb=>⟨_,rfl,eZ ⟨s9.trans xb,_,rfl⟩⟩⟩
  rintro _ H2⟨j,t,rfl⟩;have xf:=j _ _ U;have S:=s1.trans j;refine⟨λ_ _=>True,?_,λ_ H' _=>q H'⟩;refine⟨_,rfl,a,_,rfl,.inl (S.seq W),_,_,rfl,_,_,rfl,rfl,?_⟩;obtain⟨top,k⟩:∃top:Int,top=(if(55:Int)<(((ns.map V.int).length:Nat):Int)then(55:Int)else(((ns.map V.int).length:Nat):Int))-1:=⟨_,rfl⟩;have xg:top<=(ns.length:Int)-1/\-1<=top/\top<=60:=by
   rw[k,ay];split<;>omega
  obtain⟨G,en⟩:=BX 25 top;refine⟨25,top,2,G,(by rw[k]),Qd,Qd,Az Qd Qd Qo Qo,en,?_⟩;refine x_ (n:=G) (λi c H'=>(∃t o4,c=[some (.ref a),some (.ref g),some (.ref p),t,o4])/\al H2 H') ⟨⟨_,_,rfl⟩,al.refl _⟩ (λi c H' hi h=>?_) (λc H' h=>trivial);obtain⟨⟨t,o4,rfl⟩,t1⟩:=h;have xm:=En en hi;have hk:(25:Int)+(i:Int)*2=((25+i*2:Nat):Int):=Qo;have xd:(25:Int)+(i:Int)*2+1=((25+i*2+1:Nat):Int):=Qo;have hb:25+i*2+1<ns.length:=Qo;have B:yI (ns.map V.int) ((25:Int)+(i:Int)*2)=some (.int (ns[25+i*2]'(Qo))):=by
   rw[hk];exact fE (by simp[show 25+i*2<ns.length by omega])
  have M:yI (ns.map V.int) ((25:Int)+(i:Int)*2+1)=some (.int (ns[25+i*2+1])):=by
   rw[xd];exact fE (by simp[hb])
  generalize ns[25+i*2]'(Qo)=i0 at B;generalize ns[25+i*2+1]=i1 at M;have I:=t1 _ _ xf;have z:=(S.trans t1).seq W;refine⟨λc X=>H'=X/\∃x,x∈xs/\c=[some (.ref a),some (.ref g),some (.ref p),some (.str x),some (.int ((25:Int)+(i:Int)*2))],?_,?_⟩
  ·refine⟨_,rfl,_,rfl,_,rfl,a,_,_,_,rfl,rfl,z,B,i0,6,rfl,Qd,Qd,λn hn=>⟨_,rfl,p,_,rfl,.inl (SqL.of I),_,_,rfl,rfl,?_,?_⟩⟩
   ·show(0:Int)<((xs.map V.str).length:Int);rw[ay];omega
   ·obtain⟨x,d,ex⟩:=oo (xs:=xs) (n:=n%((xs.map V.str).length:Int)) (by rw[ay];exact cX _ Qo) (by rw[ay];exact df _ Qo);exact⟨p,_,_,.str x,rfl,rfl,SqL.of I,ex,rfl,x,d,rfl⟩
  rintro _ _⟨rfl,x,d,rfl⟩;refine⟨_,rfl,_,rfl,_,rfl,a,_,_,_,rfl,rfl,z,B,_,rfl,_,rfl,_,_,rfl,rfl,a,_,_,_,rfl,rfl,z,M,x,i0,i1,rfl,R x d,λy H4 hy s4=>⟨y,rfl,hy.okX,hy.1,hy.2.2,λH5 s5=>⟨_,rfl,eZ ⟨⟨_,_,rfl⟩,t1.trans (s4.trans s5)⟩⟩⟩⟩
end
open PySem L2
theorem KR(K:ah):bz K (.type "int") (.type "bool")=some false:=by
 first|rfl|kernel_rfl
structure Fn(K:ah)(mg:Str->Option Value)(x:Str)(st:Stmt):Prop where
 ex:∃f fd,fg K x x st f fd/\mg x=some (.ref f)
structure Mt(K:ah)(C:Addr)(x qual:Str)(st:Stmt):Prop where
 ex:∃f fd,fg K x qual st f fd/\Bg K C x f
theorem cJ{K:ah}{h:Heap}{mg:Str->Option Value}{x:Str}{st:Stmt}{f:Addr}{g:Value}{j i:Option Addr}{e:Array (Option Value)}{kV d m b ct:Value}(X:K.In h)(G:h.Ns mainGlobals mg)(a:dz K mainGlobals x=some (some (.ref f)))
  (l:K.lookup f=some ⟨g,j,.func (cT x x (gB st) (fD st) (aU st) .none kV d m i b ct),e⟩)(c:gZ K b x=true)(k:de K (.ref f)=true):Fn K mg x st:=
 ⟨f,_,xZ l c k,bU X G a⟩
theorem zV{K:ah}{C:Addr}{x qual:Str}{st:Stmt}{f:Addr}{g:Value}{j h:Option Addr}{e:Array (Option Value)}{kV d m b ct:Value}(a:cW K (.ref C) x=some (some (.ref f)))(i:qJ K (.ref f)=true)
  (l:K.lookup f=some ⟨g,j,.func (cT x qual (gB st) (fD st) (aU st) .none kV d m h b ct),e⟩)(c:gZ K b qual=true)(k:de K (.ref f)=true):Mt K C x qual st:=
 ⟨f,_,xZ l c k,a,i,k⟩
section
variable{P:Program}{w:World}{K:ah}{mg:Str->Option Value}{base:Heap}{C:Addr}{k:Nat}{x qual:Str}{st:Stmt}{ps:List Str}{sp:Sp}
theorem Fn.can(F:Fn K mg x st)(ok:∀f fd,fg K x x st f fd->FnOk P w K mg base gW k f fd ps sp)
  (h:∀(kV a d:Value)(c:Option Addr)(b ct:Value)(us:List Value),us.length=ps.length->bindArgs (cT x x (gB st) (fD st) (aU st) .none kV a d c b ct) ⟨us,[]⟩=pure (ps.zip us)):dk P w K mg base k x ps sp:=by
 obtain⟨f,fd,G,m⟩:=F.ex;exact⟨f,fd,ok f fd G,m,G.kp,G.binds h⟩
theorem Mt.can(F:Mt K C x qual st)(ok:∀f fd,fg K x qual st f fd->FnOk P w K mg base gW k f fd ps sp)
  (h:∀(kV a d:Value)(c:Option Addr)(b ct:Value)(us:List Value),us.length=ps.length->bindArgs (cT x qual (gB st) (fD st) (aU st) .none kV a d c b ct) ⟨us,[]⟩=pure (ps.zip us)):kR P w K mg base k C x ps sp:=by
 obtain⟨f,fd,G,m⟩:=F.ex;exact⟨f,fd,ok f fd G,m,G.binds h⟩
theorem Mt.canI(F:Mt K C "__init__" qual st)(mk:mI K C=true)(kc:de K (.ref C)=true)(ok:∀f fd,fg K "__init__" qual st f fd->FnOk P w K mg base gW k f fd ps sp)
  (h:∀(kV a d:Value)(c:Option Addr)(b ct:Value)(us:List Value),us.length=ps.length->bindArgs (cT "__init__" qual (gB st) (fD st) (aU st) .none kV a d c b ct) ⟨us,[]⟩=pure (ps.zip us)):DP P w K mg base k C ps sp:=by
 obtain⟨f,fd,G,m⟩:=F.ex;exact⟨f,fd,ok f fd G,⟨mk,m.at_,m.fn,kc⟩,G.binds h⟩
end
theorem Fn.canX{P:Program}{w:World}{K:ah}{mg:Str->Option Value}{base:Heap}{k:Nat}{x:Str}{st:Stmt}{ps:List Str}{sp:Sp}(F:Fn K mg x st)(ok:∀f fd,fg K x x st f fd->FnOk P w K mg base (kS P w) k f fd ps sp)
  (h:∀(kV a d:Value)(c:Option Addr)(b ct:Value)(us:List Value),us.length=ps.length->bindArgs (cT x x (gB st) (fD st) (aU st) .none kV a d c b ct) ⟨us,[]⟩=pure (ps.zip us)):dE P w K mg base k x ps sp:=by
 obtain⟨f,fd,G,m⟩:=F.ex;exact⟨f,fd,ok f fd G,m,G.kp,G.binds h⟩
theorem Mt.canX{P:Program}{w:World}{K:ah}{mg:Str->Option Value}{base:Heap}{C:Addr}{k:Nat}{x qual:Str}{st:Stmt}{ps:List Str}{sp:Sp}(F:Mt K C x qual st)(ok:∀f fd,fg K x qual st f fd->FnOk P w K mg base (kS P w) k f fd ps sp)
  (h:∀(kV a d:Value)(c:Option Addr)(b ct:Value)(us:List Value),us.length=ps.length->bindArgs (cT x qual (gB st) (fD st) (aU st) .none kV a d c b ct) ⟨us,[]⟩=pure (ps.zip us)):oB P w K mg base k C x ps sp:=by
 obtain⟨f,fd,G,m⟩:=F.ex;exact⟨f,fd,ok f fd G,m,G.binds h⟩
theorem Jv{P:Program}{w:World}{K:ah}{a:Addr}{p d n f t i l k o g q b s c:Tok}{v:Nat}(m:(a==sysModules)=false)
  (u:K.lookup a=some {cls:=.type "dict",data:=.dict #[{hash:=PyData.keyHash w.params (Str.ofString "way"),key:=.str (Str.ofString "way") p,val:=.int 2 d},{hash:=PyData.keyHash w.params (Str.ofString "ring"),key:=.str (Str.ofString "ring") n,val:=.int 0 f},{hash:=PyData.keyHash w.params (Str.ofString "round"),key:=.str (Str.ofString "round") t,val:=.int 0 i},{hash:=PyData.keyHash w.params (Str.ofString "must"),key:=.str (Str.ofString "must") l,val:=.int 3 k},{hash:=PyData.keyHash w.params (Str.ofString "flow"),key:=.str (Str.ofString "flow") o,val:=.int 2 g},{hash:=PyData.keyHash w.params (Str.ofString "apart"),key:=.str (Str.ofString "apart") q,val:=.int 2 b},{hash:=PyData.keyHash w.params (Str.ofString "bare"),key:=.str (Str.ofString "bare") s,val:=.int 2 c}] v}):wG P w K a [(Sum.inr (Str.ofString "way"),.int 2 d),(Sum.inr (Str.ofString "ring"),.int 0 f),(Sum.inr (Str.ofString "round"),.int 0 i),(Sum.inr (Str.ofString "must"),.int 3 k),(Sum.inr (Str.ofString "flow"),.int 2 g),(Sum.inr (Str.ofString "apart"),.int 2 b),(Sum.inr (Str.ofString "bare"),.int 2 c)]:=by
 refine⟨m,λh X=>⟨_,_,_,X _ _ u,⟨rfl,rfl,rfl⟩,rfl,λe j=>?_,(.cons (fk _ _ _ _) rfl (.cons (fk _ _ _ _) rfl (.cons (fk _ _ _ _) rfl (.cons (fk _ _ _ _) rfl (.cons (fk _ _ _ _) rfl (.cons (fk _ _ _ _) rfl (.cons (fk _ _ _ _) rfl .nil))))))),?_⟩⟩
 ·simp only[List.mem_toArray,aq,a_,or_false]at j;rcases j with rfl|rfl|rfl|rfl|rfl|rfl|rfl
  all_goals exact⟨Sum.inr _,fk _ _ _ _,rfl⟩
 ·show([Sum.inr (Str.ofString "way"),Sum.inr (Str.ofString "ring"),Sum.inr (Str.ofString "round"),Sum.inr (Str.ofString "must"),Sum.inr (Str.ofString "flow"),Sum.inr (Str.ofString "apart"),Sum.inr (Str.ofString "bare")]:List mH).Nodup;decide+kernel
theorem fA{k x:Str}{v:Value}{l:List (mH×Value)}(h:x≠k):valueAt ((Sum.inr k,v)::l) (Sum.inr x:mH)=valueAt l (Sum.inr x):=by
 unfold valueAt;rw[List.find?_cons_of_neg (by simp only[aD];intro z;injection z with z;exact h z.symm)]
theorem pf{k:Str}{v:Value}{l:List (mH×Value)}:valueAt ((Sum.inr k,v)::l) (Sum.inr k:mH)=some v:=by
 unfold valueAt;rw[List.find?_cons_of_pos Qs];rfl
theorem Fm{b d f c e g i:Tok}(x:Str):(∃n u,nb x=some n/\valueAt ([(Sum.inr (Str.ofString "way"),.int 2 b),(Sum.inr (Str.ofString "ring"),.int 0 d),(Sum.inr (Str.ofString "round"),.int 0 f),(Sum.inr (Str.ofString "must"),.int 3 c),(Sum.inr (Str.ofString "flow"),.int 2 e),(Sum.inr (Str.ofString "apart"),.int 2 g),(Sum.inr (Str.ofString "bare"),.int 2 i)]:List (mH×Value)) (Sum.inr x)=some (.int (n:Int) u))\/(nb x=none/\valueAt ([(Sum.inr (Str.ofString "way"),.int 2 b),(Sum.inr (Str.ofString "ring"),.int 0 d),(Sum.inr (Str.ofString "round"),.int 0 f),(Sum.inr (Str.ofString "must"),.int 3 c),(Sum.inr (Str.ofString "flow"),.int 2 e),(Sum.inr (Str.ofString "apart"),.int 2 g),(Sum.inr (Str.ofString "bare"),.int 2 i)]:List (mH×Value)) (Sum.inr x)=none):=by
 by_cases h0:x="way"
 ·subst h0;exact .inl ⟨2,b,Qk,by rw[pf];rfl⟩
 by_cases h1:x="ring"
 ·subst h1;exact .inl ⟨0,d,Qk,by rw[fA Qk,pf];rfl⟩
 by_cases h2:x="round"
 ·subst h2;exact .inl ⟨0,f,Qk,by rw[fA Qk,fA Qk,pf];rfl⟩
 by_cases j:x="must"
 ·subst j;exact .inl ⟨3,c,Qk,by rw[fA Qk,fA Qk,fA Qk,pf];rfl⟩
 by_cases h:x="flow"
 ·subst h;exact .inl ⟨2,e,Qk,by rw[fA Qk,fA Qk,fA Qk,fA Qk,pf];rfl⟩
 by_cases a:x="apart"
 ·subst a;exact .inl ⟨2,g,Qk,by rw[fA Qk,fA Qk,fA Qk,fA Qk,fA Qk,pf];rfl⟩
 by_cases k:x="bare"
 ·subst k;exact .inl ⟨2,i,Qk,by rw[fA Qk,fA Qk,fA Qk,fA Qk,fA Qk,fA Qk,pf];rfl⟩
 refine .inr ⟨?_,?_⟩
 ·unfold nb;rw[aG h0,aG h1,aG h2,aG j,aG h,aG a,aG k]
 ·rw[fA h0,fA h1,fA h2,fA j,fA h,fA a,fA k];rfl
def r9:List Value->Option (List Str)
 |[]=>some []
 |.str x _::r=>(r9 r).map (x:: ·)
 |_=>none
theorem o0:∀{l:List Value}{xs:List Str},r9 l=some xs->cS (xs.map V.str) l
 |[],xs,h=>by cases h;exact .nil
 |v::r,xs,h=>by
  cases v with
  |str x t=>
   have h':(r9 r).map (x:: ·)=some xs:=h;cases e:r9 r with
   |none=>rw[e]at h';cases h'
   |some ys=>
    rw[e]at h';cases h';exact .cons ⟨t,rfl⟩ (o0 e)
  |_=>cases h
theorem BB{K:ah}{a:Addr}{b:Array Value}{n:Nat}{xs:List Str}(c:K.lookup a=some {cls:=.type "tuple",data:=.seq b n})(h1:b.size<=sizeLine)(h2:cS (xs.map V.str) b.toList):∀H,SqT K H a (xs.map V.str):=
 λ_=>.inr ⟨_,b,n,c,rfl,rfl,h1,h2⟩
structure Lm(P:Program)(w:World)(K:ah)(mg:Str->Option Value)(C:Addr):Prop where
 T:dF K mg
 cls:yM K C
 mgC:mg "WordRow"=some (.ref C)
 nW:iU K C "words"
 nT:iU K C "taken"
 mks:mI K C=true
 kc:de K (.ref C)=true
 errs:∃(ct cc:Addr)(cs:Nat->Addr),yL K mg ct/\FQ K mg ct cc cs
 minN:mg "min"=none
 setW:∃a,mg "SET_WORDS"=some (.ref a)/\∀H,SqT K H a (iu.map V.str)
 termW:∃a,mg "TERM_WORDS"=some (.ref a)/\∀H,SqT K H a (cG.map V.str)
 nbD:∃a vs,mg "NAMES_BEHIND"=some (.ref a)/\wG P w K a vs/\∀x:Str,(∃n u,nb x=some n/\valueAt vs (Sum.inr x)=some (.int (n:Int) u))\/(nb x=none/\valueAt vs (Sum.inr x)=none)
 made:Fn K mg "is_made_of" s_is_made_of
 name:Fn K mg "is_name" s_is_name
 vari:Fn K mg "is_variable" s_is_variable
 rnum:Fn K mg "read_number" s_read_number
 shC:Fn K mg "show_claim" s_show_claim
 shT:Fn K mg "show_term" s_show_term
 shS:Fn K mg "show_set" s_show_set
 rdC:Fn K mg "read_claim" s_read_claim
 rdT:Fn K mg "read_term" s_read_term
 refu:Fn K mg "refuse_other_text" s_refuse_other_text
 splt:Fn K mg "split_text" s_split_text
 depo:Fn K mg "depth_of" s_depth_of
 init:Mt K C "__init__" "WordRow.__init__" s_WordRow_init
 comi:Mt K C "coming" "WordRow.coming" s_WordRow_coming
 take:Mt K C "take" "WordRow.take" s_WordRow_take
 pass:Mt K C "pass_over" "WordRow.pass_over" s_WordRow_pass_over
 rwc:Fn K mg "read_whole_claim" s_read_whole_claim
 rwt:Fn K mg "read_whole_term" s_read_whole_term
 ister:Fn K mg "is_term" s_is_term
 rwh:Fn K mg "read_whole" s_read_whole
 rfst:Fn K mg "read_first" s_read_first
 rnam:Fn K mg "read_name" s_read_name
 rcos:Fn K mg "read_cost" s_read_cost
 rove:Fn K mg "read_over_places" s_read_over_places
 rtwo:Fn K mg "read_of_two" s_read_of_two
 rbra:Fn K mg "read_bracket" s_read_bracket
 rfrn:Fn K mg "read_from_number" s_read_from_number
 rset:Fn K mg "read_set" s_read_set
 rnms:Fn K mg "read_names" s_read_names
 cell:Fn K mg "_law_cell_at" s_l_cell_at
 mixed:Fn K mg "_law_mixed" s_l_mixed
 words:Fn K mg "_law_words" s_l_words
 point:Fn K mg "_law_point" s_l_point
 setw:Fn K mg "_law_set_word" s_l_set_word
 numw:Fn K mg "_law_number_word" s_l_number_word
 leaf:Fn K mg "_law_leaf" s_l_leaf
 rund:Fn K mg "_law_round" s_l_round
 txts:Fn K mg "_law_texts" s_l_texts
 sxt:Fn K mg "_law_set_text" s_l_set_text
 ltx:Fn K mg "_law_text" s_l_text
 lrun:Fn K mg "_law_run" s_l_run
 lnms:Fn K mg "_law_names" s_l_names
 nend:Fn K mg "_law_number_end" s_l_number_end
 send:Fn K mg "_law_set_end" s_l_set_end
 cend:Fn K mg "_law_cost_end" s_l_cost_end
 flat:Fn K mg "_law_flat" s_l_flat
 ltwo:Fn K mg "_law_two" s_l_two
 lbra:Fn K mg "_law_bracket" s_l_bracket
 linn:Fn K mg "_law_inner" s_l_inner
 lran:Fn K mg "_law_ranged" s_l_ranged
 lnth:Fn K mg "_law_number_thing" s_l_number_thing
 lthi:Fn K mg "_law_thing" s_l_thing
 lful:Fn K mg "_law_full" s_l_full
 lis:Fn K mg "_law_is" s_l_is
 lcau:Fn K mg "_law_caught" s_l_caught
 ljud:Fn K mg "_law_judged" s_l_judged
 lchg:Fn K mg "_law_changed" s_l_changed
 lodd:Fn K mg "_law_odd" s_l_odd
theorem Hz{P:Program}{w:World}{K:ah}{mg:Str->Option Value}{base:Heap}{C f:Addr}{fd:FuncData}(A:Lm P w K mg C)(F:fg K "law" "law" s_law f fd):FnOk P w K mg base gW 657 f fd ["_law_script"] (uF K):=by
 have T:=A.T;obtain⟨ct,cc,cs,R,R2⟩:=A.errs;have W:qC P w K mg C:=by
  obtain⟨a,vs,m1,q,kv⟩:=A.nbD;refine⟨A.cls,A.mgC,A.nW,A.nT,A.setW,A.termW,a,vs,m1,q,λx=>?_,λx n hn=>?_⟩
  ·rcases kv x with⟨n,u,e,j⟩|⟨e,j⟩<;>rw[e,j]<;>rfl
  ·rcases kv x with⟨s,u,e,j⟩|⟨e,j⟩
   ·rw[e]at hn;cases hn;exact⟨_,j,u,rfl⟩
   ·rw[e]at hn;cases hn
 have made:dk P w K mg base 1 _ _ _:=A.made.can (λf fd F=>Fb F T) λ_ _ _ _ _ _ us b=>match us,b with|[_,_],_=>rfl
 have name:dk P w K mg base 2 _ _ _:=A.name.can (λf fd F=>Fa F T made) λ_ _ _ _ _ _ us b=>match us,b with|[_],_=>rfl
 have vari:dk P w K mg base 2 _ _ _:=A.vari.can (λf fd F=>GX F T made) λ_ _ _ _ _ _ us b=>match us,b with|[_],_=>rfl
 have rnum:dE P w K mg base 2 _ _ _:=A.rnum.canX (λf fd F=>xQ F T R made) λ_ _ _ _ _ _ us b=>match us,b with|[_,_],_=>rfl
 have shS:dk P w K mg base 1 _ _ _:=A.shS.can (λf fd F=>G1 F) λ_ _ _ _ _ _ us b=>match us,b with|[_],_=>rfl
 have splt:dk P w K mg base 1 _ _ _:=A.splt.can (λf fd F=>AK F T) λ_ _ _ _ _ _ us b=>match us,b with|[_],_=>rfl
 have init:DP P w K mg base 1 C _ _:=A.init.canI A.mks A.kc (λf fd F=>CO F W) λ_ _ _ _ _ _ us b=>match us,b with|[_,_],_=>rfl
 have comi:∀Z:Addr->Prop,kR P w K mg base 1 C "coming" ["self"] (jT C Z):=λZ=>A.comi.can (λf fd F=>AN F T W) λ_ _ _ _ _ _ us b=>match us,b with|[_],_=>rfl
 have take:∀Z:Addr->Prop,kR P w K mg base 2 C "take" ["self"] (iO C Z):=λZ=>A.take.can (λf fd F=>E3 F W (comi Z)) λ_ _ _ _ _ _ us b=>match us,b with|[_],_=>rfl
 have pass:∀Z:Addr->Prop,oB P w K mg base 3 C "pass_over" ["self","word"] (mq C ct Z):=λZ=>A.pass.canX (λf fd F=>E9 F W R (take Z)) λ_ _ _ _ _ _ us b=>match us,b with|[_,_],_=>rfl
 have ister:dk P w K mg base 1 _ _ _:=A.ister.can (λf fd F=>He F W) λ_ _ _ _ _ _ us b=>match us,b with|[_],_=>rfl
 have rnam:∀Z:Addr->Prop,dE P w K mg base 3 "read_name" ["row"] (fU C ct Z [] rName yK):=λZ=>A.rnam.canX (λf fd F=>CG F W R (take Z) name vari) λ_ _ _ _ _ _ us b=>match us,b with|[_],_=>rfl
 have rnms:∀Z:Addr->Prop,dE P w K mg base 4 "read_names" ["row"] (fU C ct Z [] fG (Ia Z)):=λZ=>A.rnms.canX (λf fd F=>AL F W (take Z) (comi Z) (pass Z) (rnam Z)) λ_ _ _ _ _ _ us b=>match us,b with|[_],_=>rfl
 have rset:∀Z:Addr->Prop,dE P w K mg base 5 "read_set" ["row"] (fU C ct Z [] ic (Bf Z)):=λZ=>A.rset.canX (λf fd F=>E8 F W R (take Z) (rnam Z) (rnms Z)) λ_ _ _ _ _ _ us b=>match us,b with|[_],_=>rfl
 have rcos:∀Z:Addr->Prop,dE P w K mg base 4 "read_cost" ["row"] (fU C ct Z [] jX (gO Z)):=λZ=>A.rcos.canX (λf fd F=>CJ F T W (take Z) (pass Z) (rnam Z) rnum) λ_ _ _ _ _ _ us b=>match us,b with|[_],_=>rfl
 have i:∀(Z:Addr->Prop)(m:Nat),dE P w K mg base (5*m+6) "read_first" ["row","room"] (pA C ct Z m)/\dE P w K mg base (5*m+7) "read_whole_term" ["row","room"] (uB C ct Z m)/\dE P w K mg base (5*m+9) "read_whole_claim" ["row","room"] (w_ C ct Z m)/\dE P w K mg base (5*m+8) "read_whole" ["row","room"] (Ay C ct Z m):=λZ m=>by
  have mk:∀m:Nat,dE P w K mg base (5*m+6) "read_first" ["row","room"] (pA C ct Z m)->dE P w K mg base (5*m+6) "read_first" ["row","room"] (pA C ct Z m)/\dE P w K mg base (5*m+7) "read_whole_term" ["row","room"] (uB C ct Z m)/\dE P w K mg base (5*m+9) "read_whole_claim" ["row","room"] (w_ C ct Z m)/\dE P w K mg base (5*m+8) "read_whole" ["row","room"] (Ay C ct Z m):=λm c=>by
   have wt:dE P w K mg base (5*m+7) "read_whole_term" ["row","room"] (uB C ct Z m):=A.rwt.canX (λf fd F=>G4 F R Qo c ister) λ_ _ _ _ _ _ us b=>match us,b with|[_,_],_=>rfl
   have l:dE P w K mg base (5*m+8) "read_whole" ["row","room"] (Ay C ct Z m):=A.rwh.canX (λf fd F=>G5 F W Qo (c.mono Qo) wt ister (comi Z) (take Z)) λ_ _ _ _ _ _ us b=>match us,b with|[_,_],_=>rfl
   have o:dE P w K mg base (5*m+9) "read_whole_claim" ["row","room"] (w_ C ct Z m):=A.rwc.canX (λf fd F=>G6 F R Qo l ister) λ_ _ _ _ _ _ us b=>match us,b with|[_,_],_=>rfl
   exact⟨c,wt,o,l⟩
  induction m with
  |zero=>exact mk 0 (A.rfst.canX (λf fd F=>G_ F T R) λ_ _ _ _ _ _ us b=>match us,b with|[_,_],_=>rfl)
  |succ m d=>
   obtain⟨c,wt,o,l⟩:=d;have ov:dE P w K mg base (5*m+10) "read_over_places" ["row","room","word"] (xB C ct Z m):=A.rove.canX (λf fd F=>G8 F W R Qo (take Z) vari (pass Z) (rset Z) o) λ_ _ _ _ _ _ us b=>match us,b with|[_,_,_],_=>rfl
   have tw:dE P w K mg base (5*m+10) "read_of_two" ["row","room","word"] (BP C ct Z m):=A.rtwo.canX (λf fd F=>E7 F W Qo (pass Z) (wt.mono Qo)) λ_ _ _ _ _ _ us b=>match us,b with|[_,_,_],_=>rfl
   have br:dE P w K mg base (5*m+10) "read_bracket" ["row","room"] (Gz C ct Z m):=A.rbra.canX (λf fd F=>Hb F W R Qo (take Z) ister (pass Z) (l.mono Qo)) λ_ _ _ _ _ _ us b=>match us,b with|[_,_],_=>rfl
   have fn:dE P w K mg base (5*m+10) "read_from_number" ["row","room","word"] (Gy C ct Z m):=A.rfrn.canX (λf fd F=>G9 F T W R Qo (take Z) (comi Z) rnum (wt.mono Qo)) λ_ _ _ _ _ _ us b=>match us,b with|[_,_,_],_=>rfl
   exact mk (m+1) (A.rfst.canX (λf fd F=>Ja F T W R Qo (take Z) (rnam Z) (rcos Z) (rset Z) (o.mono Qo) ov tw br fn) λ_ _ _ _ _ _ us b=>match us,b with|[_,_],_=>rfl)
 have k:=λZ=>(i Z 12).2.1;have h:=λZ=>(i Z 12).2.2.1;have shT:∀n:Nat,dk P w K mg base (n+2) "show_term" ["term"] (qV n):=λn=>by
  induction n with
  |zero=>exact A.shT.can (λf fd F=>E4 F) λ_ _ _ _ _ _ us b=>match us,b with|[_],_=>rfl
  |succ n d=>exact A.shT.can (λf fd F=>G0 F T W shS d) λ_ _ _ _ _ _ us b=>match us,b with|[_],_=>rfl
 have shC:∀n:Nat,dk P w K mg base (n+28) "show_claim" ["claim"] (uD n):=λn=>by
  induction n with
  |zero=>exact A.shC.can (λf fd F=>E5 F) λ_ _ _ _ _ _ us b=>match us,b with|[_],_=>rfl
  |succ n d=>exact A.shC.can (λf fd F=>G2 F T W Qo shS ((shT n).mono Qo) d) λ_ _ _ _ _ _ us b=>match us,b with|[_],_=>rfl
 have p:∀n:Nat,dk P w K mg base (n+1) "depth_of" ["whole"] (uH n):=λn=>by
  induction n with
  |zero=>exact A.depo.can (λf fd F=>Fd F) λ_ _ _ _ _ _ us b=>match us,b with|[_],_=>rfl
  |succ n d=>exact A.depo.can (λf fd F=>Hf F T W d) λ_ _ _ _ _ _ us b=>match us,b with|[_],_=>rfl
 have refu:dE P w K mg base 27 _ _ _:=A.refu.canX (λf fd F=>AM F T R (p 25)) λ_ _ _ _ _ _ us b=>match us,b with|[_,_,_],_=>rfl
 have rdC:dE P w K mg base 70 _ _ _:=A.rdC.canX (λf fd F=>CI F T W splt init h (shC 25) refu) λ_ _ _ _ _ _ us b=>match us,b with|[_],_=>rfl
 have rdT:dE P w K mg base 70 _ _ _:=A.rdT.canX (λf fd F=>CH F T W splt init (λZ=>(k Z).mono Qd) (shT 25) refu) λ_ _ _ _ _ _ us b=>match us,b with|[_],_=>rfl
 have cell:dk P w K mg base 1 _ _ _:=A.cell.can (λf fd F=>Fe F T) λ_ _ _ _ _ _ us b=>match us,b with|[_,_],_=>rfl
 have mixed:dk P w K mg base 1 _ _ _:=A.mixed.can (λf fd F=>CM F T) λ_ _ _ _ _ _ us b=>match us,b with|[_,_],_=>rfl
 have words:dk P w K mg base 2 _ _ _:=A.words.can (λf fd F=>CF F T mixed) λ_ _ _ _ _ _ us b=>match us,b with|[_,_,_],_=>rfl
 have point:dk P w K mg base 1 _ _ _:=A.point.can (λf fd F=>CK F T) λ_ _ _ _ _ _ us b=>match us,b with|[_,_],_=>rfl
 have setw:dk P w K mg base 2 _ _ _:=A.setw.can (λf fd F=>E6 F T point) λ_ _ _ _ _ _ us b=>match us,b with|[_,_],_=>rfl
 have numw:dk P w K mg base 1 _ _ _:=A.numw.can (λf fd F=>E_ F T) λ_ _ _ _ _ _ us b=>match us,b with|[_,_],_=>rfl
 have leaf:dk P w K mg base 3 _ _ _:=A.leaf.can (λf fd F=>Je F mixed point setw numw) λ_ _ _ _ _ _ us b=>match us,b with|[_,_,_],_=>rfl
 have rund:dk P w K mg base 3 _ _ _:=A.rund.can (λf fd F=>Ha F T mixed setw) λ_ _ _ _ _ _ us b=>match us,b with|[_,_,_,_,_],_=>rfl
 have txts:dk P w K mg base 4 _ _ _:=A.txts.can (λf fd F=>GY F T mixed leaf rund) λ_ _ _ _ _ _ us b=>match us,b with|[_,_],_=>rfl
 have sxt:dk P w K mg base 1 _ _ _:=A.sxt.can (λf fd F=>GZ F) λ_ _ _ _ _ _ us b=>match us,b with|[_],_=>rfl
 have ltx:=An A.ltx.ex T sxt 12;have lrun:dk P w K mg base 1 _ _ _:=A.lrun.can (λf fd F=>G7 F T) λ_ _ _ _ _ _ us b=>match us,b with|[_,_,_],_=>rfl
 have lnms:dk P w K mg base 2 _ _ _:=A.lnms.can (λf fd F=>CL F T lrun) λ_ _ _ _ _ _ us b=>match us,b with|[_,_,_],_=>rfl
 have nend:dk P w K mg base 2 _ _ _:=A.nend.can (λf fd F=>Jd F T lrun) λ_ _ _ _ _ _ us b=>match us,b with|[_,_],_=>rfl
 have send:dk P w K mg base 3 _ _ _:=A.send.can (λf fd F=>G3 F T lrun lnms) λ_ _ _ _ _ _ us b=>match us,b with|[_,_],_=>rfl
 have cend:dk P w K mg base 3 _ _ _:=A.cend.can (λf fd F=>Hg F lnms nend) λ_ _ _ _ _ _ us b=>match us,b with|[_,_],_=>rfl
 have flat:dk P w K mg base 1 _ _ _:=A.flat.can (λf fd F=>Ji F T) λ_ _ _ _ _ _ us b=>match us,b with|[_,_],_=>rfl
 have RR:K8 K mg:=⟨A.lthi.ex,A.lful.ex,A.linn.ex,A.ltwo.ex,A.lbra.ex,A.lnth.ex,A.lran.ex⟩;have g:dk P w K mg base 655 _ _ _:=HU RR T (HS RR T lrun lnms nend send cend flat 650);have lis:dk P w K mg base 1 _ _ _:=A.lis.can (λf fd F=>Jg F T R R2) λ_ _ _ _ _ _ us b=>match us,b with|[_,_],_=>rfl
 have lcau:dk P w K mg base 71 _ _ _:=A.lcau.can (λf fd F=>Jk F R2 rdC rdT) λ_ _ _ _ _ _ us b=>match us,b with|[_,_],_=>rfl
 have ljud:dk P w K mg base 656 _ _ _:=A.ljud.can (λf fd F=>Jf F T g lcau ltx lis) λ_ _ _ _ _ _ us b=>match us,b with|[_],_=>rfl
 have lchg:dk P w K mg base 2 _ _ _:=A.lchg.can (λf fd F=>Jj F T mixed) λ_ _ _ _ _ _ us b=>match us,b with|[_,_,_],_=>rfl
 have lodd:dk P w K mg base 1 _ _ _:=A.lodd.can (λf fd F=>Hc F) λ_ _ _ _ _ _ us b=>match us,b with|[],_=>rfl
 exact CN F T A.minN words cell mixed txts lodd ljud lchg
theorem FC{K:ah}{h:Heap}{mg:Str->Option Value}{cc a C v R O z x H s S:Addr}(X:K.In h)(G:h.Ns mainGlobals mg)(m0:dz K mainGlobals "NoText"=some (some (.ref a)))(J:dz K mainGlobals "NoName"=some (some (.ref C)))(M:dz K mainGlobals "Twice"=some (some (.ref v)))(n:dz K mainGlobals "SamePlace"=some (some (.ref R)))(p:dz K mainGlobals "NoWidth"=some (some (.ref O)))(u:dz K mainGlobals "NoTie"=some (some (.ref z)))(P:dz K mainGlobals "TooMany"=some (some (.ref x)))(t:dz K mainGlobals "NoPlace"=some (some (.ref H)))(N:dz K mainGlobals "NoClaim"=some (some (.ref s)))(E:dz K mainGlobals "NoLine"=some (some (.ref S)))(A:dz K mainGlobals "CourtError"=some (some (.ref cc)))(Q:dz K mainGlobals "ValueError"=some none)(L:PySem.W.specialIn K (.builtin "object.__class__") "__get__"=some (some (.builtin "getset_descriptor.__get__")))(I:PySem.W.takesIn K (.builtin "object.__class__")=some true)(T:PySem.W.excIn K a [.type "ValueError",.type "Exception",.type "BaseException",.type "object"] "ValueError.__new__"=true)(D:yO K (.ref a) (.ref cc)=some true)(y:bz K (.ref a) (.type "ValueError")=some true)(m:bz K (.ref a) (.ref a)=some true)(g:bz K (.ref a) (.ref C)=some false)(b:bz K (.ref a) (.ref v)=some false)(e:bz K (.ref a) (.ref R)=some false)(j:bz K (.ref a) (.ref O)=some false)(c:bz K (.ref a) (.ref z)=some false)(l:bz K (.ref a) (.ref x)=some false)(k:bz K (.ref a) (.ref H)=some false)(f:bz K (.ref a) (.ref s)=some false)(d:bz K (.ref a) (.ref S)=some false)(w:cW K (.ref a) "__getattribute__"=some (some (.builtin "BaseException.__getattribute__")))(B:cW K (.ref a) "__getattr__"=some none)(q:cW K (.ref a) "__class__"=some (some (.builtin "object.__class__")))(o:Bi K a (.type "object")=some true)(F:Bi K a (.type "BaseException")=some true):∃(ct cc:Addr)(cs:Nat->Addr),yL K mg ct/\FQ K mg ct cc cs:=⟨a,cc,(λi=>match i with|0=>C|1=>v|2=>R|3=>O|4=>z|5=>x|7=>H|8=>s|_=>S),⟨bU X G m0,T⟩,⟨bU X G J,bU X G M,bU X G n,bU X G p,bU X G u,bU X G P,bU X G t,bU X G N,bU X G E,bU X G A,cB X G Q,⟨w,B,q,L,I,o,F⟩,g,b,e,j,c,l,m,k,f,d,y,D⟩⟩
theorem HY{l:wI}{w:World}{K:ah}{h:Heap}{mg:Str->Option Value}{o C:Addr}{i:Addr}{j b:Option Addr}{n:Array (Option Value)}{k f c g a d:Value}
  (X:K.In h)(G:h.Ns mainGlobals mg)(m:mg "law"=some (.ref o))(p:dz K mainGlobals "law"=some (some (.ref i)))(u:K.lookup i=some ⟨k,j,.func (cT "law" "law" (gB s_law) (fD s_law) (aU s_law) .none f c g b a d),n⟩)(q:gZ K a "law"=true)(t:de K (.ref i)=true)(A:Lm l.prog w K mg C):
  ∃fd:FuncData,(∀(s:Shared)(v:Value),BindsTo s fd ⟨[v],[]⟩ [("_law_script",v)])/\∀base:Heap,K.In base->base.Ns mainGlobals mg->FnOk l.prog w K mg base gW 657 o fd ["_law_script"] (uF K):=by
 have e:=m.symm.trans (bU X G p);cases e;exact⟨cT "law" "law" (gB s_law) (fD s_law) (aU s_law) .none f c g b a d,λs v=>.of_eq rfl,λbase _ _=>Hz A (xZ u q t)⟩
theorem Iq{l:wI}{q:Program}{b:List Str}{m:(Str->Option Value)->Heap->Prop}{g:World->Heap->Prop}{d:DefRec}{K:Params->ah}(hn:l.most=some 63)(c:d.params.defaults=[])
  (j:∀(w:World)(h:Heap),g w h->(K w.params).In h)
  (F:∀(w:World)(mg:Str->Option Value)(e:Addr)(h:Heap),(K w.params).In h->h.Ns mainGlobals mg->mg d.name=some (.ref e)->
   ∃fd:FuncData,(∀(s:Shared)(u:Value),BindsTo s fd ⟨[u],[]⟩ [("_law_script",u)])/\∀base:Heap,(K w.params).In base->base.Ns mainGlobals mg->FnOk l.prog w (K w.params) mg base gW 657 e fd ["_law_script"] (uF (K w.params))):
  PySem.W.WalkO q b m g l.row.toRowW d [] (λf vs=>PySem.call f vs):=
 L2.D7 (n:=63) (k:=657) (x:="_law_script") (CX:=λ_=>gW) (sp:=λw=>uF (K w.params)) hn Qd c ⟨rfl,Qd,Qd,rfl⟩ j F (λ_ _ a ns o _ i=>⟨a,ns,rfl,i,o,λ_=>rfl⟩) λ_ _ _ _ _ z=>z
end Net
def PySem.W.Fast.tw2921990813144402499:Nat:=0
def PySem.W.Fast.tw9921602846678071523:Nat:=0
def PySem.W.Fast.tw6626611516336456808:Nat:=0
def PySem.W.Fast.tw7286696017694923992:Nat:=0
def PySem.W.Fast.tw3018202558558829871:Nat:=0
def PySem.W.Fast.tw4054764797637820563:Nat:=0
def PySem.W.Fast.tw8594290672666142629:Nat:=0
def PySem.W.Fast.tw2451265533893176543:Nat:=0
def PySem.W.Fast.tw3509065978260044649:Nat:=0
def PySem.W.Fast.tw8586157331069540598:Nat:=0
def PySem.W.Fast.tw9052797203800922577:Nat:=0
def PySem.W.Fast.tw517840030380208744:Nat:=0
def PySem.W.Fast.tw14993735927233494659:Nat:=0
def PySem.W.Fast.tw4005261452872587077:Nat:=0
def PySem.W.Fast.tw41544759704984040:Nat:=0
def PySem.W.Fast.tw12656136327669424376:Nat:=0
def PySem.W.Fast.tw14472409008447581712:Nat:=0
def PySem.W.Fast.tw7917307989671328506:Nat:=0
def PySem.W.Fast.tw3971881446438164087:Nat:=0
def PySem.W.Fast.tw7709555958816112220:Nat:=0
def PySem.W.Fast.tw10426681947777669222:Nat:=0
def PySem.W.Fast.tw3760074686301879755:Nat:=0
def PySem.W.Fast.tw12351480183227483574:Nat:=0
def PySem.W.Fast.tw8692524537436975159:Nat:=0
def PySem.W.Fast.tw9127319015959514847:Nat:=0
def PySem.W.Fast.tw2350052767963048641:Nat:=0
def PySem.W.Fast.tw1194178871464605552:Nat:=0
def PySem.W.Fast.tw5733241831770704126:Nat:=0
def PySem.W.Fast.tw4007234190862177635:Nat:=0
def PySem.W.Fast.tw17641516530286448024:Nat:=0
def PySem.W.Fast.tw3417778053994569101:Nat:=0
def PySem.W.Fast.tw12789986187149699145:Nat:=0
def PySem.W.Fast.tw16110234987347949772:Nat:=0
def PySem.W.Fast.tw15304105568201841871:Nat:=0
def PySem.W.Fast.tw1871369041477655161:Nat:=0
def PySem.W.Fast.tw7284505327177916320:Nat:=0
def PySem.W.Fast.tw5866562453420929530:Nat:=0
def PySem.W.Fast.tw11025082286759987919:Nat:=0
def PySem.W.Fast.tw9538294508729525188:Nat:=0
def PySem.W.Fast.tw16932864521794469321:Nat:=0
def PySem.W.Fast.tw14905652554523452649:Nat:=0
def PySem.W.Fast.tw13179095123442712442:Nat:=0
def PySem.W.Fast.tw2422211135428715440:Nat:=0
def PySem.W.Fast.tw7945998833632173279:Nat:=0
def PySem.W.Fast.tw1648690461770846750:Nat:=0
def PySem.W.Fast.tw16922683688729271199:Nat:=0
def PySem.W.Fast.tw872949481461253543:Nat:=0
def PySem.W.Fast.tw17861519941297713237:Nat:=0
def PySem.W.Fast.tw9925074792899148473:Nat:=0
def PySem.W.Fast.tw7846676984699971491:Nat:=0
def PySem.W.Fast.tw16376645123618077906:Nat:=0
def PySem.W.Fast.tw2220287009399001199:Nat:=0
def PySem.W.Fast.tw17176235102569572850:Nat:=0
def PySem.W.Fast.tw17068374979388697570:Nat:=0
def PySem.W.Fast.tw11750401525756277353:Nat:=0
def PySem.W.Fast.tw1208422673831086676:Nat:=0
def PySem.W.Fast.tw5538021206607663983:Nat:=0
def PySem.W.Fast.tw13500837628278060058:Nat:=0
def PySem.W.Fast.tw15011769568899187612:Nat:=0
def PySem.W.Fast.tw4275101196194926894:Nat:=0
def PySem.W.Fast.tw15900068086531386777:Nat:=0
def PySem.W.Fast.tw11200541957066634260:Nat:=0
def PySem.W.Fast.tw8898638333623346782:Nat:=0
def PySem.W.Fast.tw11969463971653362570:Nat:=0
def PySem.W.Fast.tw1349063110205100129:Nat:=0
def PySem.W.Fast.tw1188410472418448376:Nat:=0
def PySem.W.Fast.tw12193768652785196937:Nat:=0
def PySem.W.Fast.tw11588450491948347067:Nat:=0
def PySem.W.Fast.tw3568248685555687200:Nat:=0
def PySem.W.Fast.tw5587863207739461868:Nat:=0
def PySem.W.Fast.tw11853423693572517088:Nat:=0
def PySem.W.Fast.tw9763427804475805445:Nat:=0
def PySem.W.Fast.tw3773016161436132418:Nat:=0
def PySem.W.Fast.tw11821237009745407407:Nat:=0
def PySem.W.Fast.tw18396557968543825222:Nat:=0
def PySem.W.Fast.tw5340998576379719505:Nat:=0
def PySem.W.Fast.tw5934466832585018516:Nat:=0
def PySem.W.Fast.tw2681166778189578659:Nat:=0
def PySem.W.Fast.tw7856169123486749213:Nat:=0
def PySem.W.Fast.tw75954106957807780:Nat:=0
def PySem.W.Fast.tw1205154811898154983:Nat:=0
def PySem.W.Fast.tw7203595026227925959:Nat:=0
def PySem.W.Fast.tw4901323464429197699:Nat:=0
def PySem.W.Fast.tw9548563414583914608:Nat:=0
def PySem.W.Fast.tw15507540556955374915:Nat:=0
def PySem.W.Fast.tw1624118954327840232:Nat:=0
def PySem.W.Fast.tw10409676710330596838:Nat:=0
def PySem.W.Fast.tw155605803970527474:Nat:=0
def PySem.W.Fast.tw13924574330275305638:Nat:=0
def PySem.W.Fast.tw15147950695211675934:Nat:=0
def PySem.W.Fast.tw14943584321400108025:Nat:=0
def PySem.W.Fast.tw17517281053877121890:Nat:=0
def PySem.W.Fast.tw15662345838423102449:Nat:=0
def PySem.W.Fast.tw16041662459882696156:Nat:=0
def PySem.W.Fast.tw10175737308760998714:Nat:=0
def PySem.W.Fast.tw4403068951956026334:Nat:=0
def PySem.W.Fast.tw15693809325690957421:Nat:=0
def PySem.W.Fast.tw14380189131253022223:Nat:=0
def PySem.W.Fast.tw8105650837789990671:Nat:=0
def PySem.W.Fast.tw7550824406276911962:Nat:=0
def PySem.W.Fast.tw4230687608756535716:Nat:=0
def PySem.W.Fast.tw8540472659966734639:Nat:=0
def PySem.W.Fast.tw5403617752894264256:Nat:=0
def PySem.W.Fast.tw9313541412732529847:Nat:=0
def PySem.W.Fast.tw5334800723250326793:Nat:=0
def PySem.W.Fast.tw2360338397564049384:Nat:=0
def PySem.W.Fast.tw1092098137848081793:Nat:=0
def PySem.W.Fast.tw15103593900034592068:Nat:=0
def PySem.W.Fast.tw3135189770922106159:Nat:=0
def PySem.W.Fast.tw3917355956651642889:Nat:=0
def PySem.W.Fast.tw11739335852757901979:Nat:=0
def PySem.W.Fast.tw3988038740133100922:Nat:=0
def PySem.W.Fast.tw2975678699250904993:Nat:=0
def PySem.W.Fast.tw7230395900030527916:Nat:=0
def PySem.W.Fast.tw12082956414038334364:Nat:=0
def PySem.W.Fast.tw1803807188610131829:Nat:=0
def PySem.W.Fast.tw8106103803287463162:Nat:=0
def PySem.W.Fast.tw3822925613015636151:Nat:=0
def PySem.W.Fast.tw71641662807756113:Nat:=0
def PySem.W.Fast.tw10194410435236822568:Nat:=0
def PySem.W.Fast.tw6527303774489468822:Nat:=0
def PySem.W.Fast.tw6699507187997022090:Nat:=0
def PySem.W.Fast.tw11584010839054519061:Nat:=0
def PySem.W.Fast.tw6505210619726485863:Nat:=0
def PySem.W.Fast.tw3186340442335076111:Nat:=0
def PySem.W.Fast.tw1342454770920081773:Nat:=0
def PySem.W.Fast.tw2077210259987739556:Nat:=0
def PySem.W.Fast.tw9364500900242542391:Nat:=0
def PySem.W.Fast.tw12784801912622276554:Nat:=0
def PySem.W.Fast.tw7947348301394135806:Nat:=0
def PySem.W.Fast.tw7182194433404718330:Nat:=0
def PySem.W.Fast.tw7333910383597869334:Nat:=0
def PySem.W.Fast.tw8933768180717294965:Nat:=0
def PySem.W.Fast.tw17916438400062521532:Nat:=0
def PySem.W.Fast.tw1292195458022888925:Nat:=0
def PySem.W.Fast.tw3336213214765817159:Nat:=0
def PySem.W.Fast.tw12349225381635846528:Nat:=0
def PySem.W.Fast.tw3993703396248188685:Nat:=0
def PySem.W.Fast.tw5132819824923571567:Nat:=0
def PySem.W.Fast.tw15357408134963866609:Nat:=0
def PySem.W.Fast.tw8779014309098206122:Nat:=0
def PySem.W.Fast.tw667881720752274748:Nat:=0
def PySem.W.Fast.tw11081720777956151540:Nat:=0
def PySem.W.Fast.tw8240815360714624023:Nat:=0
def PySem.W.Fast.tw4076128040510412595:Nat:=0
def PySem.W.Fast.tw1174697182194540017:Nat:=0
def PySem.W.Fast.tw6378730786446349931:Nat:=0
def PySem.W.Fast.tw6324802360959987598:Nat:=0
def PySem.W.Fast.tw13854651244757683138:Nat:=0
def PySem.W.Fast.tw16048515041955492253:Nat:=0
def PySem.W.Fast.tw2208666377872287981:Nat:=0
def PySem.W.Fast.tw10606271118083728134:Nat:=0
def PySem.W.Fast.tw7849748940832258114:Nat:=0
def PySem.W.Fast.tw1222001232778951873:Nat:=0
def PySem.W.Fast.tw6575062671843238778:Nat:=0
def PySem.W.Fast.tw11123306790158255709:Nat:=0
def PySem.W.Fast.tw4177625665625306360:Nat:=0
def PySem.W.Fast.tw4875734468181707876:Nat:=0
def PySem.W.Fast.tw6473167908807347118:Nat:=0
def PySem.W.Fast.tw8734967901772150543:Nat:=0
def PySem.W.Fast.tw7685445787813827882:Nat:=0
def PySem.W.Fast.tw5583738705228108071:Nat:=0
def PySem.W.Fast.tw12856059309914996815:Nat:=0
def PySem.W.Fast.tw2969374274906111341:Nat:=0
def PySem.W.Fast.tw5669338212925016451:Nat:=0
def PySem.W.Fast.tw16280689937878091126:Nat:=0
def PySem.W.Fast.tw5254913406056977433:Nat:=0
def PySem.W.Fast.tw15363735767040206010:Nat:=0
def PySem.W.Fast.tw15438984280119286486:Nat:=0
def PySem.W.Fast.tw10846538703775734247:Nat:=0
def PySem.W.Fast.tw13013061247081486464:Nat:=0
def PySem.W.Fast.tw1840046355144867801:Nat:=0
def PySem.W.Fast.tw6084662551934816510:Nat:=0
def PySem.W.Fast.tw11145910820456952115:Nat:=0
def PySem.W.Fast.tw2373651683492402079:Nat:=0
def PySem.W.Fast.tw17501701141479863809:Nat:=0
def PySem.W.Fast.tw10975492514057845408:Nat:=0
def PySem.W.Fast.tw14457430899727340313:Nat:=0
def PySem.W.Fast.tw15923442042800034559:Nat:=0
def PySem.W.Fast.tw16709818297085312987:Nat:=0
def PySem.W.Fast.tw2989679284877533580:Nat:=0
def PySem.W.Fast.tw17739886641272953012:Nat:=0
def PySem.W.Fast.tw6561531525527139051:Nat:=0
def PySem.W.Fast.tw5367387348411495247:Nat:=0
def PySem.W.Fast.tw10702170962037836487:Nat:=0
def PySem.W.Fast.tw5439592229328297684:Nat:=0
def PySem.W.Fast.tw13929173959770859417:Nat:=0
def PySem.W.Fast.tw11617386439442468541:Nat:=0
def PySem.W.Fast.tw6527007167719271375:Nat:=0
def PySem.W.Fast.tw4893335520974410506:Nat:=0
def PySem.W.Fast.tw7007952416910781836:Nat:=0
def PySem.W.Fast.tw4467064760392894304:Nat:=0
def PySem.W.Fast.tw7066737348553039822:Nat:=0
def PySem.W.Fast.tw5297063637770556038:Nat:=0
def PySem.W.Fast.tw17516950977365209539:Nat:=0
def PySem.W.Fast.tw977040771125937651:Nat:=0
def PySem.W.Fast.tw3949690192386378933:Nat:=0
def PySem.W.Fast.tw13176729517691143677:Nat:=0
def PySem.W.Fast.tw9637078390682219613:Nat:=0
def PySem.W.Fast.tw8189391726565317619:Nat:=0
def PySem.W.Fast.tw15150643531524903394:Nat:=0
def PySem.W.Fast.tw523187693261326675:Nat:=0
def PySem.W.Fast.tw13736650121991425929:Nat:=0
def PySem.W.Fast.tw8353947259458256363:Nat:=0
def PySem.W.Fast.tw7908104100660877121:Nat:=0
def PySem.W.Fast.tw3531901268870541048:Nat:=0
def PySem.W.Fast.tw16611653474152471519:Nat:=0
def PySem.W.Fast.tw11249465042875868578:Nat:=0
def PySem.W.Fast.tw4348907961789921962:Nat:=0
def PySem.W.Fast.tw16011954843314257775:Nat:=0
def PySem.W.Fast.tw6203304905745555835:Nat:=0
def PySem.W.Fast.tw10445172281203901705:Nat:=0
def PySem.W.Fast.tw14992528198378741079:Nat:=0
def PySem.W.Fast.tw13001369898726183868:Nat:=0
def PySem.W.Fast.tw17970289755509019450:Nat:=0
def PySem.W.Fast.tw9919401449098938209:Nat:=0
def PySem.W.Fast.tw3998860236679954928:Nat:=0
def PySem.W.Fast.tw15302691251005674512:Nat:=0
def PySem.W.Fast.tw6098671832844800476:Nat:=0
def PySem.W.Fast.tw9715389111571201307:Nat:=0
def PySem.W.Fast.tw11042712835524462322:Nat:=0
def PySem.W.Fast.tw11466592522140239082:Nat:=0
def PySem.W.Fast.tw1617000567589194667:Nat:=0
def PySem.W.Fast.tw14038608354962195011:Nat:=0
def PySem.W.Fast.tw10387537754677317829:Nat:=0
def PySem.W.Fast.tw15240400979435258241:Nat:=0
def PySem.W.Fast.tw2496159832416834858:Nat:=0
def PySem.W.Fast.tw8689474809811235162:Nat:=0
def PySem.W.Fast.tw9926289049941639700:Nat:=0
def PySem.W.Fast.tw1286849449503411352:Nat:=0
def PySem.W.Fast.tw1679239126852932103:Nat:=0
def PySem.W.Fast.tw13089024918891560216:Nat:=0
def PySem.W.Fast.tw7672583642218877291:Nat:=0
def PySem.W.Fast.tw9950223005600292248:Nat:=0
def PySem.W.Fast.tw15048168897774716233:Nat:=0
def PySem.W.Fast.tw14621480947596822473:Nat:=0
def PySem.W.Fast.tw9371425912975702032:Nat:=0
def PySem.W.Fast.tw7167712913224150234:Nat:=0
def PySem.W.Fast.tw12996882393954637846:Nat:=0
def PySem.W.Fast.tw9805503689548984312:Nat:=0
def PySem.W.Fast.tw11899132643103997358:Nat:=0
def PySem.W.Fast.tw3282229717786441280:Nat:=0
def PySem.W.Fast.tw15270935547949818929:Nat:=0
def PySem.W.Fast.tw15902193805621385479:Nat:=0
def PySem.W.Fast.tw1575580487264143069:Nat:=0
def PySem.W.Fast.tw15891615887916603964:Nat:=0
def PySem.W.Fast.tw9498722638551021181:Nat:=0
def PySem.W.Fast.tw17805434299067315933:Nat:=0
def PySem.W.Fast.tw1936116352160589983:Nat:=0
def PySem.W.Fast.tw7869660861272508785:Nat:=0
def PySem.W.Fast.tw2944102059501014648:Nat:=0
def PySem.W.Fast.tw3343414762757262171:Nat:=0
def PySem.W.Fast.tw2089659168636397513:Nat:=0
def PySem.W.Fast.tw10568504858144668204:Nat:=0
def PySem.W.Fast.tw16889411602971477220:Nat:=0
def PySem.W.Fast.tw8433192555569676153:Nat:=0
def PySem.W.Fast.tw3687513951243342182:Nat:=0
def PySem.W.Fast.tw5509192183934026499:Nat:=0
def PySem.W.Fast.tw12519694022574457988:Nat:=0
def PySem.W.Fast.tw5665300414288798477:Nat:=0
def PySem.W.Fast.tw12013169201671474063:Nat:=0
def PySem.W.Fast.tw17515632556965360219:Nat:=0
def PySem.W.Fast.tw10898300132132789925:Nat:=0
def PySem.W.Fast.tw12876435639677851422:Nat:=0
def PySem.W.Fast.tw1289612395753320291:Nat:=0
def PySem.W.Fast.tw3894895090743696217:Nat:=0
def PySem.W.Fast.tw9395722656217120137:Nat:=0
def PySem.W.Fast.tw14492069132202743644:Nat:=0
def PySem.W.Fast.tw8585037487095070706:Nat:=0
def PySem.W.Fast.tw3447833090183579823:Nat:=0
def PySem.W.Fast.tw12300478642739008661:Nat:=0
def PySem.W.Fast.tw16637697270115937358:Nat:=0
def PySem.W.Fast.tw18234111191841087241:Nat:=0
def PySem.W.Fast.tw15821319943414986890:Nat:=0
def PySem.W.Fast.tw5985683660135245182:Nat:=0
def PySem.W.Fast.tw13608056187394956559:Nat:=0
def PySem.W.Fast.tw7725275460623294494:Nat:=0
def PySem.W.Fast.tw13224954791777731930:Nat:=0
def PySem.W.Fast.tw14808909079601753380:Nat:=0
def PySem.W.Fast.tw16968071926192496684:Nat:=0
def PySem.W.Fast.tw8374110482978653898:Nat:=0
def PySem.W.Fast.tw15557851006522107598:Nat:=0
def PySem.W.Fast.tw15909341886097558432:Nat:=0
def PySem.W.Fast.tw3358973476307736629:Nat:=0
def PySem.W.Fast.tw7261150401597180887:Nat:=0
def PySem.W.Fast.tw4294368363646732999:Nat:=0
def PySem.W.Fast.tw4644338669210284295:Nat:=0
def PySem.W.Fast.tw12029467110224467108:Nat:=0
def PySem.W.Fast.tw11089459226149021925:Nat:=0
def PySem.W.Fast.tw9460380956227426894:Nat:=0
def PySem.W.Fast.tw4017431923750363018:Nat:=0
def PySem.W.Fast.tw829719864997681550:Nat:=0
def PySem.W.Fast.tw8312107774576319907:Nat:=0
def PySem.W.Fast.tw1413330327337217837:Nat:=0
def PySem.W.Fast.tw16808129224636535650:Nat:=0
def PySem.W.Fast.tw14241550506376989441:Nat:=0
def PySem.W.Fast.tw11948280102398264974:Nat:=0
def PySem.W.Fast.tw2080212453506324591:Nat:=0
def PySem.W.Fast.tw11330740581843648969:Nat:=0
def PySem.W.Fast.tw1585734864488275227:Nat:=0
def PySem.W.Fast.tw7390875995012803975:Nat:=0
def PySem.W.Fast.tw3404294580321650132:Nat:=0
def PySem.W.Fast.tw16246046230420690790:Nat:=0
def PySem.W.Fast.tw9771626859812744983:Nat:=0
def PySem.W.Fast.tw5078376561348426227:Nat:=0
def PySem.W.Fast.tw657011707765356664:Nat:=0
def PySem.W.Fast.tw3205853444765975242:Nat:=0
def PySem.W.Fast.tw17742604484507225138:Nat:=0
def PySem.W.Fast.tw477272657807397606:Nat:=0
def PySem.W.Fast.tw13071218330530748111:Nat:=0
def PySem.W.Fast.tw8497101463405680529:Nat:=0
def PySem.W.Fast.tw6800675554034545469:Nat:=0
def PySem.W.Fast.tw8274275857037216486:Nat:=0
def PySem.W.Fast.tw12545355343591265731:Nat:=0
def PySem.W.Fast.tw14342323529419179425:Nat:=0
def PySem.W.Fast.tw11651701070163575528:Nat:=0
def PySem.W.Fast.tw11587986932759827892:Nat:=0
def PySem.W.Fast.tw15618189283077325811:Nat:=0
def PySem.W.Fast.tw2891531757493360825:Nat:=0
def PySem.W.Fast.tw9241585723125591050:Nat:=0
def PySem.W.Fast.tw5237695833330664814:Nat:=0
def PySem.W.Fast.tw6758872464502688846:Nat:=0
def PySem.W.Fast.tw12287814441079131525:Nat:=0
def PySem.W.Fast.tw18249217969044247452:Nat:=0
def PySem.W.Fast.tw16830540150751999229:Nat:=0
def PySem.W.Fast.tw4360812025149031400:Nat:=0
def PySem.W.Fast.tw750272247699887665:Nat:=0
def PySem.W.Fast.tw13396108760217934140:Nat:=0
def PySem.W.Fast.tw129345789720901761:Nat:=0
def PySem.W.Fast.tw14567478519639857572:Nat:=0
def PySem.W.Fast.tw11571407480964073899:Nat:=0
def PySem.W.Fast.tw2828057825625462576:Nat:=0
def PySem.W.Fast.tw485489912243162510:Nat:=0
def PySem.W.Fast.tw12890652097162409056:Nat:=0
def PySem.W.Fast.tw16313853138625706735:Nat:=0
def PySem.W.Fast.tw8579326703829184218:Nat:=0
def PySem.W.Fast.tw9842362549097834975:Nat:=0
def PySem.W.Fast.tw2214043199763966736:Nat:=0
def PySem.W.Fast.tw9279438743871002233:Nat:=0
def PySem.W.Fast.tw7179228650940452852:Nat:=0
def PySem.W.Fast.tw16370560783813709343:Nat:=0
def PySem.W.Fast.tw1427218942387347680:Nat:=0
def PySem.W.Fast.tw6117179428754499584:Nat:=0
def PySem.W.Fast.tw18038778770533895428:Nat:=0
def PySem.W.Fast.tw659651049386941080:Nat:=0
def PySem.W.Fast.tw2667152930289731050:Nat:=0
def PySem.W.Fast.tw8194898879464894951:Nat:=0
def PySem.W.Fast.tw3219340271030503441:Nat:=0
def PySem.W.Fast.tw2274662801628849088:Nat:=0
def PySem.W.Fast.tw16904455703365628116:Nat:=0
def PySem.W.Fast.tw2848862936101265926:Nat:=0
def PySem.W.Fast.tw15638325929310936263:Nat:=0
def PySem.W.Fast.tw13780406366447658005:Nat:=0
def PySem.W.Fast.tw7076464045507149957:Nat:=0
def PySem.W.Fast.tw2340227223538805032:Nat:=0
def PySem.W.Fast.tw15831060598447284045:Nat:=0
def PySem.W.Fast.tw12351338989578469887:Nat:=0
def PySem.W.Fast.tw6267837121831328707:Nat:=0
def PySem.W.Fast.tw5924223384182820652:Nat:=0
def PySem.W.Fast.tw17963732827512961780:Nat:=0
def PySem.W.Fast.tw10356956902561071918:Nat:=0
def PySem.W.Fast.tw11926266470981057415:Nat:=0
def PySem.W.Fast.tw13055786542623236581:Nat:=0
def PySem.W.Fast.tw11755606877817763912:Nat:=0
def PySem.W.Fast.tw8427640465484961586:Nat:=0
def PySem.W.Fast.tw12581229142854966968:Nat:=0
def PySem.W.Fast.tw3633455189366029463:Nat:=0
def PySem.W.Fast.tw3338932625796830682:Nat:=0
def PySem.W.Fast.tw16049329184044875:Nat:=0
def PySem.W.Fast.tw17429304571613376866:Nat:=0
def PySem.W.Fast.tw15536564995572844606:Nat:=0
def PySem.W.Fast.tw4788765815630653262:Nat:=0
def PySem.W.Fast.tw969157249841414903:Nat:=0
def PySem.W.Fast.tw12230727401766354801:Nat:=0
def PySem.W.Fast.tw12593622910192689410:Nat:=0
def PySem.W.Fast.tw3707027007404551918:Nat:=0
def PySem.W.Fast.tw10257463053486468860:Nat:=0
def PySem.W.Fast.tw1012722423990274538:Nat:=0
def PySem.W.Fast.tw2170207893163514235:Nat:=0
def PySem.W.Fast.tw16049991308051522938:Nat:=0
def PySem.W.Fast.tw7056709534262653480:Nat:=0
def PySem.W.Fast.tw14072539514853951184:Nat:=0
def PySem.W.Fast.tw16359867390927645774:Nat:=0
def PySem.W.Fast.tw15147355272214580193:Nat:=0
def PySem.W.Fast.tw9865593144814416125:Nat:=0
def PySem.W.Fast.tw14994368346294955784:Nat:=0
def PySem.W.Fast.tw12063805923290785085:Nat:=0
def PySem.W.Fast.tw536936173707825721:Nat:=0
def PySem.W.Fast.tw6612254260053185762:Nat:=0
def PySem.W.Fast.tw17125674020410355262:Nat:=0
def PySem.W.Fast.tw16991827579463734106:Nat:=0
def PySem.W.Fast.tw7298766162897551871:Nat:=0
def PySem.W.Fast.tw8268229361527753161:Nat:=0
def PySem.W.Fast.tw12106535904609186022:Nat:=0
def PySem.W.Fast.tw57324839559088512:Nat:=0
def PySem.W.Fast.tw6788886205809190958:Nat:=0
def PySem.W.Fast.tw11137876616095425826:Nat:=0
def PySem.W.Fast.tw13386942567682092755:Nat:=0
def PySem.W.Fast.tw4537745271654482984:Nat:=0
def PySem.W.Fast.tw15070165901472458848:Nat:=0
def PySem.W.Fast.tw11791272275847354627:Nat:=0
def PySem.W.Fast.tw14274290785015279177:Nat:=0
def PySem.W.Fast.tw17877774010094140628:Nat:=0
def PySem.W.Fast.tw17806863632185373525:Nat:=0
def PySem.W.Fast.tw13264199679653186845:Nat:=0
def PySem.W.Fast.tw1134463125227801394:Nat:=0
def PySem.W.Fast.tw8286544707941017120:Nat:=0
def PySem.W.Fast.tw139932373292198601:Nat:=0
def PySem.W.Fast.tw7624527803227553531:Nat:=0
def PySem.W.Fast.tw18200961467085131896:Nat:=0
def PySem.W.Fast.tw2460465341988774100:Nat:=0
def PySem.W.Fast.tw362969311393309658:Nat:=0
def PySem.W.Fast.tw9937868933973403094:Nat:=0
def PySem.W.Fast.tw8340545728396846492:Nat:=0
def PySem.W.Fast.tw9021744664229573383:Nat:=0
def PySem.W.Fast.tw5528152272157696079:Nat:=0
def PySem.W.Fast.tw15250193724991600189:Nat:=0
def PySem.W.Fast.tw1646203233177729668:Nat:=0
def PySem.W.Fast.tw7283062412208391860:Nat:=0
def PySem.W.Fast.tw14222646893236795940:Nat:=0
def PySem.W.Fast.tw11206475190448602065:Nat:=0
def PySem.W.Fast.tw8472211706249514567:Nat:=0
def PySem.W.Fast.tw2854486403117997127:Nat:=0
def PySem.W.Fast.tw7899767278883698756:Nat:=0
def PySem.W.Fast.tw1144317965954904533:Nat:=0
def PySem.W.Fast.tw76969782403390423:Nat:=0
def PySem.W.Fast.tw16667464041623472999:Nat:=0
def PySem.W.Fast.tw10319229899563102769:Nat:=0
def PySem.W.Fast.tw6742991604976019208:Nat:=0
def PySem.W.Fast.tw9965572401907780927:Nat:=0
def PySem.W.Fast.tw5127106850465860589:Nat:=0
def PySem.W.Fast.tw11401401139419719578:Nat:=0
def PySem.W.Fast.tw6989656321342007702:Nat:=0
def PySem.W.Fast.tw14115171580544254598:Nat:=0
def PySem.W.Fast.tw3469129338029070106:Nat:=0
def PySem.W.Fast.tw11087015074338210382:Nat:=0
def PySem.W.Fast.tw15625073611527323982:Nat:=0
def PySem.W.Fast.tw17554164040360437590:Nat:=0
def PySem.W.Fast.tw15027878930897649801:Nat:=0
def PySem.W.Fast.tw1479449702465764108:Nat:=0
def PySem.W.Fast.tw7356476890138109150:Nat:=0
def PySem.W.Fast.tw9501993603760690976:Nat:=0
def PySem.W.Fast.tw6629177554955367282:Nat:=0
def PySem.W.Fast.tw9126761455206757866:Nat:=0
def PySem.W.Fast.tw180247507773146141:Nat:=0
def PySem.W.Fast.tw18409856256247574793:Nat:=0
def PySem.W.Fast.tw6394545585758920902:Nat:=0
def PySem.W.Fast.tw3368234443397919546:Nat:=0
def PySem.W.Fast.tw16363590684286886194:Nat:=0
def PySem.W.Fast.tw14398889995872670369:Nat:=0
def PySem.W.Fast.tw9530825693179961459:Nat:=0
def PySem.W.Fast.tw8228258860756943909:Nat:=0
def PySem.W.Fast.tw17011248211572446803:Nat:=0
def PySem.W.Fast.tw2523533839234672396:Nat:=0
def PySem.W.Fast.tw6487413282649143300:Nat:=0
def PySem.W.Fast.tw7876769495895645007:Nat:=0
def PySem.W.Fast.tw15010354660149557402:Nat:=0
def PySem.W.Fast.tw9302590713942401260:Nat:=0
def PySem.W.Fast.tw5205213389988891448:Nat:=0
def PySem.W.Fast.tw267301352528159688:Nat:=0
def PySem.W.Fast.tw3548207465337119721:Nat:=0
def PySem.W.Fast.tw10991428446140781039:Nat:=0
def PySem.W.Fast.tw6400442362599673407:Nat:=0
def PySem.W.Fast.tw14465851317026666313:Nat:=0
def PySem.W.Fast.tw7862446093822055136:Nat:=0
def PySem.W.Fast.tw13103214312780604978:Nat:=0
def PySem.W.Fast.tw3877531959801190519:Nat:=0
def PySem.W.Fast.tw818644568432557366:Nat:=0
def PySem.W.Fast.tw13012982451482948970:Nat:=0
def PySem.W.Fast.tw14243158967174808722:Nat:=0
def PySem.W.Fast.tw8495240634865708787:Nat:=0
def PySem.W.Fast.tw16745920324475427294:Nat:=0
def PySem.W.Fast.tw2712332809263969528:Nat:=0
def PySem.W.Fast.tw18441777392226671476:Nat:=0
def PySem.W.Fast.tw18344078857898525439:Nat:=0
def PySem.W.Fast.tw13056807150459902439:Nat:=0
def PySem.W.Fast.tw12296211590432329143:Nat:=0
def PySem.W.Fast.tw4670160981762651366:Nat:=0
def PySem.W.Fast.tw7042165346278692505:Nat:=0
def PySem.W.Fast.tw1709941734384215633:Nat:=0
def PySem.W.Fast.tw13259726786616207713:Nat:=0
def PySem.W.Fast.tw5795279335550876720:Nat:=0
def PySem.W.Fast.tw11096185729839910902:Nat:=0
def PySem.W.Fast.tw12972755444339834747:Nat:=0
def PySem.W.Fast.tw14388340775394315061:Nat:=0
def PySem.W.Fast.tw3290479803287957686:Nat:=0
def PySem.W.Fast.tw11924562302711683400:Nat:=0
def PySem.W.Fast.tw3936194030927596580:Nat:=0
def PySem.W.Fast.tw12050887910677323490:Nat:=0
def PySem.W.Fast.tw18024369754655502849:Nat:=0
def PySem.W.Fast.tw3709447378191020441:Nat:=0
def PySem.W.Fast.tw9726388866510119833:Nat:=0
def PySem.W.Fast.tw6433252152516324544:Nat:=0
def PySem.W.Fast.tw17082844799414344933:Nat:=0
def PySem.W.Fast.tw16373920261490673027:Nat:=0
def PySem.W.Fast.tw8414307814150289355:Nat:=0
def PySem.W.Fast.tw13013349607423030654:Nat:=0
def PySem.W.Fast.tw5720265395756931927:Nat:=0
def PySem.W.Fast.tw153864994113994996:Nat:=0
def PySem.W.Fast.tw11097849243625869283:Nat:=0
def PySem.W.Fast.tw14868254171734207145:Nat:=0
def PySem.W.Fast.tw17483613158940127899:Nat:=0
def PySem.W.Fast.tw13889071980065676003:Nat:=0
def PySem.W.Fast.tw162922320437526821:Nat:=0
def PySem.W.Fast.tw11226828705506534713:Nat:=0
def PySem.W.Fast.tw17217123782939118306:Nat:=0
def PySem.W.Fast.tw5106448537133875213:Nat:=0
def PySem.W.Fast.tw16821381737678102070:Nat:=0
def PySem.W.Fast.tw3237943545002557972:Nat:=0
def PySem.W.Fast.tw11146621605042316799:Nat:=0
def PySem.W.Fast.tw14510436160593021370:Nat:=0
def PySem.W.Fast.tw3023093708321984349:Nat:=0
def PySem.W.Fast.tw3253435875071471550:Nat:=0
def PySem.W.Fast.tw2668979049823761191:Nat:=0
def PySem.W.Fast.tw15246769981658014149:Nat:=0
def PySem.W.Fast.tw6193269664107204586:Nat:=0
def PySem.W.Fast.tw94149622440269127:Nat:=0
def PySem.W.Fast.tw12649507499156031266:Nat:=0
def PySem.W.Fast.tw8839253196861504279:Nat:=0
def PySem.W.Fast.tw17733198527497184777:Nat:=0
def PySem.W.Fast.tw12896128096632104707:Nat:=0
def PySem.W.Fast.tw15220424257560599192:Nat:=0
def PySem.W.Fast.tw10005840609478749564:Nat:=0
def PySem.W.Fast.tw18286514952523851102:Nat:=0
def PySem.W.Fast.tw7290861019900214342:Nat:=0
def PySem.W.Fast.tw15794775363040298795:Nat:=0
def PySem.W.Fast.tw5048846867687217784:Nat:=0
def PySem.W.Fast.tw16096795447000904290:Nat:=0
def PySem.W.Fast.tw6145444845618681552:Nat:=0
def PySem.W.Fast.tw6223850267595375210:Nat:=0
def PySem.W.Fast.tw7667169651234632154:Nat:=0
def PySem.W.Fast.tw11386303478949806083:Nat:=0
def PySem.W.Fast.tw5423081574463982688:Nat:=0
def PySem.W.Fast.tw935655824372141926:Nat:=0
def PySem.W.Fast.tw13401041382315424203:Nat:=0
def PySem.W.Fast.tw1372457387106100975:Nat:=0
def PySem.W.Fast.tw10789695476365953896:Nat:=0
def PySem.W.Fast.tw7333610354985292477:Nat:=0
def PySem.W.Fast.tw18264496621645121472:Nat:=0
def PySem.W.Fast.tw22505619127659921:Nat:=0
def PySem.W.Fast.tw5172429793020988780:Nat:=0
def PySem.W.Fast.tw4609947279403479262:Nat:=0
def PySem.W.Fast.tw3750747413933726467:Nat:=0
def PySem.W.Fast.tw13810185189966165284:Nat:=0
def PySem.W.Fast.tw8674943605107727863:Nat:=0
def PySem.W.Fast.tw8337455787161410741:Nat:=0
def PySem.W.Fast.tw7340252898641935170:Nat:=0
def PySem.W.Fast.tw13772328563152937101:Nat:=0
def PySem.W.Fast.tw4456199775675732187:Nat:=0
def PySem.W.Fast.tw8994988948866735997:Nat:=0
open PySem PySem.W PyProof.Rows
set_option maxRecDepth 100000 in
set_option maxHeartbeats 0 in
theorem PySem.Challenge.cw_netcourt_k82_claim_texts_refused_holds : PySem.Challenge.rw_netcourt_k82_claim_texts_refused.Holds := by
 w_on;o_law;k_head;(case hw=>w_witness2)
 k_fill
 first|refine Net.Iq (l:=PySem.Challenge.rw_netcourt_k82_claim_texts_refused) rfl rfl (λw h Y=>PySem.W.kIn_of Y) ?F|refine Net.Iq (l:=PySem.Challenge.rw_netcourt_k82_claim_texts_refused) rfl rfl (λw h Y=>PySem.W.km_in_of Y) ?F
 case F=>
  intro w mg fa h X G hmg;refine' Net.HY X G hmg ?aL ?lL ?cL ?kL {T:={all:=cB X G ?z_all,isi:=cB X G ?z_isinstance,str:=cB X G ?z_str,int:=cB X G ?z_int,bool:=cB X G ?z_bool,list:=cB X G ?z_list,tuple:=cB X G ?z_tuple,len:=cB X G ?z_len,range:=cB X G ?z_range,abs:=cB X G ?z_abs,max:=cB X G ?z_max,small:=⟨_,bU X G ?gS,?rS⟩,longest:=⟨_,bU X G ?gN,?rN⟩,figs:=⟨_,bU X G ?gP,?rP⟩,mostF:=⟨_,bU X G ?gM,?rM⟩,deep:=⟨_,bU X G ?gD,?rD⟩,great:=⟨_,bU X G ?gG,?rG⟩,longV:=⟨_,bU X G ?gV,?rV⟩,signs:=⟨_,bU X G ?gL,?rL⟩,kIB:=Net.KR _},cls:=⟨?pg,?hd,?po,?sa⟩,mgC:=bU X G ?aC,nW:=?nS,nT:=?nL,mks:=?mk,kc:=?kc,errs:=Net.FC X G ?m0 ?md0 ?md1 ?md2 ?md3 ?md4 ?md5 ?md6 ?md7 ?md8 ?mcc ?mve ?hn0 ?tk0 ?x0 ?xm0 ?kv0 ?k0_0 ?kd0_0 ?kd0_1 ?kd0_2 ?kd0_3 ?kd0_4 ?kd0_5 ?kd0_6 ?kd0_7 ?kd0_8 ?ga0 ?gt0 ?cl0 ?mo0 ?mb0,setW:=⟨_,bU X G ?aSW,Net.BB ?lSW ?zSW ?vSW⟩,termW:=⟨_,bU X G ?aTW,Net.BB ?lTW ?zTW ?vTW⟩,nbD:=⟨_,_,bU X G ?aNB,Net.Jv ?sNB ?lNB,Net.Fm⟩,minN:=cB X G ?mmi,made:=Net.cJ X G ?a0 ?l0 ?c0 ?k0,name:=Net.cJ X G ?a1 ?l1 ?c1 ?k1,vari:=Net.cJ X G ?a2 ?l2 ?c2 ?k2,rnum:=Net.cJ X G ?a3 ?l3 ?c3 ?k3,shC:=Net.cJ X G ?a4 ?l4 ?c4 ?k4,shT:=Net.cJ X G ?a5 ?l5 ?c5 ?k5,shS:=Net.cJ X G ?a6 ?l6 ?c6 ?k6,rdC:=Net.cJ X G ?a7 ?l7 ?c7 ?k7,rdT:=Net.cJ X G ?a8 ?l8 ?c8 ?k8,refu:=Net.cJ X G ?a9 ?l9 ?c9 ?k9,splt:=Net.cJ X G ?a10 ?l10 ?c10 ?k10,depo:=Net.cJ X G ?a11 ?l11 ?c11 ?k11,init:=Net.zV ?a12 ?i12 ?l12 ?c12 ?k12,comi:=Net.zV ?a13 ?i13 ?l13 ?c13 ?k13,take:=Net.zV ?a14 ?i14 ?l14 ?c14 ?k14,pass:=Net.zV ?a15 ?i15 ?l15 ?c15 ?k15,rwc:=Net.cJ X G ?a16 ?l16 ?c16 ?k16,rwt:=Net.cJ X G ?a17 ?l17 ?c17 ?k17,ister:=Net.cJ X G ?a18 ?l18 ?c18 ?k18,rwh:=Net.cJ X G ?a19 ?l19 ?c19 ?k19,rfst:=Net.cJ X G ?a20 ?l20 ?c20 ?k20,rnam:=Net.cJ X G ?a21 ?l21 ?c21 ?k21,rcos:=Net.cJ X G ?a22 ?l22 ?c22 ?k22,rove:=Net.cJ X G ?a23 ?l23 ?c23 ?k23,rtwo:=Net.cJ X G ?a24 ?l24 ?c24 ?k24,rbra:=Net.cJ X G ?a25 ?l25 ?c25 ?k25,rfrn:=Net.cJ X G ?a26 ?l26 ?c26 ?k26,rset:=Net.cJ X G ?a27 ?l27 ?c27 ?k27,rnms:=Net.cJ X G ?a28 ?l28 ?c28 ?k28,cell:=Net.cJ X G ?a29 ?l29 ?c29 ?k29,mixed:=Net.cJ X G ?a30 ?l30 ?c30 ?k30,words:=Net.cJ X G ?a31 ?l31 ?c31 ?k31,point:=Net.cJ X G ?a32 ?l32 ?c32 ?k32,setw:=Net.cJ X G ?a33 ?l33 ?c33 ?k33,numw:=Net.cJ X G ?a34 ?l34 ?c34 ?k34,leaf:=Net.cJ X G ?a35 ?l35 ?c35 ?k35,rund:=Net.cJ X G ?a36 ?l36 ?c36 ?k36,txts:=Net.cJ X G ?a37 ?l37 ?c37 ?k37,sxt:=Net.cJ X G ?a38 ?l38 ?c38 ?k38,ltx:=Net.cJ X G ?a39 ?l39 ?c39 ?k39,lrun:=Net.cJ X G ?a40 ?l40 ?c40 ?k40,lnms:=Net.cJ X G ?a41 ?l41 ?c41 ?k41,nend:=Net.cJ X G ?a42 ?l42 ?c42 ?k42,send:=Net.cJ X G ?a43 ?l43 ?c43 ?k43,cend:=Net.cJ X G ?a44 ?l44 ?c44 ?k44,flat:=Net.cJ X G ?a45 ?l45 ?c45 ?k45,ltwo:=Net.cJ X G ?a46 ?l46 ?c46 ?k46,lbra:=Net.cJ X G ?a47 ?l47 ?c47 ?k47,linn:=Net.cJ X G ?a48 ?l48 ?c48 ?k48,lran:=Net.cJ X G ?a49 ?l49 ?c49 ?k49,lnth:=Net.cJ X G ?a50 ?l50 ?c50 ?k50,lthi:=Net.cJ X G ?a51 ?l51 ?c51 ?k51,lful:=Net.cJ X G ?a52 ?l52 ?c52 ?k52,lis:=Net.cJ X G ?a53 ?l53 ?c53 ?k53,lcau:=Net.cJ X G ?a54 ?l54 ?c54 ?k54,ljud:=Net.cJ X G ?a55 ?l55 ?c55 ?k55,lchg:=Net.cJ X G ?a56 ?l56 ?c56 ?k56,lodd:=Net.cJ X G ?a57 ?l57 ?c57 ?k57}
  case aC|a0|l0|c0|k0|a1|l1|c1|k1|a2|l2|c2|k2|a3|l3|c3|k3|a4|l4|c4|k4|a5|l5|c5|k5|a6|l6|c6|k6|a7|l7|c7|k7|a8|l8|c8|k8|a9|l9|c9|k9|a10|l10|c10|k10|a11|l11|c11|k11|a12|i12|l12|c12|k12|a13|i13|l13|c13|k13|a14|i14|l14|c14|k14|a15|i15|l15|c15|k15|a16|l16|c16|k16|a17|l17|c17|k17|a18|l18|c18|k18|a19|l19|c19|k19|a20|l20|c20|k20|a21|l21|c21|k21|a22|l22|c22|k22|a23|l23|c23|k23|a24|l24|c24|k24|a25|l25|c25|k25|a26|l26|c26|k26|a27|l27|c27|k27|a28|l28|c28|k28|a29|l29|c29|k29|a30|l30|c30|k30|a31|l31|c31|k31|a32|l32|c32|k32|a33|l33|c33|k33|a34|l34|c34|k34|a35|l35|c35|k35|a36|l36|c36|k36|a37|l37|c37|k37|a38|l38|c38|k38|a39|l39|c39|k39|a40|l40|c40|k40|a41|l41|c41|k41|a42|l42|c42|k42|a43|l43|c43|k43|a44|l44|c44|k44|a45|l45|c45|k45|a46|l46|c46|k46|a47|l47|c47|k47|a48|l48|c48|k48|a49|l49|c49|k49|a50|l50|c50|k50|a51|l51|c51|k51|a52|l52|c52|k52|a53|l53|c53|k53|a54|l54|c54|k54|a55|l55|c55|k55|a56|l56|c56|k56|a57|l57|c57|k57|aL|lL|cL|kL|pg|hd|po|sa|mk|kc=>k_is
  case nS|nL=>(unfold L2.iU;k_is)
  case z_all|z_isinstance|z_str|z_int|z_bool|z_list|z_tuple|z_len|z_range|z_abs|z_max|m0|md0|md1|md2|md3|md4|md5|md6|md7|md8|mcc|mve|hn0|tk0=>k_is
  case x0=>k_exc
  case xm0=>kts_exm
  case kv0|k0_0|kd0_0|kd0_1|kd0_2|kd0_3|kd0_4|kd0_5|kd0_6|kd0_7|kd0_8=>kit_is
  case ga0|gt0|cl0|mo0|mb0|aSW|lSW=>k_is
  case zSW=>decide
  case vSW=>exact Net.o0 rfl
  case aTW|lTW=>k_is
  case zTW=>decide
  case vTW=>exact Net.o0 rfl
  case aNB=>k_is
  case sNB=>decide
  case lNB|mmi|gS=>k_is
  case rS=>exact⟨_,rfl⟩
  case gN=>k_is
  case rN=>exact⟨_,rfl⟩
  case gP=>k_is
  case rP=>exact⟨_,rfl⟩
  case gM=>k_is
  case rM=>exact⟨_,rfl⟩
  case gD=>k_is
  case rD=>exact⟨_,rfl⟩
  case gG=>k_is
  case rG=>exact⟨_,rfl⟩
  case gV=>k_is
  case rV=>exact⟨_,rfl⟩
  case gL=>k_is
  case rL=>exact⟨_,rfl⟩
